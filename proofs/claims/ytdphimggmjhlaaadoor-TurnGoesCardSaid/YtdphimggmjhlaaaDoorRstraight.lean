/-
  An append that leaves another row of the same kind; the walk of the document's Straight.
-/
import Derived.Test.YtdphimggmjhlaaaDoorChoose
import Derived.Test.YtdphimggmjhlaaaDoorRbeside
import Derived.Test.YtdphimggmjhlaaaDoorBlk
namespace Go.Proofs.YtdphimggmjhlaaaDoor
open Go.RowKit

theorem Own.apart {e : TypeId} {w : World} {B g : Nat} {v : Value} {l : List Value} (h : Own e w B v l) (hg : w.heap.size ≤ g) : v.ownBlock ≠ some g := by
  intro hc
  have := (World.ownsRow.lt h g hc).2
  omega

theorem wpList_app_apart {P : Program} {ops : Array Oper} {rest : List Oper} {o : Oper} {a : Act} {Q : Exit → Act → World → Prop} (hgd : o.guard = none) (s x : Operand) (t e : TypeId) (i : TypeInfo) (z : Value) (bytes : Nat)
    (ho : o.op = .call { callee := .builtin .append, args := #[s, x], argTypes := #[t, t] })
    (ht : P.underlying t = some (.slice e)) (hi : P.info? e = some i) (hz : i.zero = some z) (h1 : i.size = 1) (hby : i.bytes = bytes) (hzs : z.cells.size = 1) (hb8 : bytes ≤ 64)
    (B : Nat) (w : World) (v : Value) (L : List Value) (u : Value) (hs : a.eval s = v) (hown : Own e w B v L) (hx : a.eval x = .slice (some ⟨w.heap.size, 0, none⟩) 1 1) (hu : u.oneCell' = true)
    (hlen : L.length ≤ 1000000) (hbase : B ≤ w.heap.size)
    (h : ∀ v' w', Own e w' B v' (L ++ [u]) → Kept e B w w' → (∀ g, g < w.heap.size → v.ownBlock ≠ some g → w'.heap[g]? = w.heap[g]?) → wpList P ops Q rest (a.put o.dst v') w') :
    wpList P ops Q (o :: rest) a (w.alloc (.cells #[u] e)) := by
  refine wpList_append_own _ hgd s x t ho B e i z 1 bytes ht hi hz h1 hby hzs (by decide) v L.length L hs (World.ownsRow.alloc hown _) ⟨w.heap.size, 0, none⟩ 1 1 [u] hx rfl ?_ ?_ ?_ ?_ ?_ ?_
  · intro j y hj
    match j, hj with
    | 0, hj => simp at hj; subst hj; exact (World.cell?_alloc_at _ _ _ _ rfl).trans rfl
  · intro y hy; simp at hy; subst hy; exact hu
  · unfold maxLen; omega
  · have : (L.length + 1) * bytes ≤ (L.length + 1) * 64 := Nat.mul_le_mul_left _ hb8
    omega
  · simp; omega
  · intro v' w' hown' hgrow _
    have hsz : (w.alloc (.cells #[u] e)).heap.size ≤ w'.heap.size := (hgrow.size : _)
    simp at hsz
    refine h v' w' (Own.snoc hown') ⟨by omega, fun A hA => ?_, fun t' v2 l2 hne h2 => ?_, fun g C t' fr hne hg => ?_⟩ (fun g hg hne => ?_)
    · exact Below.grown (hA.alloc hbase _) hgrow (by simp; omega) (fun q hq => (World.ownsRow.lt hown q hq).1)
    · exact World.ownsRow.kept (World.ownsRow.alloc h2 _) hgrow (own_two hown h2 hne)
    · rw [hgrow.block g (by have := lt_of_heap hg; simp; omega) (fun c => own_ne hown hg (fun x => hne x.symm) c.symm), Below.heap_alloc _ _ _ (lt_of_heap hg)]
      exact hg
    · rw [hgrow.block g (by simp; omega) (fun c => hne c.symm), Below.heap_alloc _ _ _ hg]

/-- The config is told to go another way. -/
theorem W1.way {w v : World} {c : Cf} (h : W1 w c v) (t : Bool) : W1 w { c with we := t } (v.setCell ⟨w.heap.size, 7, none⟩ (.bool t)) := by
  refine ⟨?_, h.2.setCell (Nat.le_refl _) _⟩
  have hb := h.1
  unfold Blk at hb ⊢
  simp [World.setCell, Array.getElem?_modify, hb]
theorem W1.kept {e : TypeId} {w v v' : World} {c : Cf} (h : W1 w c v) (hk : Kept e w.heap.size v v') (hne : 23 ≠ e) : W1 w c v' :=
  ⟨hk.2.2.2 _ _ _ _ hne h.1, hk.2.1 _ h.2⟩

set_option maxRecDepth 100000 in
set_option maxHeartbeats 1000000 in
theorem rstraight_any (c : Cf) (a b : Int) (w : World) : Calls Tryd.prog 18 #[cfv c, .int .i64 a, .int .i64 b] w (Row w (str c a b)) := by
  obtain ⟨i0, ki, hz0, hz1, hz2⟩ := info_parts Tryd.info3
  have A0 : Hid (W1 w c (w.alloc (.cells (cfc c) 23))) := W1.start w c
  have A1 : Hid (W1 w { c with we := false } (w.alloc (.cells (cfc { c with we := false }) 23))) := W1.start w { c with we := false }
  have g7 := A0.out.free.2.2.2.2.2.2.2.1
  have LE := str_le c a b
  have OP := fun (n : Int) v => roptions_any { c with we := false } n b v
  have BE := fun (n p : Int) v => rbeside_any { c with we := false } n p v
  have GO : ∀ n, isN c n = true → isN c b = true → ∃ p, opt { c with we := false } n b = [p] ∧ ((p = 0 ∧ str c n b = [0]) ∨ (p ≠ 0 ∧ isN c (bsN c n p) = true ∧ str c n b = p :: str c (bsN c n p) b ∧ (fr c (bsN c n p) b).toNat < (fr c n b).toNat)) := fun n => rstr_go
  have NO : ∀ n, (isN c n && isN c b) = false → opt { c with we := false } n b = [] ∧ str c n b = [] := fun n h => ⟨opt_no h, by unfold str; rw [h]; rfl⟩
  simp only [bsN_we, bsB_we] at BE
  obtain ⟨ST, hST⟩ : ∃ ST : Int → List Int, ∀ n, str c n b = ST n := ⟨fun n => str c n b, fun _ => rfl⟩
  obtain ⟨OL, hOL⟩ : ∃ OL : Int → List Int, ∀ n, opt { c with we := false } n b = OL n := ⟨fun n => opt { c with we := false } n b, fun _ => rfl⟩
  obtain ⟨FR, hFR⟩ : ∃ FR : Int → Nat, ∀ n, (fr c n b).toNat = FR n := ⟨fun n => (fr c n b).toNat, fun _ => rfl⟩
  simp only [hST, hOL, hFR] at *
  clear hST hOL hFR
  obtain ⟨S, hS⟩ : ∃ S, ST a = S := ⟨_, rfl⟩
  have H0 : Hid (ST a = S) := hS
  rw [hS] at LE ⊢
  clear hS
  generalize isN c = I at *
  generalize bsN c = M at *
  generalize bsB c = G at *
  generalize I b = Ib at *
  obtain ⟨cw, ch, cl, cd, cr, ci, cb, we, ca⟩ := c
  simp only [cfv, cfc] at *
  have HGO : Hid (∀ n, I n = true → Ib = true → ∃ p, OL n = [p] ∧ ((p = 0 ∧ ST n = [0]) ∨ (p ≠ 0 ∧ I (M n p) = true ∧ ST n = p :: ST (M n p) ∧ FR (M n p) < FR n))) := GO
  have HNO : Hid (∀ n, (I n && Ib) = false → OL n = [] ∧ ST n = []) := NO
  clear GO NO
  go_enter Tryd.func18, Tryd.ntmps18
  go_wp2_with fail
  clear g7 A0
  go_loopw [1, 7] (fun x v wr => ∃ (m : Int) (P : List Int), x = .int .i64 m ∧ P ++ ST m = S ∧ (P ≠ [] → (I m && Ib) = true) ∧ Own 3 wr w.heap.size v (vi P) ∧ W1 w ⟨cw, ch, cl, cd, cr, ci, cb, false, ca⟩ wr) (fun x _ _ => FR (RowKit.intOf x))
  case atStart => exact ⟨a, [], rfl, H0.out, fun h => absurd rfl h, Own.nil _ _ _, A1.out⟩
  case round =>
    obtain ⟨m, P, rfl, hP, hI, own, hat⟩ := hrel
    have hsz : w.heap.size < wr.heap.size := hat.lt
    have K1 := OP m wr
    obtain ⟨x0, x1, x2, x3, x4, x5, x6, x7, x8⟩ := hat.cells
    simp only at x0 x1 x2 x3 x4 x5 x6 x7 x8
    cases hi : (I m && Ib) with
    | false =>
      obtain ⟨n1, n2⟩ := HNO.out m hi
      rw [n1] at K1
      rw [n2] at hP
      have hP0 : P = [] := Classical.byContradiction fun h => by rw [hI h] at hi; cases hi
      have hS0 : S = [] := by rw [← hP, hP0]; rfl
      have HAT : Hid (W1 w ⟨cw, ch, cl, cd, cr, ci, cb, false, ca⟩ wr) := hat
      clear OP BE hP hI own hat n1 n2 hP0 hi
      go_wp2_with fail
      go_at_call 14
      refine K1.mono ?_
      rintro e wa ⟨v, rfl, own, hb⟩
      have HAT2 : Hid (W1 w ⟨cw, ch, cl, cd, cr, ci, cb, false, ca⟩ wa) := HAT.out.next hb
      obtain ⟨al, cap, rfl, _, _, _⟩ := own.rd
      rw [vi_len]
      clear hb K1 own
      go_wp2
      go_ret
      exact Row.of hS0 (Own.nil _ _ _) HAT2.out.below
    | true =>
      have hi' := hi
      simp only [Bool.and_eq_true] at hi'
      obtain ⟨p, o1, o2⟩ := HGO.out m hi'.1 hi'.2
      rw [o1] at K1
      have K2 := BE m p
      have hPl : P.length ≤ 127 := by
        have := congrArg List.length hP
        rw [List.length_append] at this
        omega
      have hll : (vi P).length ≤ 1000000 := by rw [vi_len]; omega
      have hvs : Hid (vi P ++ [.int .i64 p] = vi (P ++ [p])) := vi_snoc P p
      have HOWN : Hid (Own 3 wr w.heap.size _ (vi P)) := own
      have HAT : Hid (W1 w ⟨cw, ch, cl, cd, cr, ci, cb, false, ca⟩ wr) := hat
      have HM : Hid (FR (M m p) < FR m ∨ p = 0) := by
        rcases o2 with ⟨h, _⟩ | ⟨_, _, _, h⟩
        · exact Or.inr h
        · exact Or.inl h
      have HO2 : Hid ((p = 0 ∧ P ++ [p] = S) ∨ (p ≠ 0 ∧ (P ++ [p]) ++ ST (M m p) = S ∧ (I (M m p) && Ib) = true)) := by
        rcases o2 with ⟨h, h'⟩ | ⟨h, h1, h2, _⟩
        · exact Or.inl ⟨h, by rw [h, ← h']; exact hP⟩
        · refine Or.inr ⟨h, ?_, by rw [h1, hi'.2]; rfl⟩
          rw [h2] at hP
          rw [← hP]
          simp
      clear OP BE hP hI own hat o1 o2 hi hi' hPl
      go_wp2_with fail
      go_at_call 14
      refine K1.mono ?_
      rintro e wa ⟨vl, rfl, ol, hb⟩
      have own : Own 3 wa w.heap.size _ (vi P) := HOWN.out.below hb
      have HAT2 : Hid (W1 w ⟨cw, ch, cl, cd, cr, ci, cb, false, ca⟩ wa) := HAT.out.next hb
      have hsa : w.heap.size ≤ wa.heap.size := Nat.le_of_lt HAT2.out.lt
      obtain ⟨g, cap, rfl, _, _, gB, gl, gc⟩ := ol.form (show 0 < (vi [p]).length by simp [vi])
      have c0 : wa.cell? ⟨g, 0, none⟩ = some (.int .i64 p) := gc 0 _ rfl
      have ga := HOWN.out.apart gB
      have hb' : Hid (Below wr.heap.size wr wa) := hb
      rw [show (vi [p]).length = 1 by simp [vi]]
      clear hb HOWN HAT K1 x0 x1 x2 x3 x4 x5 x6 x7 x8 hsz gc ol
      by_cases hp : p = 0
      · subst hp
        have HQ : Hid (P ++ [0] = S) := by
          rcases HO2.out with ⟨_, h⟩ | ⟨h, _⟩
          · exact h
          · exact absurd rfl h
        clear K2 HM HO2
        go_wp2_with (at_builtin; refine wpList_app_apart rfl (.tmp 19) (.tmp 23) 29 3 i0 (.int .i64 0) 8 rfl Tryd.underlying29 ki hz0 hz1 hz2 rfl (by decide) w.heap.size wa _ _ (.int .i64 0) rfl own rfl rfl hll hsa ?_; intro v1' wb o1 kb ks; have ab : Hid (W1 w ⟨cw, ch, cl, cd, cr, ci, cb, false, ca⟩ wb) := HAT2.out.kept kb (by decide); have c1 : wb.cell? ⟨g, 0, none⟩ = some (.int .i64 0) := (World.cell?_of_block (ks g gl ga)).trans c0; have gb : g < wb.drew.heap.size := Nat.lt_of_lt_of_le gl kb.1; clear kb ks own c0)
        rw [hvs.out] at o1
        have O1 : Hid (Own 3 wb w.heap.size v1' (vi (P ++ [0]))) := o1
        clear o1 HAT2
        go_ret
        exact Row.of HQ.out.symm O1.out ab.out.below
      · have HQ : Hid ((P ++ [p]) ++ ST (M m p) = S ∧ (I (M m p) && Ib) = true ∧ FR (M m p) < FR m) := by
          rcases HO2.out with ⟨h, _⟩ | ⟨_, h1, h2⟩
          · exact absurd h hp
          · refine ⟨h1, h2, ?_⟩
            rcases HM.out with h | h
            · exact h
            · exact absurd h hp
        have hp' : (p == 0) = false := by simp [hp]
        clear HM HO2
        generalize M m p = m' at *
        generalize G m p = gg at *
        go_wp2_with (at_builtin; refine wpList_app_apart rfl (.tmp 19) (.tmp 23) 29 3 i0 (.int .i64 0) 8 rfl Tryd.underlying29 ki hz0 hz1 hz2 rfl (by decide) w.heap.size wa _ _ (.int .i64 p) rfl own rfl rfl hll hsa ?_; intro v1' wb o1 kb ks; have ab : Hid (W1 w ⟨cw, ch, cl, cd, cr, ci, cb, false, ca⟩ wb) := HAT2.out.kept kb (by decide); have c1 : wb.cell? ⟨g, 0, none⟩ = some (.int .i64 p) := (World.cell?_of_block (ks g gl ga)).trans c0; have gb : g < wb.drew.heap.size := Nat.lt_of_lt_of_le gl kb.1; clear kb ks own c0)
        rw [hvs.out] at o1
        have O1 : Hid (Own 3 wb w.heap.size v1' (vi (P ++ [p]))) := o1
        clear o1 HAT2
        have D1 := ab.out.drew
        have S1 := D1.cells
        simp only at S1
        have SC : wb.drew.cell? ⟨g, 0, none⟩ = some (.int .i64 p) := c1
        go_region_held3 (fun v => v.cell? ⟨g, 0, none⟩ = some (.int .i64 p) ∧ v.cell? ⟨w.heap.size, 0, none⟩ = some (.int .i64 cw) ∧ v.cell? ⟨w.heap.size, 1, none⟩ = some (.int .i64 ch) ∧ v.cell? ⟨w.heap.size, 2, none⟩ = some (.int .i64 cl) ∧ v.cell? ⟨w.heap.size, 3, none⟩ = some (.int .i64 cd) ∧ v.cell? ⟨w.heap.size, 4, none⟩ = some (.int .i64 cr) ∧ v.cell? ⟨w.heap.size, 5, none⟩ = some (.int .i64 ci) ∧ v.cell? ⟨w.heap.size, 6, none⟩ = some (.int .i64 cb) ∧ v.cell? ⟨w.heap.size, 7, none⟩ = some (.bool false) ∧ v.cell? ⟨w.heap.size, 8, none⟩ = some (.bool ca))
          (first | exact S2 | exact ⟨SC, S1⟩ | go_keep)
          ((go_at_call 29; (with_reducible refine (K2 _).mono ?_); rintro e u2 ⟨rfl, hb2⟩; have D2 := D1.next hb2; have c2 := (hb2.cell (p := ⟨g, 0, none⟩) gb).trans SC; have S2 := And.intro c2 D2.cells))
        have AB : Hid (W1 w ⟨cw, ch, cl, cd, cr, ci, cb, false, ca⟩ u2) := D2
        have O2 : Hid (Own 3 u2 w.heap.size v1' (vi (P ++ [p]))) := (show Own 3 wb.drew w.heap.size v1' (vi (P ++ [p])) from O1.out).below hb2
        clear D1 S1 SC D2 S2 c2 gb hb2 K2 ab O1
        go_wp2
        go_roundw
        case rel => exact ⟨m', P ++ [p], rfl, HQ.out.1, fun _ => HQ.out.2.1, O2.out, AB.out⟩
        case measure => exact HQ.out.2.2
end Go.Proofs.YtdphimggmjhlaaaDoor
