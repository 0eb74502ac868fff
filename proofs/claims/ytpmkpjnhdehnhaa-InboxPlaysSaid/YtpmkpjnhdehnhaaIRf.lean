/-
  The document's inbox by value: its rows, its next numbers (Of), the one to be told (Ready). (Written by gen_irf.py.)
-/
import Derived.Test.YtpmkpjnhdehnhaaIRows
import Derived.Test.YtpmkpjnhdehnhaaIOpn
import Derived.Test.YtpmkpjnhdehnhaaGwC
namespace Go.Proofs.Ytpmkpjnhdehnhaa
open Go.RowKit

/-- A row that is only read. -/
structure RR (w : World) (v : Value) (n : Nat) (cs : List Value) : Prop where
  ex : ∃ a c, v = .slice a n c ∧ n ≤ c ∧ c ≤ maxLen ∧ (a = none → c = 0) ∧ Rd w a cs
  lt : ∀ g, v.ownBlock = some g → g < w.heap.size
section
variable {w w' : World} {v : Value} {n : Nat} {cs : List Value}
theorem RR.next (h : RR w v n cs) (hb : Below w.heap.size w w') : RR w' v n cs := by
  obtain ⟨⟨a, c, e, h1, h2, h3, h4⟩, h5⟩ := h
  exact ⟨⟨a, c, e, h1, h2, h3, h4.below hb⟩, fun g hg => Nat.lt_of_lt_of_le (h5 g hg) hb.size⟩
theorem RR.kp {O : Nat → Prop} (h : RR w v n cs) (k : Kp O w w') (ho : ∀ g, v.ownBlock = some g → O g) : RR w' v n cs := by
  obtain ⟨⟨a, c, rfl, h1, h2, h3, h4⟩, h5⟩ := h
  refine ⟨⟨a, c, rfl, h1, h2, h3, fun j x hj => ?_⟩, fun g hg => Nat.lt_of_lt_of_le (h5 g hg) k.size⟩
  obtain ⟨g, o, rfl, hg, hc⟩ := h4 j x hj
  exact ⟨g, o, rfl, Nat.lt_of_lt_of_le hg k.size, by rw [World.cell?_of_block (k.on g (ho g rfl))]; exact hc⟩
theorem RR.nil (w : World) : RR w (.slice none 0 0) 0 [] := ⟨⟨none, 0, rfl, Nat.le_refl _, by simp [maxLen], fun _ => rfl, fun j x hj => by cases hj⟩, fun g hg => by cases hg⟩
theorem RR.own {e : TypeId} {k B : Nat} (h : OwnK e k w B v n cs) (hk : 0 < k) : RR w v n cs := by
  obtain ⟨a, c, e1, h1, h2, h4⟩ := h.rd hk
  refine ⟨⟨a, c, e1, h1, h2, fun ha => ?_, h4⟩, fun g hg => (h.lt hg).2⟩
  subst ha
  rcases h.2 with ⟨e2, _⟩ | ⟨g, c', cur, e2, _⟩
  · rw [e1] at e2
    simp only [Value.slice.injEq, true_and] at e2
    exact e2.2
  · rw [e1] at e2
    simp at e2
end
abbrev PR (w : World) (v : Value) (l : List Pk) : Prop := RR w v l.length (pkcs l)
/-- Pairs, cell by cell. -/
abbrev prc (x : Int × Int) : List Value := [.int .i64 x.1, .int .i64 x.2]
abbrev prcs (l : List (Int × Int)) : List Value := l.flatMap prc
theorem prcs_len (l : List (Int × Int)) : (prcs l).length = l.length * 2 := by
  induction l with
  | nil => rfl
  | cons x l ih => simp at ih ⊢; omega
theorem prcs_at : ∀ (l : List (Int × Int)) (q : Nat) (x : Int × Int), l[q]? = some x → (prcs l)[q * 2]? = some (.int .i64 x.1) ∧ (prcs l)[q * 2 + 1]? = some (.int .i64 x.2)
  | [], q, x, h => by simp at h
  | y :: l, 0, x, h => by
    simp at h
    subst h
    simp
  | y :: l, q + 1, x, h => by
    have := prcs_at l q x (by simpa using h)
    rw [show (q + 1) * 2 = q * 2 + 1 + 1 by omega, show q * 2 + 1 + 1 + 1 = (q * 2 + 1) + 1 + 1 by omega]
    simpa using this
theorem rd_pr {w : World} {a : Option Addr} {l : List (Int × Int)} {k : Nat} {x : Int × Int} (h : Rd w a (prcs l)) (hk : l[k]? = some x) : ∃ g o, a = some ⟨g, o, none⟩ ∧ g < w.heap.size ∧ w.cell? ⟨g, o + k * 2, none⟩ = some (.int .i64 x.1) ∧ w.cell? ⟨g, o + k * 2 + 1, none⟩ = some (.int .i64 x.2) := by
  obtain ⟨h0, h1⟩ := prcs_at l k x hk
  obtain ⟨g, o, rfl, hg, c0⟩ := h _ _ h0
  obtain ⟨g', o', e, _, c⟩ := h _ _ h1
  simp only [Option.some.injEq, Addr.mk.injEq] at e
  obtain ⟨rfl, rfl, _⟩ := e
  exact ⟨g, o, rfl, hg, c0, by rw [Nat.add_assoc]; exact c⟩
abbrev NR (w : World) (v : Value) (N : List (Int × Int)) : Prop := RR w v N.length (prcs N)
/-- The document's inbox by value. -/
structure RB (w : World) (S : IS) (N : List (Int × Int)) (sl sw sn : Value) : Prop where
  l : PR w sl S.L
  k : PR w sw S.W
  n : NR w sn N
  nx : ∀ s, nxL N s = S.nx s
theorem RB.next {w w' : World} {S : IS} {N : List (Int × Int)} {sl sw sn : Value} (h : RB w S N sl sw sn) (hb : Below w.heap.size w w') : RB w' S N sl sw sn := ⟨h.l.next hb, h.k.next hb, h.n.next hb, h.nx⟩
abbrev bvv (n : Int) (sl sw sn : Value) : Value := .agg #[.int .i64 n, sl, sw, sn]
theorem nxL_drop {N : List (Int × Int)} {k : Nat} {x : Int × Int} (h : N[k]? = some x) (s : Int) : nxL (N.drop k) s = if x.1 = s then x.2 else nxL (N.drop (k + 1)) s := by
  obtain ⟨hk, rfl⟩ := List.getElem?_eq_some_iff.1 h
  rw [List.drop_eq_getElem_cons hk]
  rfl
theorem nxL_strike (N : List (Int × Int)) (s q x : Int) : nxL (N.filter (fun y => !(y.1 == s)) ++ [(s, q)]) x = if x = s then q else nxL N x := by
  rw [nxL_snoc (fun y hy => by have := (List.mem_filter.1 hy).2; simpa using this)]
  by_cases h : x = s
  · rw [if_pos h, if_pos h]
  · rw [if_neg h, if_neg h]
    induction N with
    | nil => rfl
    | cons y N ih =>
      by_cases hy : y.1 = s
      · rw [List.filter_cons_of_neg (by simp [hy]), ih]
        conv => rhs; unfold nxL
        rw [if_neg fun c => h (c.symm.trans hy)]
      · rw [List.filter_cons_of_pos (by simp [hy])]
        unfold nxL
        rw [ih]
set_option maxRecDepth 100000 in
set_option maxHeartbeats 2000000 in
theorem rof_any {w : World} {n : Int} {sl sw sn : Value} {k1 k2 : Nat} {c1 c2 : List Value} {N : List (Int × Int)} (h1 : RR w sl k1 c1) (h2 : RR w sw k2 c2) (h3 : NR w sn N) (s : Int) :
    Calls Try.prog 15 #[bvv n sl sw sn, .int .i64 s] w fun e w' => e = .returned (.int .i64 (nxL N s)) ∧ Below w.heap.size w w' := by
  obtain ⟨⟨a1, b1, rfl, _⟩, _⟩ := h1
  obtain ⟨⟨a2, b2, rfl, _⟩, _⟩ := h2
  obtain ⟨⟨a3, b3, rfl, hl3, hm3, hz3, hrd⟩, _⟩ := h3
  have hRD : Hid (Rd (w.alloc (.cells #[.int .i64 n, .slice a1 k1 b1, .slice a2 k2 b2, .slice a3 N.length b3] 29)) a3 (prcs N)) := hrd.alloc _
  have BB := Bk.new w #[.int .i64 n, .slice a1 k1 b1, .slice a2 k2 b2, .slice a3 N.length b3] 29
  have HB : Hid (Below w.heap.size w (w.alloc (.cells #[.int .i64 n, .slice a1 k1 b1, .slice a2 k2 b2, .slice a3 N.length b3] 29))) := (Below.refl _ _).alloc (Nat.le_refl _) _
  generalize hn3 : N.length = n3 at *
  have HN : Hid (N.length = n3) := hn3
  have hn3m : n3 ≤ 9223372036854775807 := Nat.le_trans hl3 hm3
  obtain ⟨R, hR⟩ : ∃ R, nxL N s = R := ⟨_, rfl⟩
  have HR : Hid (nxL N s = R) := hR
  rw [hR]
  clear hrd hn3 hm3 hz3 hR
  simp only [bvv]
  go_enter Try.func15, Try.ntmps15
  go_wp2_with fail
  generalize w.alloc (.cells #[.int .i64 n, .slice a1 k1 b1, .slice a2 k2 b2, .slice a3 n3 b3] 29) = w1 at *
  have y3 := BB.cell 3
  simp only [List.getElem?_toArray, List.getElem?_cons_zero, List.getElem?_cons_succ] at y3
  clear BB
  go_loopw [5] (fun i wr => ∃ k : Nat, k ≤ n3 ∧ i = .int .i64 (k : Int) ∧ nxL (N.drop k) s = R ∧ w1 = wr) (fun i _ => n3 - (intOf i).toNat)
  case atStart => exact ⟨0, Nat.zero_le _, rfl, HR.out, rfl⟩
  case round =>
    obtain ⟨k, hk, rfl, hd, rfl⟩ := hrel
    by_cases hlt : k < n3
    · obtain ⟨x, hx⟩ : ∃ x, N[k]? = some x := ⟨_, List.getElem?_eq_getElem (by rw [HN.out]; exact hlt)⟩
      obtain ⟨g, o, ha, _, z0, z1⟩ := rd_pr hRD.out hx
      subst ha
      have hd2 := nxL_drop hx s
      rw [hd] at hd2
      obtain ⟨x1, x2⟩ := x
      have t1 : (k : Int) < (n3 : Int) := by omega
      have HX : Hid (N[k]? = some (x1, x2)) := hx
      clear hx
      by_cases hs : x1 = s
      · have b1 : (x1 == s) = true := beq_iff_eq.2 hs
        have e : R = x2 := by rw [hd2, if_pos hs]
        subst e
        clear hd2 hd
        go_wp2_with fail
        go_ret
        exact ⟨rfl, HB.out⟩
      · have b1 : (x1 == s) = false := beq_eq_false_iff_ne.2 hs
        have hd3 : Hid (nxL (N.drop (k + 1)) s = R) := show nxL (N.drop (k + 1)) s = R from by rw [hd2, if_neg hs]
        clear hd2 hd
        go_wp2_with fail
        go_roundw
        case rel => exact ⟨k + 1, by omega, by go_num, hd3.out, trivial⟩
        case measure => simp [intOf]; omega
    · have e : R = 0 := by
        rw [← hd, List.drop_eq_nil_of_le (by rw [HN.out]; omega)]
        rfl
      subst e
      have t1 : ¬ ((k : Int) < (n3 : Int)) := by omega
      clear hd
      go_wp2_with fail
      go_ret
      exact ⟨rfl, HB.out⟩
end Go.Proofs.Ytpmkpjnhdehnhaa
