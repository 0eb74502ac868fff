/-
  The walk of TurnGoes.
-/
import Derived.Test.YtdphimggmjhlaaaDoorOptW
import Derived.Deep.CutRange
namespace Go.Proofs.YtdphimggmjhlaaaDoor
open Go.RowKit

/-- A slice that came in reads as these values. -/
def RdA (w : World) (a : Option Addr) (vs : List Value) : Prop :=
  ∀ (j : Nat) (v : Value), vs[j]? = some v → ∃ g o, a = some ⟨g, o, none⟩ ∧ g < w.heap.size ∧ w.cell? ⟨g, o + j, none⟩ = some v
/-- Numbers that a machine's words hold. -/
def inI (n : Int) : Prop := -9223372036854775808 ≤ n ∧ n ≤ 9223372036854775807

/-- A packet that goes by options. -/
theorem goes_inv {c : Cf} {a b : Int} (ha : isN c a = true) (hb : isN c b = true) : ∃ (far : Nat) (Inv : Int → Int → Nat → Prop), fr c a b = far ∧ far ≤ 126 ∧ Inv a 0 0 ∧
    (∀ x l k, Inv x l k → k < far → ∀ ch, chB (opt c x b) = true ∧ bsB c x (chP (opt c x b) ch) = true ∧ alw l (chP (opt c x b) ch) = true ∧ chP (opt c x b) ch ≠ 0 ∧ Inv (bsN c x (chP (opt c x b) ch)) (chP (opt c x b) ch) (k + 1)) ∧
    (∀ x l, Inv x l far → x = b) := by
  have h0 := fr_nonneg ha hb
  have h1 := fr_in c a b
  refine ⟨(fr c a b).toNat, fun x l k => isN c x = true ∧ Went c l x b ∧ fr c x b + k = fr c a b, by omega, by omega, ⟨ha, Or.inl rfl, by simp⟩, fun x l k hI hk ch => ?_, fun x l hI => ?_⟩
  · obtain ⟨hx, hw, hf⟩ := hI
    have hne : x ≠ b := fun e => by
      have := (fr_zero hx hb).2 e
      omega
    have hl : (opt c x b).length ≠ 0 := by have := (opt_len hx hb).1; omega
    have hm := chP_mem hl ch
    obtain ⟨n1, n2, n3⟩ := opt_near hx hb hne hm
    exact ⟨by unfold chB; simp [hl], n2, went_ok hx hb hne hw hm, n1, (step_ok n2).2.2.2.1, went_next hx hb hne hm, by omega⟩
  · obtain ⟨hx, _, hf⟩ := hI
    exact (fr_zero hx hb).1 (by omega)

set_option maxRecDepth 100000 in
set_option maxHeartbeats 2000000 in
theorem turnGoes_any (c : Cf) (a0 a1 : Int) (s : Option Addr) (l : List Int) (cap : Nat) (w : World) (hr : RdA w s (vi l)) (hi : ∀ n ∈ l, inI n) (hS : Steps w) (hT : Tabs w) : Calls Tryd.prog 6 #[cfv c, .agg #[.int .i64 a0, .int .i64 a1], .slice s l.length cap] w fun e w' => e = .returned (.bool true) ∧ Below w.heap.size w w' := by
  have T0 : Hid (Wk w c #[.int .i64 a0, .int .i64 a1] 24 ((w.alloc (.cells (cfc c) 23)).alloc (.cells #[.int .i64 a0, .int .i64 a1] 24))) := Wk.start _ _ _ _
  have LV := lives_any _ (T0.out.tabs hT)
  have SM := fun v => small_form c v
  have HS : Hid (Steps w) := hS
  have HT : Hid (Tabs w) := hT
  have HR : Hid (RdA w s (vi l)) := hr
  have HI : Hid (∀ n ∈ l, inI n) := hi
  obtain ⟨ln, hln⟩ : ∃ ln, l.length = ln := ⟨_, rfl⟩
  have HLN : Hid (l.length = ln) := hln
  rw [hln]
  clear hS hT hr hi hln
  obtain ⟨cw, ch, cl, cd, cr, ci, cb, we, ca⟩ := c
  simp only [cfv, cfc] at *
  go_enter Tryd.func6, Tryd.ntmps6
  go_wp2_with fail
  go_at_call 9
  refine LV.mono ?_
  rintro e v1 ⟨rfl, hb⟩
  have T1 : Hid (Wk w ⟨cw, ch, cl, cd, cr, ci, cb, we, ca⟩ #[.int .i64 a0, .int .i64 a1] 24 v1) := T0.out.next hb
  clear hb LV T0
  go_upto_region 3 with fail
  go_cut [] from 19 to 20 (fun wc => ∃ c', Wk w c' #[.int .i64 a0, .int .i64 a1] 24 wc ∧ Fits c')
  case first =>
    obtain ⟨x0, x1, x2, x3, x4, x5, x6, x7, x8⟩ := T1.out.cells
    have z1 := T1.out.lt
    simp only at x0 x1 x2 x3 x4 x5 x6 x7 x8
    go_wp2_with fail
    go_at_call 19
    refine (SM _).mono ?_
    rintro e v2 ⟨dw, dh, dl, dd, dr, di, db, de, da, rfl, hb, f, f1, f2⟩
    have T2 : Hid (Wk w _ #[.int .i64 a0, .int .i64 a1] 24 v2) := T1.out.next hb
    have HF : Hid (Fits ⟨dw, dh, dl, dd, dr, di, db, de, da⟩) := f
    clear x0 x1 x2 x3 x4 x5 x6 x7 x8 hb SM f f1 f2 z1
    obtain ⟨x0, x1, x2, x3, x4, x5, x6, x7, x8⟩ := T2.out.cells
    obtain ⟨g0, g1, g2, g3, g4, g5, g6, g7, g8⟩ := T2.out.free
    simp only at x0 x1 x2 x3 x4 x5 x6 x7 x8
    go_wp2_with fail
    go_meet
    exact ⟨⟨dw, dh, dl, dd, dr, di, db, de, da⟩, T2.out.all ⟨dw, dh, dl, dd, dr, di, db, de, da⟩, HF.out⟩
  case rest =>
  obtain ⟨c', h2, f⟩ := hcut
  obtain ⟨v2, rfl⟩ : ∃ v2 : World, v2 = wc := ⟨_, rfl⟩
  have T2 : Hid (Wk w c' #[.int .i64 a0, .int .i64 a1] 24 v2) := h2
  clear h2 T1 SM
  have hc := chk_fits f
  have I1 := nde_in hc a0
  have I2 := nde_in hc a1
  have N1 := node_any c' hc a0
  have N2 := node_any c' hc a1
  have FA := far_any c' (nde c' a0) (nde c' a1)
  obtain ⟨far, Inv, e1, e2, i0, i1, i2⟩ := goes_inv I1 I2
  have CH := fun x k (h : inI k) v h' => choose_any c' x (nde c' a1) k h.1 h.2 v h'
  have BE := fun x q v h => beside_any c' x q v h
  rw [e1] at FA
  clear hc f I1 I2 e1
  obtain ⟨CP, hCP⟩ : ∃ CP : Int → Int → Int, ∀ x k, chP (opt c' x (nde c' a1)) k = CP x k := ⟨fun x k => chP (opt c' x (nde c' a1)) k, fun _ _ => rfl⟩
  obtain ⟨CB, hCB⟩ : ∃ CB : Int → Bool, ∀ x, chB (opt c' x (nde c' a1)) = CB x := ⟨fun x => chB (opt c' x (nde c' a1)), fun _ => rfl⟩
  simp only [hCP, hCB] at *
  clear hCP hCB
  generalize bsN c' = M at *
  generalize bsB c' = G at *
  generalize nde c' a0 = A at *
  generalize nde c' a1 = B at *
  have HI0 : Hid (Inv A 0 0) := i0
  have HI1 : Hid (∀ x l k, Inv x l k → k < far → ∀ ch, CB x = true ∧ G x (CP x ch) = true ∧ alw l (CP x ch) = true ∧ CP x ch ≠ 0 ∧ Inv (M x (CP x ch)) (CP x ch) (k + 1)) := i1
  have HI2 : Hid (∀ x l, Inv x l far → x = B) := i2
  clear i0 i1 i2
  obtain ⟨cw', ch', cl', cd', cr', ci', cb', we', ca'⟩ := c'
  simp only [cfv, cfc] at *
  go_wp2_with fail
  have D1 := T2.out.drew
  have S1 := And.intro D1.tops D1.cells
  go_region_held3 (fun v => (v.cell? ⟨w.heap.size + 1, 0, none⟩ = some (.int .i64 a0) ∧ v.cell? ⟨w.heap.size + 1, 1, none⟩ = some (.int .i64 a1)) ∧ v.cell? ⟨w.heap.size, 0, none⟩ = some (.int .i64 cw') ∧ v.cell? ⟨w.heap.size, 1, none⟩ = some (.int .i64 ch') ∧ v.cell? ⟨w.heap.size, 2, none⟩ = some (.int .i64 cl') ∧ v.cell? ⟨w.heap.size, 3, none⟩ = some (.int .i64 cd') ∧ v.cell? ⟨w.heap.size, 4, none⟩ = some (.int .i64 cr') ∧ v.cell? ⟨w.heap.size, 5, none⟩ = some (.int .i64 ci') ∧ v.cell? ⟨w.heap.size, 6, none⟩ = some (.int .i64 cb') ∧ v.cell? ⟨w.heap.size, 7, none⟩ = some (.bool we') ∧ v.cell? ⟨w.heap.size, 8, none⟩ = some (.bool ca'))
    (first | exact S3 | exact S2 | exact S1 | go_keep)
    (first
      | (go_at_call 20; (with_reducible refine (N1 _).mono ?_); rintro e u2 ⟨rfl, hb2⟩; have D2 := D1.next hb2; have S2 := And.intro D2.tops D2.cells)
      | (go_at_call 20; (with_reducible refine (N2 _).mono ?_); rintro e u3 ⟨rfl, hb3⟩; have D3 := D2.next hb3; have S3 := And.intro D3.tops D3.cells))
  have T3 : Hid (Wk w ⟨cw', ch', cl', cd', cr', ci', cb', we', ca'⟩ #[.int .i64 a0, .int .i64 a1] 24 u3) := D3
  clear D1 S1 D2 S2 D3 S3 hb2 hb3 N1 N2 T2
  obtain ⟨x0, x1, x2, x3, x4, x5, x6, x7, x8⟩ := T3.out.cells
  simp only at x0 x1 x2 x3 x4 x5 x6 x7 x8
  go_wp2_with fail
  go_at_call 22
  refine (FA _).mono ?_
  rintro e v4 ⟨rfl, hb⟩
  have T4 : Hid (Wk w ⟨cw', ch', cl', cd', cr', ci', cb', we', ca'⟩ #[.int .i64 a0, .int .i64 a1] 24 v4) := T3.out.next hb
  clear hb FA x0 x1 x2 x3 x4 x5 x6 x7 x8 T3
  go_wp2_with fail
  go_loopw [7, 10, 11] (fun x y i wr => ∃ (m t : Int) (k : Nat), x = .int .i64 m ∧ y = .int .i64 t ∧ i = .int .i64 k ∧ k ≤ far ∧ Inv m t k ∧ Wk w ⟨cw', ch', cl', cd', cr', ci', cb', we', ca'⟩ #[.int .i64 a0, .int .i64 a1] 24 wr) (fun _ _ i _ => far - (RowKit.intOf i).toNat)
  case atStart => exact ⟨A, 0, 0, rfl, rfl, rfl, Nat.zero_le _, HI0.out, T4.out⟩
  case round =>
    obtain ⟨m, t, k, rfl, rfl, rfl, hk, hin, hat⟩ := hrel
    by_cases hlt : k < far
    · have hltz : (k : Int) < far := by omega
      have hk0 : (0 : Int) ≤ k := by omega
      have HAT : Hid (Wk w ⟨cw', ch', cl', cd', cr', ci', cb', we', ca'⟩ #[.int .i64 a0, .int .i64 a1] 24 wr) := hat
      have IV := HI1.out m t k hin hlt
      clear T4 HI0 HI2 hin
      by_cases hkl : k < ln
      · have hklz : (k : Int) < ln := by omega
        have hkl' : k < l.length := by rw [HLN.out]; exact hkl
        have hv := vi_at (l := l) (k := k) hkl'
        have hch : inI (l.getD k 0) := HI.out _ (by rw [List.getD_eq_getElem?_getD, List.getElem?_eq_getElem hkl']; exact List.getElem_mem _)
        obtain ⟨g, o, rfl, hg, c0⟩ := HR.out k _ hv
        have c1 : wr.cell? ⟨g, o + k, none⟩ = some (.int .i64 (l.getD k 0)) := (hat.below.cell (p := ⟨g, o + k, none⟩) hg).trans c0
        clear hv hkl' c0 hg
        generalize l.getD k 0 = z at *
        obtain ⟨q1, q2, q3, q4, q5⟩ := IV z
        have K1 := CH m z hch wr (HAT.out.tabs HT.out)
        have K2 := BE m (CP m z)
        have K3 := fun v h => allowed_any t (CP m z) v h
        rw [q1] at K1
        rw [q2] at K2
        rw [q3] at K3
        clear q1 q2 q3 IV CH BE hch hat HI1
        generalize CP m z = q at *
        generalize M m q = m' at *
        have b1 : (q == 0) = false := by simp [q4]
        have HIN : Hid (Inv m' q (k + 1)) := q5
        clear q4 q5
        obtain ⟨x0, x1, x2, x3, x4, x5, x6, x7, x8⟩ := HAT.out.cells
        simp only at x0 x1 x2 x3 x4 x5 x6 x7 x8
        go_wp2_with fail
        go_at_call 10
        refine K1.mono ?_
        rintro e u1 ⟨rfl, hb⟩
        have A1 : Hid (Wk w ⟨cw', ch', cl', cd', cr', ci', cb', we', ca'⟩ #[.int .i64 a0, .int .i64 a1] 24 u1) := HAT.out.next hb
        have P1 := A1.out.steps HS.out
        clear hb K1 x0 x1 x2 x3 x4 x5 x6 x7 x8 HAT
        obtain ⟨x0, x1, x2, x3, x4, x5, x6, x7, x8⟩ := A1.out.cells
        simp only at x0 x1 x2 x3 x4 x5 x6 x7 x8
        go_wp2_with fail
        go_at_call 21
        refine (K2 _ P1).mono ?_
        rintro e u2 ⟨rfl, hb⟩
        have A2 : Hid (Wk w ⟨cw', ch', cl', cd', cr', ci', cb', we', ca'⟩ #[.int .i64 a0, .int .i64 a1] 24 u2) := A1.out.next hb
        have P2 := A2.out.tabs HT.out
        clear hb K2 x0 x1 x2 x3 x4 x5 x6 x7 x8 A1 P1
        go_wp2_with fail
        go_at_call 15
        refine (K3 _ P2).mono ?_
        rintro e u3 ⟨rfl, rfl⟩
        clear K3 P2
        go_wp2
        go_roundw
        case rel => exact ⟨m', q, k + 1, rfl, rfl, by go_num, by omega, HIN.out, A2.out⟩
        case measure => simp [RowKit.intOf]; omega
      · have hklz : ¬ (k : Int) < ln := by omega
        have hch : inI 0 := by unfold inI; omega
        obtain ⟨q1, q2, q3, q4, q5⟩ := IV 0
        have K1 := CH m 0 hch wr (HAT.out.tabs HT.out)
        have K2 := BE m (CP m 0)
        have K3 := fun v h => allowed_any t (CP m 0) v h
        rw [q1] at K1
        rw [q2] at K2
        rw [q3] at K3
        clear q1 q2 q3 IV CH BE hch hat HI1
        generalize CP m 0 = q at *
        generalize M m q = m' at *
        have b1 : (q == 0) = false := by simp [q4]
        have HIN : Hid (Inv m' q (k + 1)) := q5
        clear q4 q5
        obtain ⟨x0, x1, x2, x3, x4, x5, x6, x7, x8⟩ := HAT.out.cells
        simp only at x0 x1 x2 x3 x4 x5 x6 x7 x8
        go_wp2_with fail
        go_at_call 10
        refine K1.mono ?_
        rintro e u1 ⟨rfl, hb⟩
        have A1 : Hid (Wk w ⟨cw', ch', cl', cd', cr', ci', cb', we', ca'⟩ #[.int .i64 a0, .int .i64 a1] 24 u1) := HAT.out.next hb
        have P1 := A1.out.steps HS.out
        clear hb K1 x0 x1 x2 x3 x4 x5 x6 x7 x8 HAT
        obtain ⟨x0, x1, x2, x3, x4, x5, x6, x7, x8⟩ := A1.out.cells
        simp only at x0 x1 x2 x3 x4 x5 x6 x7 x8
        go_wp2_with fail
        go_at_call 21
        refine (K2 _ P1).mono ?_
        rintro e u2 ⟨rfl, hb⟩
        have A2 : Hid (Wk w ⟨cw', ch', cl', cd', cr', ci', cb', we', ca'⟩ #[.int .i64 a0, .int .i64 a1] 24 u2) := A1.out.next hb
        have P2 := A2.out.tabs HT.out
        clear hb K2 x0 x1 x2 x3 x4 x5 x6 x7 x8 A1 P1
        go_wp2_with fail
        go_at_call 15
        refine (K3 _ P2).mono ?_
        rintro e u3 ⟨rfl, rfl⟩
        clear K3 P2
        go_wp2
        go_roundw
        case rel => exact ⟨m', q, k + 1, rfl, rfl, by go_num, by omega, HIN.out, A2.out⟩
        case measure => simp [RowKit.intOf]; omega
    · obtain rfl : k = far := by omega
      obtain rfl := HI2.out m t hin
      have HAT : Hid (Wk w ⟨cw', ch', cl', cd', cr', ci', cb', we', ca'⟩ #[.int .i64 a0, .int .i64 a1] 24 wr) := hat
      clear hat T4 HI0 HI1 HI2 hin CH BE
      go_wp2
      go_ret
      exact ⟨rfl, HAT.out.below⟩
end Go.Proofs.YtdphimggmjhlaaaDoor
