/-
  The walk of GridSteps.
-/
import Derived.Test.YthloamdffgcabaaDoorBlk
import Derived.Deep.CutRange
namespace Go.Proofs.YthloamdffgcabaaDoor
open Go.RowKit

/-- The two ports lead along unlike ways. -/
def apt (p q : Int) : Bool := decide (p < 3) != decide (q < 3)

set_option maxRecDepth 100000 in
set_option maxHeartbeats 2000000 in
theorem gridSteps_any (c : Cf) (n a0 a1 : Int) (w : World) (hS : Steps w) (hB : Backs w) : Calls Tryd.prog 7 #[cfv c, .int .i64 n, .agg #[.int .i64 a0, .int .i64 a1]] w fun e w' => e = .returned (.bool true) ∧ Below w.heap.size w w' := by
  have T0 : Hid (Wk w c #[.int .i64 a0, .int .i64 a1] 43 ((w.alloc (.cells (cfc c) 23)).alloc (.cells #[.int .i64 a0, .int .i64 a1] 43))) := Wk.start _ _ _ _
  have LV := lives_any _ (T0.out.steps hS)
  have SM := fun v => small_form c v
  have HS : Hid (Steps w) := hS
  have HB : Hid (Backs w) := hB
  clear hS hB
  obtain ⟨cw, ch, cl, cd, cr, ci, cb, we, ca⟩ := c
  simp only [cfv, cfc] at *
  go_enter Tryd.func7, Tryd.ntmps7
  go_wp2_with fail
  go_at_call 8
  refine LV.mono ?_
  rintro e v1 ⟨rfl, hb⟩
  have T1 : Hid (Wk w _ _ 43 v1) := T0.out.next hb
  clear hb LV T0
  go_upto_region 3 with fail
  go_cut [] from 21 to 24 (fun wc => ∃ c', Wk w c' #[.int .i64 a0, .int .i64 a1] 43 wc ∧ Fits c')
  case first =>
    obtain ⟨x0, x1, x2, x3, x4, x5, x6, x7, x8⟩ := T1.out.cells
    have z1 := T1.out.lt
    simp only at x0 x1 x2 x3 x4 x5 x6 x7 x8
    go_wp2_with fail
    go_at_call 27
    refine (SM _).mono ?_
    rintro e v2 ⟨dw, dh, dl, dd, dr, di, db, de, da, rfl, hb, f, f1, f2⟩
    have T2 : Hid (Wk w _ _ 43 v2) := T1.out.next hb
    have HF : Hid (Fits ⟨dw, dh, dl, dd, dr, di, db, de, da⟩) := f
    clear x0 x1 x2 x3 x4 x5 x6 x7 x8 hb SM f f1 f2 z1
    obtain ⟨x0, x1, x2, x3, x4, x5, x6, x7, x8⟩ := T2.out.cells
    obtain ⟨g0, g1, g2, g3, g4, g5, g6, g7, g8⟩ := T2.out.free
    simp only at x0 x1 x2 x3 x4 x5 x6 x7 x8
    go_wp2_with fail
    go_meet
    exact ⟨⟨dw, dh, dl, dd, dr, di, db, de, da⟩, T2.out.all ⟨dw, dh, dl, dd, dr, di, db, de, da⟩, HF.out⟩
  case rest =>
  obtain ⟨c', h2, f⟩ := hcut
  obtain ⟨v2, rfl⟩ : ∃ v2 : World, v2 = wc := ⟨_, rfl⟩
  have hc := chk_fits f
  have I1 := nde_in hc n
  have N1 := node_any c' hc n
  have IS := is_any c' (nde c' n)
  obtain ⟨q, hq, q0, q1⟩ := tm_in a0 4 (by decide)
  obtain ⟨r, hr, r0, r1⟩ := tm_in a1 4 (by decide)
  have BE := fun a p v h => beside_any c' a p v h
  have BA := fun v h => back_any (1 + q) v h
  have C1 : bsB c' (nde c' n) (1 + q) = true → bsB c' (bsN c' (nde c' n) (1 + q)) (bck (1 + q)) = true ∧ bsN c' (bsN c' (nde c' n) (1 + q)) (bck (1 + q)) = nde c' n := fun h => back_ok h
  have C2 : bsB c' (nde c' n) (1 + q) = true → bsB c' (nde c' n) (1 + r) = true → apt (1 + q) (1 + r) = true → bsB c' (bsN c' (nde c' n) (1 + q)) (1 + r) = true ∧ bsB c' (bsN c' (nde c' n) (1 + r)) (1 + q) = true ∧ bsN c' (bsN c' (nde c' n) (1 + q)) (1 + r) = bsN c' (bsN c' (nde c' n) (1 + r)) (1 + q) ∧ fr c' (nde c' n) (bsN c' (bsN c' (nde c' n) (1 + q)) (1 + r)) = 2 := fun h1 h2 h3 => cross h1 h2 (by omega) (by omega) (by simpa [apt] using h3)
  have T2 : Hid (Wk w c' #[.int .i64 a0, .int .i64 a1] 43 v2) := h2
  rw [I1] at IS
  clear h2 hc f I1 SM T1
  generalize nde c' n = A at *
  have B1 := BE A (1 + q)
  have B2 := BE A (1 + r)
  generalize bsN c' A (1 + q) = X at *
  generalize bsN c' A (1 + r) = Y at *
  generalize bsB c' A (1 + q) = G at *
  generalize bsB c' A (1 + r) = H at *
  have B3 := BE X (1 + r)
  have B4 := BE Y (1 + q)
  have B5 := BE X (bck (1 + q))
  have FA := far_any c' A (bsN c' X (1 + r))
  generalize bck (1 + q) = P at *
  generalize bsN c' X (1 + r) = U at *
  generalize bsN c' Y (1 + q) = V at *
  generalize bsB c' X (1 + r) = K at *
  generalize bsB c' Y (1 + q) = L at *
  generalize bsN c' X P = Z at *
  generalize bsB c' X P = Z1 at *
  generalize fr c' A U = D at *
  obtain ⟨t, ht⟩ : ∃ t, apt (1 + q) (1 + r) = t := ⟨_, rfl⟩
  rw [ht] at C2
  have Ht : Hid (apt (1 + q) (1 + r) = t) := ht
  obtain ⟨cw, ch, cl, cd, cr, ci, cb, we, ca⟩ := c'
  simp only [cfv, cfc] at *
  have HQ : Hid (0 ≤ q ∧ q < 4 ∧ 0 ≤ r ∧ r < 4) := ⟨q0, q1, r0, r1⟩
  have HC1 : Hid (G = true → Z1 = true ∧ Z = A) := C1
  have HC2 : Hid (G = true → H = true → t = true → K = true ∧ L = true ∧ U = V ∧ D = 2) := C2
  clear BE ht C1 C2
  obtain ⟨x0, x1, x2, x3, x4, x5, x6, x7, x8⟩ := T2.out.cells
  have z2 := T2.out.lt
  simp only at x0 x1 x2 x3 x4 x5 x6 x7 x8
  go_wp2_with fail
  go_at_call 28
  refine (N1 _).mono ?_
  rintro e v3 ⟨rfl, hb⟩
  have T3 : Hid (Wk w _ _ 43 v3) := T2.out.next hb
  clear hb x0 x1 x2 x3 x4 x5 x6 x7 x8 z2 T2 N1
  have y0 : v3.cell? ⟨w.heap.size + 1, 0, none⟩ = some (.int .i64 a0) := T3.out.arr 0
  have y1 : v3.cell? ⟨w.heap.size + 1, 1, none⟩ = some (.int .i64 a1) := T3.out.arr 1
  have e1 : IntKind.i64.wrap (1 + q) = 1 + q := IntWalk.i64_in _ (by omega)
  have e2 : IntKind.i64.wrap (1 + r) = 1 + r := IntWalk.i64_in _ (by omega)
  go_upto_region 5 with fail
  go_cut [8, 9] from 21 to 39 (fun s8 s9 wc => s8 = .int .i64 (1 + q) ∧ s9 = .int .i64 (1 + r) ∧ Wk w ⟨cw, ch, cl, cd, cr, ci, cb, we, ca⟩ #[.int .i64 a0, .int .i64 a1] 43 wc)
  case first =>
    have HD : Hid (∀ k, Wk w ⟨cw, ch, cl, cd, cr, ci, cb, we, ca⟩ #[.int .i64 a0, .int .i64 a1] 43 (v3.drewN k)) := fun k => T3.out.drewN k
    clear B1 B2 B3 B4 B5 FA IS BA
    go_wp2_with fail
    go_quiet (fail)
    go_wp2
    go_meet
    exact ⟨rfl, rfl, HD.out _⟩
  case rest =>
  obtain ⟨rfl, rfl, h4⟩ := hcut
  obtain ⟨v4, rfl⟩ : ∃ v4 : World, v4 = wc := ⟨_, rfl⟩
  have T4 : Hid (Wk w ⟨cw, ch, cl, cd, cr, ci, cb, we, ca⟩ #[.int .i64 a0, .int .i64 a1] 43 v4) := h4
  clear h4 T3 y0 y1 e1 e2 hq hr q0 q1 r0 r1
  obtain ⟨x0, x1, x2, x3, x4, x5, x6, x7, x8⟩ := T4.out.cells
  have z4 := T4.out.lt
  have hs := T4.out.steps HS.out
  simp only at x0 x1 x2 x3 x4 x5 x6 x7 x8
  go_wp2_with fail
  go_at_call 15
  refine (B1 _ hs).mono ?_
  rintro e v5 ⟨rfl, hb⟩
  have T5 : Hid (Wk w _ _ 43 v5) := T4.out.next hb
  clear hb x0 x1 x2 x3 x4 x5 x6 x7 x8 z4 hs T4 B1
  obtain ⟨x0, x1, x2, x3, x4, x5, x6, x7, x8⟩ := T5.out.cells
  have z5 := T5.out.lt
  have hs := T5.out.steps HS.out
  simp only at x0 x1 x2 x3 x4 x5 x6 x7 x8
  go_wp2_with fail
  go_at_call 15
  refine (B2 _ hs).mono ?_
  rintro e v6 ⟨rfl, hb⟩
  have T6 : Hid (Wk w _ _ 43 v6) := T5.out.next hb
  clear hb x0 x1 x2 x3 x4 x5 x6 x7 x8 z5 hs T5 B2
  obtain ⟨x0, x1, x2, x3, x4, x5, x6, x7, x8⟩ := T6.out.cells
  have z6 := T6.out.lt
  simp only at x0 x1 x2 x3 x4 x5 x6 x7 x8
  cases G with
  | false =>
    clear B3 B4 B5 FA BA
    go_wp2_with fail
    go_at_call 17
    refine (IS _).mono ?_
    rintro e v7 ⟨rfl, hb⟩
    have T7 : Hid (Wk w _ _ 43 v7) := T6.out.next hb
    clear hb
    go_wp2
    go_ret
    exact ⟨rfl, T7.out.below⟩
  | true =>
  cases H with
  | false =>
    clear B3 B4 B5 FA BA
    go_wp2_with fail
    go_at_call 17
    refine (IS _).mono ?_
    rintro e v7 ⟨rfl, hb⟩
    have T7 : Hid (Wk w _ _ 43 v7) := T6.out.next hb
    clear hb
    go_wp2
    go_ret
    exact ⟨rfl, T7.out.below⟩
  | true =>
  obtain ⟨rfl, rfl⟩ := HC1.out rfl
  have hs := T6.out.steps HS.out
  clear IS
  go_wp2_with fail
  go_at_call 15
  refine (B3 _ hs).mono ?_
  rintro e v7 ⟨rfl, hb⟩
  have T7 : Hid (Wk w _ _ 43 v7) := T6.out.next hb
  clear hb x0 x1 x2 x3 x4 x5 x6 x7 x8 z6 hs T6 B3
  obtain ⟨x0, x1, x2, x3, x4, x5, x6, x7, x8⟩ := T7.out.cells
  have z7 := T7.out.lt
  have hs := T7.out.steps HS.out
  simp only at x0 x1 x2 x3 x4 x5 x6 x7 x8
  go_wp2_with fail
  go_at_call 15
  refine (B4 _ hs).mono ?_
  rintro e v8 ⟨rfl, hb⟩
  have T8 : Hid (Wk w _ _ 43 v8) := T7.out.next hb
  clear hb x0 x1 x2 x3 x4 x5 x6 x7 x8 z7 hs T7 B4
  have D1 := T8.out.drew
  have S1 := D1.cells
  have Q1 := D1.backs HB.out
  have R1 := D1.steps HS.out
  simp only at S1
  go_wp2_with fail
  go_region_held3 (fun v => v.cell? ⟨w.heap.size, 0, none⟩ = some (.int .i64 cw) ∧ v.cell? ⟨w.heap.size, 1, none⟩ = some (.int .i64 ch) ∧ v.cell? ⟨w.heap.size, 2, none⟩ = some (.int .i64 cl) ∧ v.cell? ⟨w.heap.size, 3, none⟩ = some (.int .i64 cd) ∧ v.cell? ⟨w.heap.size, 4, none⟩ = some (.int .i64 cr) ∧ v.cell? ⟨w.heap.size, 5, none⟩ = some (.int .i64 ci) ∧ v.cell? ⟨w.heap.size, 6, none⟩ = some (.int .i64 cb) ∧ v.cell? ⟨w.heap.size, 7, none⟩ = some (.bool we) ∧ v.cell? ⟨w.heap.size, 8, none⟩ = some (.bool ca))
    (first | exact S2 | exact S1 | go_keep)
    (first
      | (go_at_call 18; (with_reducible refine (BA _ Q1).mono ?_); rintro e u ⟨rfl, rfl⟩)
      | (go_at_call 15; (with_reducible refine (B5 _ R1).mono ?_); rintro e u2 ⟨rfl, hb2⟩; have D2 := D1.next hb2; have S2 := D2.cells))
  have T9 : Hid (Wk w ⟨cw, ch, cl, cd, cr, ci, cb, we, ca⟩ #[.int .i64 a0, .int .i64 a1] 43 u2) := D2
  clear D1 S1 Q1 R1 D2 S2 hb2 B5 BA T8
  obtain ⟨x0, x1, x2, x3, x4, x5, x6, x7, x8⟩ := T9.out.cells
  have z9 := T9.out.lt
  simp only at x0 x1 x2 x3 x4 x5 x6 x7 x8
  have ht := Ht.out
  unfold apt at ht
  rcases (by omega : (1 + q < 3 ∧ 1 + r < 3) ∨ (1 + q < 3 ∧ ¬ 1 + r < 3) ∨ (¬ 1 + q < 3 ∧ 1 + r < 3) ∨ (¬ 1 + q < 3 ∧ ¬ 1 + r < 3)) with ⟨p1, p2⟩ | ⟨p1, p2⟩ | ⟨p1, p2⟩ | ⟨p1, p2⟩
  · have d1 : decide (1 + q < 3) = true := by simp [p1]
    have d2 : decide (1 + r < 3) = true := by simp [p2]
    rw [d1, d2] at ht
    obtain rfl : t = false := ht.symm
    clear ht
    clear FA
    go_wp2
    go_ret
    exact ⟨rfl, T9.out.below⟩
  · have d1 : decide (1 + q < 3) = true := by simp [p1]
    have d2 : decide (1 + r < 3) = false := by simp [p2]
    rw [d1, d2] at ht
    obtain rfl : t = true := ht.symm
    clear ht
    obtain ⟨rfl, rfl, rfl, rfl⟩ := HC2.out (by simp) (by simp) (by simp)
    go_wp2_with fail
    go_at_call 20
    refine (FA _).mono ?_
    rintro e va ⟨rfl, hb⟩
    have Ta : Hid (Wk w _ _ 43 va) := T9.out.next hb
    clear hb
    go_wp2
    go_ret
    exact ⟨rfl, Ta.out.below⟩
  · have d1 : decide (1 + q < 3) = false := by simp [p1]
    have d2 : decide (1 + r < 3) = true := by simp [p2]
    rw [d1, d2] at ht
    obtain rfl : t = true := ht.symm
    clear ht
    obtain ⟨rfl, rfl, rfl, rfl⟩ := HC2.out (by simp) (by simp) (by simp)
    go_wp2_with fail
    go_at_call 20
    refine (FA _).mono ?_
    rintro e va ⟨rfl, hb⟩
    have Ta : Hid (Wk w _ _ 43 va) := T9.out.next hb
    clear hb
    go_wp2
    go_ret
    exact ⟨rfl, Ta.out.below⟩
  · have d1 : decide (1 + q < 3) = false := by simp [p1]
    have d2 : decide (1 + r < 3) = false := by simp [p2]
    rw [d1, d2] at ht
    obtain rfl : t = false := ht.symm
    clear ht
    clear FA
    go_wp2
    go_ret
    exact ⟨rfl, T9.out.below⟩
end Go.Proofs.YthloamdffgcabaaDoor
