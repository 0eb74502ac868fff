/-
  The walk of GridFar.
-/
import Derived.Test.YthloamdffgcabaaDoorPlaces
namespace Go.Proofs.YthloamdffgcabaaDoor
open Go.RowKit

set_option maxRecDepth 100000 in
set_option maxHeartbeats 2000000 in
theorem gridFar_any (c : Cf) (a0 a1 a2 y : Int) (w : World) (hS : Steps w) : Calls Tryd.prog 6 #[cfv c, .agg #[.int .i64 a0, .int .i64 a1, .int .i64 a2], .int .i64 y] w fun e w' => e = .returned (.bool true) ∧ Below w.heap.size w w' := by
  have T0 : Hid (Wk w c #[.int .i64 a0, .int .i64 a1, .int .i64 a2] 24 ((w.alloc (.cells (cfc c) 23)).alloc (.cells #[.int .i64 a0, .int .i64 a1, .int .i64 a2] 24))) := Wk.start _ _ _ _
  have LV := lives_any _ (T0.out.steps hS)
  have SM := fun v => small_form c v
  have HS : Hid (Steps w) := hS
  clear hS
  obtain ⟨cw, ch, cl, cd, cr, ci, cb, we, ca⟩ := c
  simp only [cfv, cfc] at *
  go_enter Tryd.func6, Tryd.ntmps6
  go_wp2_with fail
  go_at_call 8
  refine LV.mono ?_
  rintro e v1 ⟨rfl, hb⟩
  have T1 : Hid (Wk w _ _ 24 v1) := T0.out.next hb
  clear hb LV T0
  go_upto_region 3 with fail
  go_cut [] from 16 to 17 (fun wc => ∃ c', Wk w c' #[.int .i64 a0, .int .i64 a1, .int .i64 a2] 24 wc ∧ Fits c')
  case first =>
    obtain ⟨x0, x1, x2, x3, x4, x5, x6, x7, x8⟩ := T1.out.cells
    have z1 := T1.out.lt
    simp only at x0 x1 x2 x3 x4 x5 x6 x7 x8
    go_wp2_with fail
    go_at_call 27
    refine (SM _).mono ?_
    rintro e v2 ⟨dw, dh, dl, dd, dr, di, db, de, da, rfl, hb, f, f1, f2⟩
    have T2 : Hid (Wk w _ _ 24 v2) := T1.out.next hb
    have HF : Hid (Fits ⟨dw, dh, dl, dd, dr, di, db, de, da⟩) := f
    clear x0 x1 x2 x3 x4 x5 x6 x7 x8 hb SM f f1 f2 z1
    obtain ⟨x0, x1, x2, x3, x4, x5, x6, x7, x8⟩ := T2.out.cells
    obtain ⟨g0, g1, g2, g3, g4, g5, g6, g7, g8⟩ := T2.out.free
    simp only at x0 x1 x2 x3 x4 x5 x6 x7 x8
    go_wp2_with fail
    go_meet
    exact ⟨⟨dw, dh, dl, dd, dr, di, db, de, da⟩, T2.out.all ⟨dw, dh, dl, dd, dr, di, db, de, da⟩, HF.out⟩
  case rest =>
  obtain ⟨c', h2, f⟩ := hcut
  obtain ⟨v2, rfl⟩ : ∃ v2 : World, v2 = wc := ⟨_, rfl⟩
  have hc := chk_fits f
  have I1 := nde_in hc a0
  have I2 := nde_in hc a1
  have I3 := nde_in hc a2
  have N1 := node_any c' hc a0
  have N2 := node_any c' hc a1
  have N3 := node_any c' hc a2
  have FA := far_any c'
  have FI := fr_in c'
  obtain ⟨q, hq, q0, q1⟩ := tm_in y 4 (by decide)
  have BE := fun a v h => beside_any c' a (1 + q) v h
  have M1 := fr_comm c' (nde c' a0) (nde c' a1)
  have M2 := fr_nonneg I1 I2
  have M3 := fr_zero I1 I2
  have M4 := fr_tri I1 I2 I3
  have M5 : bsB c' (nde c' a0) (1 + q) = true → fr c' (bsN c' (nde c' a0) (1 + q)) (nde c' a1) = fr c' (nde c' a0) (nde c' a1) + 1 ∨ fr c' (bsN c' (nde c' a0) (1 + q)) (nde c' a1) = fr c' (nde c' a0) (nde c' a1) - 1 := fun h => fr_step h (by omega) I2
  have T2 : Hid (Wk w c' #[.int .i64 a0, .int .i64 a1, .int .i64 a2] 24 v2) := h2
  clear h2 hc f I1 I2 I3 SM T1
  generalize nde c' a0 = A at *
  generalize nde c' a1 = B at *
  generalize nde c' a2 = K at *
  have F1 := FA A B
  have F2 := FA B A
  have F3 := FA A K
  have F4 := FA K B
  have F5 := FA (bsN c' A (1 + q)) B
  have i1 := FI A B
  have i3 := FI A K
  have i4 := FI K B
  have BE := BE A
  rw [← M1] at F2
  clear FA FI M1
  generalize fr c' A B = D at *
  generalize fr c' A K = D3 at *
  generalize fr c' K B = D4 at *
  generalize bsN c' A (1 + q) = M at *
  generalize bsB c' A (1 + q) = G at *
  generalize fr c' M B = D5 at *
  obtain ⟨cw, ch, cl, cd, cr, ci, cb, we, ca⟩ := c'
  simp only [cfv, cfc] at *
  obtain ⟨s, es⟩ : ∃ s, IntKind.i64.wrap (D3 + D4) = s := ⟨_, rfl⟩
  have hs : s = D3 + D4 := by rw [← es]; exact IntWalk.i64_in _ (by omega)
  have M4 : D ≤ s := by omega
  have HQ : Hid (0 ≤ q ∧ q < 4) := ⟨q0, q1⟩
  have HM5 : Hid (G = true → D5 = D + 1 ∨ D5 = D - 1) := M5
  have HM3 : Hid (D = 0 ↔ A = B) := M3
  have Hes : Hid (IntKind.i64.wrap (D3 + D4) = s) := es
  have Hhq : Hid ((IntKind.u64.wrap y).tmod 4 = q) := hq
  clear M5 M3 es hs hq q0 q1 i3 i4
  go_wp2_with fail
  have E1 := T2.out.drew
  have S1 := E1.twelve
  simp only at S1
  go_region_held3 (fun v => v.cell? ⟨w.heap.size, 0, none⟩ = some (.int .i64 cw) ∧ v.cell? ⟨w.heap.size, 1, none⟩ = some (.int .i64 ch) ∧ v.cell? ⟨w.heap.size, 2, none⟩ = some (.int .i64 cl) ∧ v.cell? ⟨w.heap.size, 3, none⟩ = some (.int .i64 cd) ∧ v.cell? ⟨w.heap.size, 4, none⟩ = some (.int .i64 cr) ∧ v.cell? ⟨w.heap.size, 5, none⟩ = some (.int .i64 ci) ∧ v.cell? ⟨w.heap.size, 6, none⟩ = some (.int .i64 cb) ∧ v.cell? ⟨w.heap.size, 7, none⟩ = some (.bool we) ∧ v.cell? ⟨w.heap.size, 8, none⟩ = some (.bool ca) ∧ v.cell? ⟨w.heap.size + 1, 0, none⟩ = some (.int .i64 a0) ∧ v.cell? ⟨w.heap.size + 1, 1, none⟩ = some (.int .i64 a1) ∧ v.cell? ⟨w.heap.size + 1, 2, none⟩ = some (.int .i64 a2))
    (first | exact S3 | exact S2 | exact S1 | go_keep)
    (first
      | (go_at_call 28; (with_reducible refine (N1 _).mono ?_); rintro e u2 ⟨rfl, hb2⟩; have E2 := E1.next hb2; have S2 := E2.twelve)
      | (go_at_call 28; (with_reducible refine (N2 _).mono ?_); rintro e u3 ⟨rfl, hb3⟩; have E3 := E2.next hb3; have S3 := E3.twelve))
  have T3 : Hid (Wk w ⟨cw, ch, cl, cd, cr, ci, cb, we, ca⟩ #[.int .i64 a0, .int .i64 a1, .int .i64 a2] 24 u3) := E3
  clear E1 S1 E2 S2 E3 S3 hb2 hb3 N1 N2 T2
  obtain ⟨x0, x1, x2, x3, x4, x5, x6, x7, x8, y0, y1, y2⟩ := T3.out.twelve
  have z3 := T3.out.lt
  simp only at x0 x1 x2 x3 x4 x5 x6 x7 x8 y0 y1 y2
  go_wp2_with fail
  go_at_call 28
  refine (N3 _).mono ?_
  rintro e v4 ⟨rfl, hb⟩
  have T4 : Hid (Wk w _ _ 24 v4) := T3.out.next hb
  clear hb x0 x1 x2 x3 x4 x5 x6 x7 x8 y0 y1 y2 z3 T3 N3
  obtain ⟨x0, x1, x2, x3, x4, x5, x6, x7, x8, y0, y1, y2⟩ := T4.out.twelve
  have z4 := T4.out.lt
  simp only at x0 x1 x2 x3 x4 x5 x6 x7 x8 y0 y1 y2
  go_wp2_with fail
  go_at_call 20
  refine (F1 _).mono ?_
  rintro e v5 ⟨rfl, hb⟩
  have T5 : Hid (Wk w _ _ 24 v5) := T4.out.next hb
  clear hb x0 x1 x2 x3 x4 x5 x6 x7 x8 y0 y1 y2 z4 T4 F1
  go_upto_region 7 with fail
  go_cut [64] from 14 to 64 (fun t wc => t = .bool false ∧ Wk w ⟨cw, ch, cl, cd, cr, ci, cb, we, ca⟩ #[.int .i64 a0, .int .i64 a1, .int .i64 a2] 24 wc)
  case first =>
    have d1 : decide (D < 0) = false := by simp; omega
    have d2 : decide (s < D) = false := by simp; omega
    have d3 : ¬ D < 0 := by omega
    have d4 : ¬ s < D := by omega
    have e0 := Hes.out
    obtain ⟨t, t1⟩ : ∃ t : Bool, (D == 0) = t := ⟨_, rfl⟩
    have t2 : (A == B) = t := by
      rw [← t1]
      have := HM3.out
      by_cases h : A = B
      · rw [beq_iff_eq.mpr h, beq_iff_eq.mpr (this.2 h)]
      · rw [beq_eq_false_iff_ne.mpr h, beq_eq_false_iff_ne.mpr (fun e => h (this.1 e))]
    have E1 := T5.out.drew
    have S1 := E1.twelve
    simp only at S1
    clear M2 M4 i1 F5 BE
    cases t
    all_goals
      go_wp2_with fail
      go_region_held3 (fun v => v.cell? ⟨w.heap.size, 0, none⟩ = some (.int .i64 cw) ∧ v.cell? ⟨w.heap.size, 1, none⟩ = some (.int .i64 ch) ∧ v.cell? ⟨w.heap.size, 2, none⟩ = some (.int .i64 cl) ∧ v.cell? ⟨w.heap.size, 3, none⟩ = some (.int .i64 cd) ∧ v.cell? ⟨w.heap.size, 4, none⟩ = some (.int .i64 cr) ∧ v.cell? ⟨w.heap.size, 5, none⟩ = some (.int .i64 ci) ∧ v.cell? ⟨w.heap.size, 6, none⟩ = some (.int .i64 cb) ∧ v.cell? ⟨w.heap.size, 7, none⟩ = some (.bool we) ∧ v.cell? ⟨w.heap.size, 8, none⟩ = some (.bool ca) ∧ v.cell? ⟨w.heap.size + 1, 0, none⟩ = some (.int .i64 a0) ∧ v.cell? ⟨w.heap.size + 1, 1, none⟩ = some (.int .i64 a1) ∧ v.cell? ⟨w.heap.size + 1, 2, none⟩ = some (.int .i64 a2))
        (first | exact S4 | exact S3 | exact S2 | exact S1 | go_keep)
        (first
          | (go_at_call 20; (with_reducible refine (F2 _).mono ?_); rintro e u2 ⟨rfl, hb2⟩; have E2 := E1.next hb2; have S2 := E2.twelve)
          | (go_at_call 20; (with_reducible refine (F3 _).mono ?_); rintro e u3 ⟨rfl, hb3⟩; have E3 := E2.next hb3; have S3 := E3.twelve)
          | (go_at_call 20; (with_reducible refine (F4 _).mono ?_); rintro e u4 ⟨rfl, hb4⟩; have E4 := E3.next hb4; have S4 := E4.twelve))
      go_wp2
      go_meet
      exact ⟨rfl, E4⟩
  case rest =>
  obtain ⟨rfl, h6⟩ := hcut
  obtain ⟨v6, rfl⟩ : ∃ v6 : World, v6 = wc := ⟨_, rfl⟩
  have T6 : Hid (Wk w ⟨cw, ch, cl, cd, cr, ci, cb, we, ca⟩ #[.int .i64 a0, .int .i64 a1, .int .i64 a2] 24 v6) := h6
  clear h6 T5 F2 F3 F4 M4
  obtain ⟨x0, x1, x2, x3, x4, x5, x6, x7, x8⟩ := T6.out.cells
  have z6 := T6.out.lt
  have hs6 := T6.out.steps HS.out
  simp only at x0 x1 x2 x3 x4 x5 x6 x7 x8
  have hq := Hhq.out
  obtain ⟨q0, q1⟩ := HQ.out
  go_wp2_with fail
  go_at_call 15
  refine (BE _ hs6).mono ?_
  rintro e v7 ⟨rfl, hb⟩
  have T7 : Hid (Wk w _ _ 24 v7) := T6.out.next hb
  clear hb x0 x1 x2 x3 x4 x5 x6 x7 x8 z6 hs6 T6 BE hq q0 q1
  obtain ⟨x0, x1, x2, x3, x4, x5, x6, x7, x8⟩ := T7.out.cells
  have z7 := T7.out.lt
  simp only at x0 x1 x2 x3 x4 x5 x6 x7 x8
  go_wp2_with fail
  go_at_call 20
  refine (F5 _).mono ?_
  rintro e v8 ⟨rfl, hb⟩
  have T8 : Hid (Wk w _ _ 24 v8) := T7.out.next hb
  clear hb x0 x1 x2 x3 x4 x5 x6 x7 x8 z7 T7 F5
  cases G with
  | false =>
    go_wp2
    go_ret
    exact ⟨rfl, T8.out.below⟩
  | true =>
    rcases HM5.out rfl with h | h
    · have e1 : (D5 == D + 1) = true := by simp [h]
      go_wp2
      go_ret
      exact ⟨rfl, T8.out.below⟩
    · have e1 : (D5 == D + 1) = false := by simp; omega
      have e2 : (D5 == D - 1) = true := by simp [h]
      go_wp2
      go_ret
      exact ⟨rfl, T8.out.below⟩
end Go.Proofs.YthloamdffgcabaaDoor
