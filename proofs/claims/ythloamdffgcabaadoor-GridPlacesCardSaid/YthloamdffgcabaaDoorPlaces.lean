/-
  The walk of GridPlaces.
-/
import Derived.Test.YthloamdffgcabaaDoorBlk
import Derived.Test.YthloamdffgcabaaDoorRfar
import Derived.Test.YthloamdffgcabaaDoorRlinks
import Derived.Deep.CutRange
namespace Go.Proofs.YthloamdffgcabaaDoor
open Go.RowKit

theorem Wk.twelve {w v : World} {c : Cf} {a0 a1 a2 : Int} (h : Wk w c #[.int .i64 a0, .int .i64 a1, .int .i64 a2] 24 v) :
    v.cell? ⟨w.heap.size, 0, none⟩ = some (.int .i64 c.w) ∧ v.cell? ⟨w.heap.size, 1, none⟩ = some (.int .i64 c.h) ∧ v.cell? ⟨w.heap.size, 2, none⟩ = some (.int .i64 c.l) ∧
    v.cell? ⟨w.heap.size, 3, none⟩ = some (.int .i64 c.d) ∧ v.cell? ⟨w.heap.size, 4, none⟩ = some (.int .i64 c.r) ∧ v.cell? ⟨w.heap.size, 5, none⟩ = some (.int .i64 c.i) ∧
    v.cell? ⟨w.heap.size, 6, none⟩ = some (.int .i64 c.b) ∧ v.cell? ⟨w.heap.size, 7, none⟩ = some (.bool c.we) ∧ v.cell? ⟨w.heap.size, 8, none⟩ = some (.bool c.ca) ∧
    v.cell? ⟨w.heap.size + 1, 0, none⟩ = some (.int .i64 a0) ∧ v.cell? ⟨w.heap.size + 1, 1, none⟩ = some (.int .i64 a1) ∧ v.cell? ⟨w.heap.size + 1, 2, none⟩ = some (.int .i64 a2) := by
  obtain ⟨h0, h1, h2, h3, h4, h5, h6, h7, h8⟩ := h.cells
  exact ⟨h0, h1, h2, h3, h4, h5, h6, h7, h8, h.arr 0, h.arr 1, h.arr 2⟩

set_option maxRecDepth 100000 in
set_option maxHeartbeats 2000000 in
theorem gridPlaces_any (c : Cf) (a0 a1 a2 : Int) (w : World) (hS : Steps w) (hB : Backs w) : Calls Tryd.prog 3 #[cfv c, .agg #[.int .i64 a0, .int .i64 a1, .int .i64 a2]] w fun e w' => e = .returned (.bool true) ∧ Below w.heap.size w w' := by
  have T0 : Hid (Wk w c #[.int .i64 a0, .int .i64 a1, .int .i64 a2] 24 ((w.alloc (.cells (cfc c) 23)).alloc (.cells #[.int .i64 a0, .int .i64 a1, .int .i64 a2] 24))) := Wk.start _ _ _ _
  have LV := lives_any _ (T0.out.steps hS)
  have PL := place_any c a0
  have AT := at_any c a0 a1
  have RA := rat_any c a0 a1
  have RI := ris_any c a0
  have PI := is_any c a0
  have BE := fun v h => beside_any c a0 a2 v h
  have RB := rbeside_any c a0 a2
  have BK := fun v h => back_any a2 v h
  have RK := rback_any a2
  have FA := far_any c a0 a1
  have RF := rfar_any c a0 a1
  have HS : Hid (Steps w) := hS
  have HB : Hid (Backs w) := hB
  clear hS hB
  have KT : isN c a0 = true → ((∀ w, Calls Tryd.prog 13 #[cfv c, .int .i64 a0] w fun e w' => e = .returned (.int .i64 (plx c a0)) ∧ Below w.heap.size w w') ∧ (∀ w, Calls Tryd.prog 14 #[cfv c, .int .i64 a0] w fun e w' => e = .returned (.int .i64 (ply c a0)) ∧ Below w.heap.size w w') ∧ ple c a0 = 0) := fun h => ⟨rx_any c a0 h, ry_any c a0 h, pl_yes h⟩
  have KF : isN c a0 = false → plx c a0 = 0 ∧ ply c a0 = 0 ∧ ple c a0 = 5 := fun h => pl_no h
  generalize isN c a0 = I at *
  generalize plx c a0 = X at *
  generalize ply c a0 = Y at *
  generalize ple c a0 = P at *
  generalize atn c a0 a1 = M at *
  generalize ate c a0 a1 = E at *
  generalize bsN c a0 a2 = R at *
  generalize bsB c a0 a2 = G at *
  generalize bck a2 = Q at *
  generalize fr c a0 a1 = F at *
  obtain ⟨cw, ch, cl, cd, cr, ci, cb, we, ca⟩ := c
  simp only [cfv, cfc] at *
  go_enter Tryd.func3, Tryd.ntmps3
  go_wp2_with fail
  go_at_call 8
  refine LV.mono ?_
  rintro e v1 ⟨rfl, hb⟩
  have T1 : Hid (Wk w _ _ 24 v1) := T0.out.next hb
  clear hb LV T0
  obtain ⟨x0, x1, x2, x3, x4, x5, x6, x7, x8, y0, y1, y2⟩ := T1.out.twelve
  have z1 : w.heap.size + 1 < v1.heap.size := T1.out.lt
  simp only at x0 x1 x2 x3 x4 x5 x6 x7 x8 y0 y1 y2
  go_wp2_with fail
  go_at_call 9
  refine (PL _).mono ?_
  rintro e v2 ⟨rfl, hb⟩
  have T2 : Hid (Wk w _ _ 24 v2) := T1.out.next hb
  clear hb x0 x1 x2 x3 x4 x5 x6 x7 x8 y0 y1 y2 z1
  obtain ⟨x0, x1, x2, x3, x4, x5, x6, x7, x8, y0, y1, y2⟩ := T2.out.twelve
  have z2 : w.heap.size + 1 < v2.heap.size := T2.out.lt
  simp only at x0 x1 x2 x3 x4 x5 x6 x7 x8 y0 y1 y2
  go_wp2_with fail
  go_at_call 10
  refine (AT _).mono ?_
  rintro e v3 ⟨rfl, hb⟩
  have T3 : Hid (Wk w _ _ 24 v3) := T2.out.next hb
  clear hb x0 x1 x2 x3 x4 x5 x6 x7 x8 y0 y1 y2 z2
  obtain ⟨x0, x1, x2, x3, x4, x5, x6, x7, x8, y0, y1, y2⟩ := T3.out.twelve
  have z3 : w.heap.size + 1 < v3.heap.size := T3.out.lt
  simp only at x0 x1 x2 x3 x4 x5 x6 x7 x8 y0 y1 y2
  go_wp2_with fail
  go_at_call 11
  refine (RA _).mono ?_
  rintro e v4 ⟨rfl, hb⟩
  have T4 : Hid (Wk w _ _ 24 v4) := T3.out.next hb
  clear hb x0 x1 x2 x3 x4 x5 x6 x7 x8 y0 y1 y2 z3
  obtain ⟨x0, x1, x2, x3, x4, x5, x6, x7, x8, y0, y1, y2⟩ := T4.out.twelve
  have z4 : w.heap.size + 1 < v4.heap.size := T4.out.lt
  simp only at x0 x1 x2 x3 x4 x5 x6 x7 x8 y0 y1 y2
  go_wp2_with fail
  go_at_call 12
  refine (RI _).mono ?_
  rintro e v5 ⟨rfl, hb⟩
  have T5 : Hid (Wk w _ _ 24 v5) := T4.out.next hb
  clear hb x0 x1 x2 x3 x4 x5 x6 x7 x8 y0 y1 y2 z4
  clear PL AT RA RI
  go_upto_region 7 with fail
  go_cut [85] from 17 to 85 (fun s wc => s = .bool false ∧ Wk w ⟨cw, ch, cl, cd, cr, ci, cb, we, ca⟩ #[.int .i64 a0, .int .i64 a1, .int .i64 a2] 24 wc)
  case first =>
    clear PI BE RB BK RK FA RF
    cases I with
    | true =>
      obtain ⟨X1, Y1, rfl⟩ := KT rfl
      clear KT KF
      obtain ⟨x0, x1, x2, x3, x4, x5, x6, x7, x8, y0, y1, y2⟩ := T5.out.twelve
      have z5 : w.heap.size + 1 < v5.heap.size := T5.out.lt
      simp only at x0 x1 x2 x3 x4 x5 x6 x7 x8 y0 y1 y2
      go_wp2_with fail
      go_at_call 13
      refine (X1 _).mono ?_
      rintro e v6 ⟨rfl, hb⟩
      have T6 : Hid (Wk w _ _ 24 v6) := T5.out.next hb
      clear hb x0 x1 x2 x3 x4 x5 x6 x7 x8 y0 y1 y2 z5
      obtain ⟨x0, x1, x2, x3, x4, x5, x6, x7, x8, y0, y1, y2⟩ := T6.out.twelve
      have z6 : w.heap.size + 1 < v6.heap.size := T6.out.lt
      simp only at x0 x1 x2 x3 x4 x5 x6 x7 x8 y0 y1 y2
      go_wp2_with fail
      go_at_call 14
      refine (Y1 _).mono ?_
      rintro e v7 ⟨rfl, hb⟩
      have T7 : Hid (Wk w _ _ 24 v7) := T6.out.next hb
      clear hb x0 x1 x2 x3 x4 x5 x6 x7 x8 y0 y1 y2 z6
      go_wp2
      go_meet
      exact ⟨rfl, T7.out⟩
    | false =>
      obtain ⟨rfl, rfl, rfl⟩ := KF rfl
      clear KT KF
      go_wp2
      go_meet
      exact ⟨rfl, T5.out⟩
  case rest =>
  obtain ⟨rfl, h7⟩ := hcut
  obtain ⟨v7, rfl⟩ : ∃ v7 : World, v7 = wc := ⟨_, rfl⟩
  have T7 : Hid (Wk w ⟨cw, ch, cl, cd, cr, ci, cb, we, ca⟩ #[.int .i64 a0, .int .i64 a1, .int .i64 a2] 24 v7) := h7
  clear h7 KT KF T1 T2 T3 T4 T5
  obtain ⟨x0, x1, x2, x3, x4, x5, x6, x7, x8, y0, y1, y2⟩ := T7.out.twelve
  have z7 : w.heap.size + 1 < v7.heap.size := T7.out.lt
  simp only at x0 x1 x2 x3 x4 x5 x6 x7 x8 y0 y1 y2
  have hs7 := T7.out.steps HS.out
  go_wp2_with fail
  go_at_call 15
  refine (BE _ hs7).mono ?_
  rintro e v8 ⟨rfl, hb⟩
  have T8 : Hid (Wk w _ _ 24 v8) := T7.out.next hb
  clear hb x0 x1 x2 x3 x4 x5 x6 x7 x8 y0 y1 y2 z7
  obtain ⟨x0, x1, x2, x3, x4, x5, x6, x7, x8, y0, y1, y2⟩ := T8.out.twelve
  have z8 : w.heap.size + 1 < v8.heap.size := T8.out.lt
  simp only at x0 x1 x2 x3 x4 x5 x6 x7 x8 y0 y1 y2
  clear hs7
  go_wp2_with fail
  go_at_call 16
  refine (RB _).mono ?_
  rintro e v9 ⟨rfl, hb⟩
  have T9 : Hid (Wk w _ _ 24 v9) := T8.out.next hb
  clear hb x0 x1 x2 x3 x4 x5 x6 x7 x8 y0 y1 y2 z8
  clear BE RB T7 T8
  go_wp2_with fail
  have D1 := T9.out.drew
  have S1 := D1.twelve
  simp only at S1
  go_region_held3 (fun v => v.cell? ⟨w.heap.size, 0, none⟩ = some (.int .i64 cw) ∧ v.cell? ⟨w.heap.size, 1, none⟩ = some (.int .i64 ch) ∧ v.cell? ⟨w.heap.size, 2, none⟩ = some (.int .i64 cl) ∧ v.cell? ⟨w.heap.size, 3, none⟩ = some (.int .i64 cd) ∧ v.cell? ⟨w.heap.size, 4, none⟩ = some (.int .i64 cr) ∧ v.cell? ⟨w.heap.size, 5, none⟩ = some (.int .i64 ci) ∧ v.cell? ⟨w.heap.size, 6, none⟩ = some (.int .i64 cb) ∧ v.cell? ⟨w.heap.size, 7, none⟩ = some (.bool we) ∧ v.cell? ⟨w.heap.size, 8, none⟩ = some (.bool ca) ∧ v.cell? ⟨w.heap.size + 1, 0, none⟩ = some (.int .i64 a0) ∧ v.cell? ⟨w.heap.size + 1, 1, none⟩ = some (.int .i64 a1) ∧ v.cell? ⟨w.heap.size + 1, 2, none⟩ = some (.int .i64 a2))
    (first | exact S6 | exact S5 | exact S4 | exact S3 | exact S1 | go_keep)
    (first
      | (go_at_call 17; (with_reducible refine (PI _).mono ?_); rintro e u3 ⟨rfl, hb3⟩; have D3 := D1.next hb3; have S3 := D3.twelve; have Q3 := D3.backs HB.out)
      | (go_at_call 18; (with_reducible refine (BK _ Q3).mono ?_); rintro e u ⟨rfl, rfl⟩)
      | (go_at_call 19; (with_reducible refine (RK _).mono ?_); rintro e u4 ⟨rfl, hb4⟩; have D4 := D3.next hb4; have S4 := D4.twelve)
      | (go_at_call 20; (with_reducible refine (FA _).mono ?_); rintro e u5 ⟨rfl, hb5⟩; have D5 := D4.next hb5; have S5 := D5.twelve)
      | (go_at_call 21; (with_reducible refine (RF _).mono ?_); rintro e u6 ⟨rfl, hb6⟩; have D6 := D5.next hb6; have S6 := D6.twelve))
  go_wp2
  go_ret
  exact ⟨rfl, D6.below⟩
end Go.Proofs.YthloamdffgcabaaDoor
