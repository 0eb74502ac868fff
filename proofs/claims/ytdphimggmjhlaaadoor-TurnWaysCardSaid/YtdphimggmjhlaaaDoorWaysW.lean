/-
  The walk of TurnWays.
-/
import Derived.Test.YtdphimggmjhlaaaDoorStrW
namespace Go.Proofs.YtdphimggmjhlaaaDoor
open Go.RowKit

theorem cell_far {v : World} {b g j k : Nat} {x y : Value} (h : g ≠ b) (hc : v.cell? ⟨g, j, none⟩ = some y) : (v.setCell ⟨b, k, none⟩ x).cell? ⟨g, j, none⟩ = some y :=
  (World.cell?_of_block (Below.heap_setCell v ⟨b, k, none⟩ x g h)).trans hc

set_option maxRecDepth 100000 in
set_option maxHeartbeats 2000000 in
theorem turnWays_any (c : Cf) (a b : Int) (w : World) (hS : Steps w) (hT : Tabs w) : Calls Tryd.prog 8 #[cfv c, .int .i64 a, .int .i64 b] w fun e w' => e = .returned (.bool true) ∧ Below w.heap.size w w' := by
  have T0 : Hid (W1 w c (w.alloc (.cells (cfc c) 23))) := W1.start _ _
  have LV := lives_any _ (T0.out.tabs hT)
  have SM := fun v => small_form c v
  have HS : Hid (Steps w) := hS
  have HT : Hid (Tabs w) := hT
  clear hS hT
  obtain ⟨cw, ch, cl, cd, cr, ci, cb, we, ca⟩ := c
  simp only [cfv, cfc] at *
  go_enter Tryd.func8, Tryd.ntmps8
  go_wp2_with fail
  go_at_call 9
  refine LV.mono ?_
  rintro e v1 ⟨rfl, hb⟩
  have T1 : Hid (W1 w ⟨cw, ch, cl, cd, cr, ci, cb, we, ca⟩ v1) := T0.out.next hb
  clear hb LV T0
  go_upto_region 3 with fail
  go_cut [] from 14 to 15 (fun wc => ∃ c', W1 w c' wc ∧ Fits c')
  case first =>
    obtain ⟨x0, x1, x2, x3, x4, x5, x6, x7, x8⟩ := T1.out.cells
    have z1 := T1.out.lt
    simp only at x0 x1 x2 x3 x4 x5 x6 x7 x8
    go_wp2_with fail
    go_at_call 19
    refine (SM _).mono ?_
    rintro e v2 ⟨dw, dh, dl, dd, dr, di, db, de, da, rfl, hb, f, f1, f2⟩
    have T2 : Hid (W1 w _ v2) := T1.out.next hb
    have HF : Hid (Fits ⟨dw, dh, dl, dd, dr, di, db, de, da⟩) := f
    clear x0 x1 x2 x3 x4 x5 x6 x7 x8 hb SM f f1 f2 z1
    obtain ⟨x0, x1, x2, x3, x4, x5, x6, x7, x8⟩ := T2.out.cells
    obtain ⟨g0, g1, g2, g3, g4, g5, g6, g7, g8⟩ := T2.out.free
    simp only at x0 x1 x2 x3 x4 x5 x6 x7 x8
    go_wp2_with fail
    go_meet
    exact ⟨⟨dw, dh, dl, dd, dr, di, db, de, da⟩, T2.out.all ⟨dw, dh, dl, dd, dr, di, db, de, da⟩, HF.out⟩
  case rest =>
  obtain ⟨c', h2, f⟩ := hcut
  obtain ⟨v2, rfl⟩ : ∃ v2 : World, v2 = wc := ⟨_, rfl⟩
  have T2 : Hid (W1 w c' v2) := h2
  clear h2 T1 SM
  have hc := chk_fits f
  have I1 := nde_in hc a
  have I2 := nde_in hc b
  have N1 := node_any c' hc a
  have N2 := node_any c' hc b
  have K1 := fun v h => options_any { c' with we := false } (nde c' a) (nde c' b) v h
  have K2 := fun v h h' => straight_any { c' with we := false } (nde c' a) (nde c' b) v h h'
  have K3 := fun v h => options_any { c' with we := true } (nde c' a) (nde c' b) v h
  have X1 := rx_any { c' with we := true } (nde c' a) I1
  have X2 := rx_any { c' with we := true } (nde c' b) I2
  have Y1 := ry_any { c' with we := true } (nde c' a) I1
  have Y2 := ry_any { c' with we := true } (nde c' b) I2
  obtain ⟨p, l, r, o1, o2, o3, o4, o5⟩ := ways I1 I2
  rw [o1] at K1
  rw [str_we, o3] at K2
  rw [o2] at K3
  rw [plx_we] at X1 X2
  rw [ply_we] at Y1 Y2
  have rl := str_le c' (nde c' a) (nde c' b)
  rw [o3] at rl
  have HO : Hid ((l.length = 1 ↔ (plx c' (nde c' a) < plx c' (nde c' b) ∧ ply c' (nde c' b) ≠ ply c' (nde c' a))) ∧ l.length ≤ 1) := ⟨o4, o5⟩
  clear hc f I1 I2 o1 o2 o3 o4 o5
  generalize nde c' a = A at *
  generalize nde c' b = B at *
  generalize plx c' A = x at *
  generalize plx c' B = x' at *
  generalize ply c' A = y at *
  generalize ply c' B = y' at *
  obtain ⟨cw', ch', cl', cd', cr', ci', cb', we', ca'⟩ := c'
  simp only [cfv, cfc] at *
  obtain ⟨x0, x1, x2, x3, x4, x5, x6, x7, x8⟩ := T2.out.cells
  have z2 := T2.out.lt
  simp only at x0 x1 x2 x3 x4 x5 x6 x7 x8
  go_wp2_with fail
  go_at_call 20
  refine (N1 _).mono ?_
  rintro e v3 ⟨rfl, hb⟩
  have T3 : Hid (W1 w _ v3) := T2.out.next hb
  clear hb x0 x1 x2 x3 x4 x5 x6 x7 x8 z2 T2 N1
  obtain ⟨x0, x1, x2, x3, x4, x5, x6, x7, x8⟩ := T3.out.cells
  have z2 := T3.out.lt
  simp only at x0 x1 x2 x3 x4 x5 x6 x7 x8
  go_wp2_with fail
  go_at_call 20
  refine (N2 _).mono ?_
  rintro e v4 ⟨rfl, hb⟩
  have T4 : Hid (W1 w ⟨cw', ch', cl', cd', cr', ci', cb', we', ca'⟩ v4) := T3.out.next hb
  clear hb x0 x1 x2 x3 x4 x5 x6 x7 x8 z2 T3 N2
  go_upto_region 6 with fail
  go_cut [] from 22 to 22 (fun wc => W1 w ⟨cw', ch', cl', cd', cr', ci', cb', false, ca'⟩ wc)
  case first =>
    obtain ⟨g0, g1, g2, g3, g4, g5, g6, g7, g8⟩ := T4.out.free
    obtain ⟨x0, x1, x2, x3, x4, x5, x6, x7, x8⟩ := T4.out.cells
    simp only at x0 x1 x2 x3 x4 x5 x6 x7 x8
    clear K1 K2 K3 X1 X2 Y1 Y2
    go_wp2_with fail
    go_meet
    exact T4.out.way false
  case rest =>
  obtain ⟨v5, rfl⟩ : ∃ v5 : World, v5 = wc := ⟨_, rfl⟩
  have T5 : Hid (W1 w ⟨cw', ch', cl', cd', cr', ci', cb', false, ca'⟩ v5) := hcut
  clear hcut T4
  obtain ⟨x0, x1, x2, x3, x4, x5, x6, x7, x8⟩ := T5.out.cells
  have z2 := T5.out.lt
  simp only at x0 x1 x2 x3 x4 x5 x6 x7 x8
  go_wp2_with fail
  go_at_call 13
  refine (K1 _ (T5.out.tabs HT.out)).mono ?_
  rintro e v6 ⟨v, rfl, own, hb⟩
  obtain ⟨g, xg, rfl, _, _, gB, gl, gc⟩ := own.form (show 0 < (vi [p]).length by simp [vi])
  have c6 : v6.cell? ⟨g, 0, none⟩ = some (.int .i64 p) := gc 0 _ rfl
  rw [show (vi [p]).length = 1 by simp [vi]]
  have gw : g ≠ w.heap.size := by omega
  have T6 : Hid (W1 w ⟨cw', ch', cl', cd', cr', ci', cb', false, ca'⟩ v6) := T5.out.next hb
  clear hb x0 x1 x2 x3 x4 x5 x6 x7 x8 z2 T5 K1 own gc gB
  obtain ⟨x0, x1, x2, x3, x4, x5, x6, x7, x8⟩ := T6.out.cells
  have z2 := T6.out.lt
  simp only at x0 x1 x2 x3 x4 x5 x6 x7 x8
  go_wp2_with fail
  go_at_call 17
  refine (K2 _ (T6.out.steps HS.out) (T6.out.tabs HT.out)).mono ?_
  rintro e v7 ⟨v, rfl, own, hb⟩
  obtain ⟨s, xs, rfl, _, _, sB, sl, sc⟩ := own.form (show 0 < (vi (p :: r)).length by simp [vi])
  have d7 : v7.cell? ⟨s, 0, none⟩ = some (.int .i64 p) := sc 0 _ rfl
  have c7 : v7.cell? ⟨g, 0, none⟩ = some (.int .i64 p) := (hb.cell (p := ⟨g, 0, none⟩) gl).trans c6
  have gl7 : g < v7.heap.size := Nat.lt_of_lt_of_le gl hb.size
  have sw : s ≠ w.heap.size := by omega
  have T7 : Hid (W1 w ⟨cw', ch', cl', cd', cr', ci', cb', false, ca'⟩ v7) := T6.out.next hb
  obtain ⟨nr, hnr⟩ : ∃ nr, (vi (p :: r)).length = nr := ⟨_, rfl⟩
  have nr0 : (nr : Int) ≠ 0 := by rw [← hnr, vi_len]; simp; omega
  have nr1 : (0 : Int) < nr := by omega
  have nrb : ((nr : Int) == 0) = false := by simp; omega
  rw [hnr]
  clear hb x0 x1 x2 x3 x4 x5 x6 x7 x8 z2 T6 K2 own sc sB c6 gl hnr rl
  go_upto_region 9 with fail
  go_cut [] from 31 to 31 (fun wc => W1 w ⟨cw', ch', cl', cd', cr', ci', cb', true, ca'⟩ wc ∧ wc.cell? ⟨g, 0, none⟩ = some (.int .i64 p) ∧ wc.cell? ⟨s, 0, none⟩ = some (.int .i64 p) ∧ g < wc.heap.size ∧ s < wc.heap.size)
  case first =>
    obtain ⟨g0, g1, g2, g3, g4, g5, g6, g7, g8⟩ := T7.out.free
    obtain ⟨x0, x1, x2, x3, x4, x5, x6, x7, x8⟩ := T7.out.cells
    simp only at x0 x1 x2 x3 x4 x5 x6 x7 x8
    clear K3 X1 X2 Y1 Y2
    go_wp2_with fail
    go_meet
    exact ⟨T7.out.way true, cell_far gw c7, cell_far sw d7, by simpa using gl7, by simpa using sl⟩
  case rest =>
  obtain ⟨v8, rfl⟩ : ∃ v8 : World, v8 = wc := ⟨_, rfl⟩
  obtain ⟨h8, c8, d8, gl8, sl8⟩ := hcut
  have T8 : Hid (W1 w ⟨cw', ch', cl', cd', cr', ci', cb', true, ca'⟩ v8) := h8
  clear h8 T7 c7 d7 gl7 sl gw sw
  obtain ⟨x0, x1, x2, x3, x4, x5, x6, x7, x8⟩ := T8.out.cells
  have z2 := T8.out.lt
  simp only at x0 x1 x2 x3 x4 x5 x6 x7 x8
  go_wp2_with fail
  go_at_call 13
  refine (K3 _ (T8.out.tabs HT.out)).mono ?_
  rintro e v9 ⟨v, rfl, own, hb⟩
  obtain ⟨u, xu, rfl, _, _, uB, ul, uc⟩ := own.form (show 0 < (vi (p :: l)).length by simp [vi])
  have e9 : v9.cell? ⟨u, 0, none⟩ = some (.int .i64 p) := uc 0 _ rfl
  have c9 : v9.cell? ⟨g, 0, none⟩ = some (.int .i64 p) := (hb.cell (p := ⟨g, 0, none⟩) gl8).trans c8
  have d9 : v9.cell? ⟨s, 0, none⟩ = some (.int .i64 p) := (hb.cell (p := ⟨s, 0, none⟩) sl8).trans d8
  have T9 : Hid (W1 w ⟨cw', ch', cl', cd', cr', ci', cb', true, ca'⟩ v9) := T8.out.next hb
  obtain ⟨nl, hnl⟩ : ∃ nl, (vi (p :: l)).length = nl := ⟨_, rfl⟩
  have hnl' : nl = l.length + 1 := by rw [← hnl, vi_len]; simp
  have nlb : ((nl : Int) == 0) = false := by simp; omega
  have nl1 : (0 : Int) < nl := by omega
  have HW : Hid ((nl = 2 ↔ (x < x' ∧ y' ≠ y)) ∧ nl ≤ 2) := ⟨⟨fun h => HO.out.1.1 (by omega), fun h => by have := HO.out.1.2 h; omega⟩, by have := HO.out.2; omega⟩
  rw [hnl]
  clear hb x0 x1 x2 x3 x4 x5 x6 x7 x8 z2 T8 K3 own uc uB hnl hnl' HO c8 d8 gl8 sl8
  have HD : Hid (∀ m, W1 w ⟨cw', ch', cl', cd', cr', ci', cb', true, ca'⟩ (v9.drewN m)) := fun m => T9.out.drewN m
  go_wp2_with fail
  go_quiet (fail)
  go_wp2_with fail
  have D1 := (HD.out nq).drew
  have S1 := D1.cells
  clear e9 c9 d9 T9 HD nr0 nr1 nrb nl1
  go_region_held3 (fun v => v.cell? ⟨w.heap.size, 0, none⟩ = some (.int .i64 cw') ∧ v.cell? ⟨w.heap.size, 1, none⟩ = some (.int .i64 ch') ∧ v.cell? ⟨w.heap.size, 2, none⟩ = some (.int .i64 cl') ∧ v.cell? ⟨w.heap.size, 3, none⟩ = some (.int .i64 cd') ∧ v.cell? ⟨w.heap.size, 4, none⟩ = some (.int .i64 cr') ∧ v.cell? ⟨w.heap.size, 5, none⟩ = some (.int .i64 ci') ∧ v.cell? ⟨w.heap.size, 6, none⟩ = some (.int .i64 cb') ∧ v.cell? ⟨w.heap.size, 7, none⟩ = some (.bool true) ∧ v.cell? ⟨w.heap.size, 8, none⟩ = some (.bool ca'))
    (first | exact S3 | exact S2 | exact S1 | go_keep)
    (first
      | (go_at_call 23; (with_reducible refine (X2 _).mono ?_); rintro e u2 ⟨rfl, hb2⟩; have D2 := D1.next hb2; have S2 := D2.cells)
      | (go_at_call 23; (with_reducible refine (X1 _).mono ?_); rintro e u3 ⟨rfl, hb3⟩; have D3 := D2.next hb3; have S3 := D3.cells))
  have Ta : Hid (W1 w ⟨cw', ch', cl', cd', cr', ci', cb', true, ca'⟩ u3) := D3
  clear D1 S1 D2 S2 D3 S3 hb2 hb3 X1 X2
  go_wp2_with fail
  have D1 := Ta.out.drew
  have S1 := D1.cells
  go_region_held3 (fun v => v.cell? ⟨w.heap.size, 0, none⟩ = some (.int .i64 cw') ∧ v.cell? ⟨w.heap.size, 1, none⟩ = some (.int .i64 ch') ∧ v.cell? ⟨w.heap.size, 2, none⟩ = some (.int .i64 cl') ∧ v.cell? ⟨w.heap.size, 3, none⟩ = some (.int .i64 cd') ∧ v.cell? ⟨w.heap.size, 4, none⟩ = some (.int .i64 cr') ∧ v.cell? ⟨w.heap.size, 5, none⟩ = some (.int .i64 ci') ∧ v.cell? ⟨w.heap.size, 6, none⟩ = some (.int .i64 cb') ∧ v.cell? ⟨w.heap.size, 7, none⟩ = some (.bool true) ∧ v.cell? ⟨w.heap.size, 8, none⟩ = some (.bool ca'))
    (first | exact S3 | exact S2 | exact S1 | go_keep)
    (first
      | (go_at_call 24; (with_reducible refine (Y2 _).mono ?_); rintro e u4 ⟨rfl, hb2⟩; have D2 := D1.next hb2; have S2 := D2.cells)
      | (go_at_call 24; (with_reducible refine (Y1 _).mono ?_); rintro e u5 ⟨rfl, hb3⟩; have D3 := D2.next hb3; have S3 := D3.cells))
  have Tb : Hid (W1 w ⟨cw', ch', cl', cd', cr', ci', cb', true, ca'⟩ u5) := D3
  clear D1 S1 D2 S2 D3 S3 hb2 hb3 Y1 Y2 Ta
  by_cases hx : x < x'
  · by_cases hy : y' = y
    · subst hy
      have h2 : ¬ nl = 2 := fun h => (HW.out.1.1 h).2 rfl
      have b2 : ((nl : Int) == 2) = false := by simp; omega
      clear h2
      go_wp2
      go_ret
      exact ⟨rfl, Tb.out.below⟩
    · obtain rfl : nl = 2 := HW.out.1.2 ⟨hx, hy⟩
      have b2 : (y' == y) = false := by simp [hy]
      go_wp2
      go_ret
      exact ⟨rfl, Tb.out.below⟩
  · have h2 : ¬ nl = 2 := fun h => hx (HW.out.1.1 h).1
    have b2 : ((nl : Int) == 2) = false := by simp; omega
    clear h2
    go_wp2
    go_ret
    exact ⟨rfl, Tb.out.below⟩
end Go.Proofs.YtdphimggmjhlaaaDoor
