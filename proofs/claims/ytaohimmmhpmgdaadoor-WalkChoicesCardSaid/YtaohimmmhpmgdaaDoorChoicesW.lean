/-
  The walk of WalkChoices. (Written by gen_w9.py.)
-/
import Derived.Test.YtaohimmmhpmgdaaDoorLC
namespace Go.Proofs.YtaohimmmhpmgdaaDoor
open Go.RowKit

set_option maxRecDepth 100000 in
set_option maxHeartbeats 4000000 in
theorem walkChoices_any (c : Cf) (a0 a1 : Int) (s : Option Addr) (l : List Int) (cap : Nat) (w : World) (hlc : l.length ≤ cap) (hr : RdA w s (vi l)) (hi : ∀ n ∈ l, inI n) (hS : Steps w) (hT : Tabs w) :
    Calls Tryd.prog 6 #[cfv c, .agg #[.int .i64 a0, .int .i64 a1], .slice s l.length cap] w fun e w' => e = .returned (.bool true) ∧ Below w.heap.size w w' := by
  have T0 : Hid (Wk w c #[.int .i64 a0, .int .i64 a1] 30 ((w.alloc (.cells (cfc c) 29)).alloc (.cells #[.int .i64 a0, .int .i64 a1] 30))) := Wk.start _ _ _ _
  have LV := lives_any _ (T0.out.steps hS) (T0.out.tabs hT)
  have SM := fun v => small_form c v
  have HS : Hid (Steps w) := hS
  have HT : Hid (Tabs w) := hT
  obtain ⟨cs, hcs⟩ : ∃ cs, l.take 20 = cs := ⟨_, rfl⟩
  have HR : Hid (RdA w s (vi cs)) := hcs ▸ hr.take 20
  have HI : Hid (∀ n ∈ cs, inI n) := show _ from fun n hn => hi n (List.mem_of_mem_take (hcs ▸ hn))
  have FW := fun v => few_any s l.length cap cs.length v hlc (by rw [← hcs, List.length_take]; omega)
  have hcl : cs.length ≤ 20 ∧ cs.length ≤ cap := by rw [← hcs, List.length_take]; omega
  generalize l.length = ln at *
  clear hS hT hr hi hcs hlc
  obtain ⟨cw, ch, cl, cd, cr, ci, cb, we, ca⟩ := c
  simp only [cfv, cfc] at *
  go_enter Tryd.func6, Tryd.ntmps6
  go_wp2_with fail
  go_at_call 8
  refine LV.mono ?_
  rintro e v1 ⟨rfl, hb⟩
  have T1 : Hid (Wk w ⟨cw, ch, cl, cd, cr, ci, cb, we, ca⟩ #[.int .i64 a0, .int .i64 a1] 30 v1) := T0.out.next hb
  clear hb LV T0
  go_upto_region 3 with fail
  go_cut [] from 13 to 14 (fun wc => ∃ c', Wk w c' #[.int .i64 a0, .int .i64 a1] 30 wc ∧ Fits c')
  case first =>
    obtain ⟨x0, x1, x2, x3, x4, x5, x6, x7, x8⟩ := T1.out.cells
    simp only at x0 x1 x2 x3 x4 x5 x6 x7 x8
    have z1 := T1.out.lt
    go_wp2_with fail
    go_at_call 14
    refine (SM _).mono ?_
    rintro e v2 ⟨dw, dh, dl, dd, dr, di, db, de, da, rfl, hb, f, f1, f2⟩
    have T2 : Hid (Wk w _ #[.int .i64 a0, .int .i64 a1] 30 v2) := T1.out.next hb
    have HF : Hid (Fits ⟨dw, dh, dl, dd, dr, di, db, de, da⟩) := f
    clear x0 x1 x2 x3 x4 x5 x6 x7 x8 hb SM f f1 f2 z1
    obtain ⟨x0, x1, x2, x3, x4, x5, x6, x7, x8⟩ := T2.out.cells
    simp only at x0 x1 x2 x3 x4 x5 x6 x7 x8
    obtain ⟨g0, g1, g2, g3, g4, g5, g6, g7, g8⟩ := T2.out.free
    go_wp2_with fail
    go_meet
    exact ⟨⟨dw, dh, dl, dd, dr, di, db, de, da⟩, T2.out.all ⟨dw, dh, dl, dd, dr, di, db, de, da⟩, HF.out⟩
  case rest =>
  obtain ⟨c', h2, f⟩ := hcut
  obtain ⟨v2, rfl⟩ : ∃ v2 : World, v2 = wc := ⟨_, rfl⟩
  have T2 : Hid (Wk w c' #[.int .i64 a0, .int .i64 a1] 30 v2) := h2
  clear h2 T1 SM
  have hc := chk_fits f
  have I1 := nde_in hc a0
  have I2 := nde_in hc a1
  have N1 := node_any c' hc a0
  have N2 := node_any c' hc a1
  obtain ⟨m, N, N0, N1', e0, e1, e2, e3, e4, e5⟩ := choices_inv I1 I2 cs
  have NI : ∀ n ∈ ([] : List Int), inI n := fun n hn => by cases hn
  have WY := fun v h1 h2 h3 => way_any c' (nde c' a0) (nde c' a1) s cs cap v h1 h2 h3 HI.out
  have WN := fun n v h1 h2 h3 => way_any c' (nde c' a0) (nde c' a1) s (cs.take n) cap v h1 h2 h3 (fun x hx => HI.out x (List.mem_of_mem_take hx))
  have W0 := fun v h1 h2 => way_any c' (nde c' a0) (nde c' a1) none [] 0 v h1 h2 (RdA.none v) NI
  have WF := fun v h1 h2 h3 => way_any { c' with we := false } (nde c' a0) (nde c' a1) s cs cap v h1 h2 h3 HI.out
  have WG := fun v h1 h2 => way_any { c' with we := false } (nde c' a0) (nde c' a1) none [] 0 v h1 h2 (RdA.none v) NI
  simp only [e1] at WY
  simp only [e3, List.length_nil] at W0
  simp only [e4] at WF
  simp only [e5, List.length_nil] at WG
  obtain ⟨k, hk⟩ : ∃ k, cs.length = k := ⟨_, rfl⟩
  -- the place at which the choices are cut
  obtain ⟨n, hn, hnk, hnm⟩ : ∃ n, ((k < m ∧ n = k) ∨ (¬ k < m ∧ n = m)) ∧ n ≤ k ∧ n ≤ m := by
    by_cases h : k < m
    · exact ⟨k, Or.inl ⟨h, rfl⟩, Nat.le_refl _, by omega⟩
    · exact ⟨m, Or.inr ⟨h, rfl⟩, by omega, Nat.le_refl _⟩
  have WN := WN n
  rw [e2 n (by omega)] at WN
  have hnl : (cs.take n).length = n := by rw [List.length_take]; omega
  have HRN : Hid (RdA w s (vi (cs.take n))) := HR.out.take n
  rw [hnl] at WN
  rw [hk] at WY WF FW hcl
  have SA := fun a b x y v h1 h2 => sameK_any N m a b x y v (by omega) h1 h2
  have SB := fun a b x y v h1 h2 => sameK_any N1' m a b x y v (by omega) h1 h2
  clear hc f I1 I2 e1 e2 e3 e4 e5 hk hnl NI
  generalize nde c' a0 = A at *
  generalize nde c' a1 = B at *
  obtain ⟨cw', ch', cl', cd', cr', ci', cb', we', ca'⟩ := c'
  simp only [cfv, cfc] at *
  have z1 : (n : Int) ≤ (cap : Int) := by omega
  have z2 : (0 : Int) ≤ (n : Int) := by omega
  have z3 : ((m : Int) != (m : Int)) = false := by simp
  rcases hn with ⟨hkm, rfl⟩ | ⟨hkm, rfl⟩
  · have z4 : (n : Int) < (m : Int) := by omega
    have z5 : ¬ (m : Int) < (n : Int) := by omega
    obtain ⟨q0, q1, q2, q3, q4, q5, q6, q7, q8⟩ := T2.out.gw
    obtain ⟨y0, y1⟩ := T2.out.gwA
    simp only at q0 q1 q2 q3 q4 q5 q6 q7 q8
    go_wp2_with fail
    refine region_gw (by kernel_rfl) (by kernel_rfl) ?_
    repeat (first | go_big_quiet_skip | quiet_step ((first | (go_at_call_of 15 (Value.int IntKind.i64 a0); exact quiet_below (N1 _)) | (go_at_call_of 15 (Value.int IntKind.i64 a1); exact quiet_below (N2 _)))))
    refine wpQuiet_nil ?_
    intro v3 hw'
    obtain ⟨⟨u5, hb4⟩, hw''⟩ := hw'
    obtain rfl : v3 = u5 := hw''
    have T3 : Hid (Wk w ⟨cw', ch', cl', cd', cr', ci', cb', we', ca'⟩ #[.int .i64 a0, .int .i64 a1] 30 v3) := T2.out.next hb4
    clear hb4 q0 q1 q2 q3 q4 q5 q6 q7 q8 y0 y1 N1 N2 T2
    go_wp2_with fail
    go_at_call 17
    refine (FW _).mono ?_
    rintro e v4 ⟨rfl, rfl⟩
    clear FW
    obtain ⟨x0, x1, x2, x3, x4, x5, x6, x7, x8⟩ := T3.out.cells
    simp only at x0 x1 x2 x3 x4 x5 x6 x7 x8
    go_wp2_with fail
    go_at_call 16
    refine (WY _ (T3.out.steps HS.out) (T3.out.tabs HT.out) (HR.out.below T3.out.below)).mono ?_
    rintro e v5 h5
    obtain ⟨aw, cpw, rfl, hcw, r5, hb⟩ := h5.wy
    have T5 : Hid (Wk w ⟨cw', ch', cl', cd', cr', ci', cb', we', ca'⟩ #[.int .i64 a0, .int .i64 a1] 30 v5) := T3.out.next hb
    have R5 : Hid (Rd v5 aw (vi (wyK N m))) := r5
    clear h5 hb r5 WY T3 x0 x1 x2 x3 x4 x5 x6 x7 x8
    have D1 := T5.out.drew
    have S1 := D1.cells
    have WN1 := (WN _ (D1.steps HS.out) (D1.tabs HT.out) (HRN.out.below D1.below)).mono fun _ _ h => h.wy
    have W01 := fun v (h : Wk w ⟨cw', ch', cl', cd', cr', ci', cb', we', ca'⟩ #[.int .i64 a0, .int .i64 a1] 30 v) => (W0 v (h.steps HS.out) (h.tabs HT.out)).mono fun _ _ h => h.wy
    have Q1 : Rd v5.drew aw (vi (wyK N m)) := R5.out
    simp only at S1
    clear WN W0 R5
    go_wp2_with fail
    go_region_held3 (fun v => v.cell? ⟨w.heap.size, 0, none⟩ = some (.int .i64 cw') ∧ v.cell? ⟨w.heap.size, 1, none⟩ = some (.int .i64 ch') ∧ v.cell? ⟨w.heap.size, 2, none⟩ = some (.int .i64 cl') ∧ v.cell? ⟨w.heap.size, 3, none⟩ = some (.int .i64 cd') ∧ v.cell? ⟨w.heap.size, 4, none⟩ = some (.int .i64 cr') ∧ v.cell? ⟨w.heap.size, 5, none⟩ = some (.int .i64 ci') ∧ v.cell? ⟨w.heap.size, 6, none⟩ = some (.int .i64 cb') ∧ v.cell? ⟨w.heap.size, 7, none⟩ = some (.bool we') ∧ v.cell? ⟨w.heap.size, 8, none⟩ = some (.bool ca'))
      (first | exact S4 | exact S3 | exact S2 | exact S1 | go_keep)
      (first
        | (go_at_call 16; (with_reducible refine WN1.mono ?_); rintro e u1 ⟨aw1, cp1, rfl, hcw1, r1, hb1⟩; have D2 := D1.next hb1; have S2 := D2.cells; have Q2 := Q1.below hb1)
        | (go_at_call 21; (with_reducible refine (SA _ _ _ _ _ r1 Q2).mono ?_); rintro e u2 ⟨rfl, nq, rfl⟩; have D3 := D2.drewN nq; have S3 := D3.cells)
        | (go_at_call 16; (with_reducible refine (W01 _ D3).mono ?_); rintro e u3 ⟨aw2, cp2, rfl, hcw2, r2, hb2⟩; have D4 := D3.next hb2; have S4 := D4.cells))
    have T6 : Hid (Wk w ⟨cw', ch', cl', cd', cr', ci', cb', we', ca'⟩ #[.int .i64 a0, .int .i64 a1] 30 u3) := D4
    clear D1 S1 D2 S2 D3 S3 D4 S4 hb1 hb2 r1 r2 Q1 Q2 WN1 W01 SA T5
    go_upto_region 10 with fail
    go_cut [] from 55 to 55 (fun wc => Wk w ⟨cw', ch', cl', cd', cr', ci', cb', false, ca'⟩ #[.int .i64 a0, .int .i64 a1] 30 wc)
    case first =>
      obtain ⟨g0, g1, g2, g3, g4, g5, g6, g7, g8⟩ := T6.out.free
      obtain ⟨x0, x1, x2, x3, x4, x5, x6, x7, x8⟩ := T6.out.cells
      simp only at x0 x1 x2 x3 x4 x5 x6 x7 x8
      clear WF WG SB
      go_wp2_with fail
      go_meet
      exact T6.out.way false
    case rest =>
    obtain ⟨v7, rfl⟩ : ∃ v7 : World, v7 = wc := ⟨_, rfl⟩
    have T7 : Hid (Wk w ⟨cw', ch', cl', cd', cr', ci', cb', false, ca'⟩ #[.int .i64 a0, .int .i64 a1] 30 v7) := hcut
    clear hcut T6
    have D1 := T7.out.drew
    have S1 := D1.cells
    have WF1 := (WF _ (D1.steps HS.out) (D1.tabs HT.out) (HR.out.below D1.below)).mono fun _ _ h => h.wy
    have WG1 := fun v (h : Wk w ⟨cw', ch', cl', cd', cr', ci', cb', false, ca'⟩ #[.int .i64 a0, .int .i64 a1] 30 v) => (WG v (h.steps HS.out) (h.tabs HT.out)).mono fun _ _ h => h.wy
    simp only at S1
    clear WF WG
    go_wp2_with fail
    go_region_held3 (fun v => v.cell? ⟨w.heap.size, 0, none⟩ = some (.int .i64 cw') ∧ v.cell? ⟨w.heap.size, 1, none⟩ = some (.int .i64 ch') ∧ v.cell? ⟨w.heap.size, 2, none⟩ = some (.int .i64 cl') ∧ v.cell? ⟨w.heap.size, 3, none⟩ = some (.int .i64 cd') ∧ v.cell? ⟨w.heap.size, 4, none⟩ = some (.int .i64 cr') ∧ v.cell? ⟨w.heap.size, 5, none⟩ = some (.int .i64 ci') ∧ v.cell? ⟨w.heap.size, 6, none⟩ = some (.int .i64 cb') ∧ v.cell? ⟨w.heap.size, 7, none⟩ = some (.bool false) ∧ v.cell? ⟨w.heap.size, 8, none⟩ = some (.bool ca'))
      (first | exact S4 | exact S3 | exact S2 | exact S1 | go_keep)
      (first
        | (go_at_call 16; (with_reducible refine WF1.mono ?_); rintro e u1 ⟨aw1, cp1, rfl, hcw1, r1, hb1⟩; have D2 := D1.next hb1; have S2 := D2.cells)
        | (go_at_call 16; (with_reducible refine (WG1 _ D2).mono ?_); rintro e u2 ⟨aw2, cp2, rfl, hcw2, r2, hb2⟩; have D3 := D2.next hb2; have S3 := D3.cells; have Q2 := r1.below hb2)
        | (go_at_call 21; (with_reducible refine (SB _ _ _ _ _ Q2 r2).mono ?_); rintro e u3 ⟨rfl, nq, rfl⟩; have D4 := D3.drewN nq; have S4 := D4.cells))
    have B8 : Hid (Below w.heap.size w (u2.drewN nq)) := D4.below
    clear D1 S1 D2 S2 D3 S3 D4 S4 hb1 hb2 r1 r2 Q2 WF1 WG1 SB T7
    go_wp2
    go_ret
    exact ⟨rfl, B8.out⟩
  · have z4 : ¬ (k : Int) < (n : Int) := by omega
    have z5 : (n : Int) ≤ (k : Int) := by omega
    obtain ⟨q0, q1, q2, q3, q4, q5, q6, q7, q8⟩ := T2.out.gw
    obtain ⟨y0, y1⟩ := T2.out.gwA
    simp only at q0 q1 q2 q3 q4 q5 q6 q7 q8
    go_wp2_with fail
    refine region_gw (by kernel_rfl) (by kernel_rfl) ?_
    repeat (first | go_big_quiet_skip | quiet_step ((first | (go_at_call_of 15 (Value.int IntKind.i64 a0); exact quiet_below (N1 _)) | (go_at_call_of 15 (Value.int IntKind.i64 a1); exact quiet_below (N2 _)))))
    refine wpQuiet_nil ?_
    intro v3 hw'
    obtain ⟨⟨u5, hb4⟩, hw''⟩ := hw'
    obtain rfl : v3 = u5 := hw''
    have T3 : Hid (Wk w ⟨cw', ch', cl', cd', cr', ci', cb', we', ca'⟩ #[.int .i64 a0, .int .i64 a1] 30 v3) := T2.out.next hb4
    clear hb4 q0 q1 q2 q3 q4 q5 q6 q7 q8 y0 y1 N1 N2 T2
    go_wp2_with fail
    go_at_call 17
    refine (FW _).mono ?_
    rintro e v4 ⟨rfl, rfl⟩
    clear FW
    obtain ⟨x0, x1, x2, x3, x4, x5, x6, x7, x8⟩ := T3.out.cells
    simp only at x0 x1 x2 x3 x4 x5 x6 x7 x8
    go_wp2_with fail
    go_at_call 16
    refine (WY _ (T3.out.steps HS.out) (T3.out.tabs HT.out) (HR.out.below T3.out.below)).mono ?_
    rintro e v5 h5
    obtain ⟨aw, cpw, rfl, hcw, r5, hb⟩ := h5.wy
    have T5 : Hid (Wk w ⟨cw', ch', cl', cd', cr', ci', cb', we', ca'⟩ #[.int .i64 a0, .int .i64 a1] 30 v5) := T3.out.next hb
    have R5 : Hid (Rd v5 aw (vi (wyK N n))) := r5
    clear h5 hb r5 WY T3 x0 x1 x2 x3 x4 x5 x6 x7 x8
    have D1 := T5.out.drew
    have S1 := D1.cells
    have WN1 := (WN _ (D1.steps HS.out) (D1.tabs HT.out) (HRN.out.below D1.below)).mono fun _ _ h => h.wy
    have W01 := fun v (h : Wk w ⟨cw', ch', cl', cd', cr', ci', cb', we', ca'⟩ #[.int .i64 a0, .int .i64 a1] 30 v) => (W0 v (h.steps HS.out) (h.tabs HT.out)).mono fun _ _ h => h.wy
    have Q1 : Rd v5.drew aw (vi (wyK N n)) := R5.out
    simp only at S1
    clear WN W0 R5
    go_wp2_with fail
    go_region_held3 (fun v => v.cell? ⟨w.heap.size, 0, none⟩ = some (.int .i64 cw') ∧ v.cell? ⟨w.heap.size, 1, none⟩ = some (.int .i64 ch') ∧ v.cell? ⟨w.heap.size, 2, none⟩ = some (.int .i64 cl') ∧ v.cell? ⟨w.heap.size, 3, none⟩ = some (.int .i64 cd') ∧ v.cell? ⟨w.heap.size, 4, none⟩ = some (.int .i64 cr') ∧ v.cell? ⟨w.heap.size, 5, none⟩ = some (.int .i64 ci') ∧ v.cell? ⟨w.heap.size, 6, none⟩ = some (.int .i64 cb') ∧ v.cell? ⟨w.heap.size, 7, none⟩ = some (.bool we') ∧ v.cell? ⟨w.heap.size, 8, none⟩ = some (.bool ca'))
      (first | exact S4 | exact S3 | exact S2 | exact S1 | go_keep)
      (first
        | (go_at_call 16; (with_reducible refine WN1.mono ?_); rintro e u1 ⟨aw1, cp1, rfl, hcw1, r1, hb1⟩; have D2 := D1.next hb1; have S2 := D2.cells; have Q2 := Q1.below hb1)
        | (go_at_call 21; (with_reducible refine (SA _ _ _ _ _ r1 Q2).mono ?_); rintro e u2 ⟨rfl, nq, rfl⟩; have D3 := D2.drewN nq; have S3 := D3.cells)
        | (go_at_call 16; (with_reducible refine (W01 _ D3).mono ?_); rintro e u3 ⟨aw2, cp2, rfl, hcw2, r2, hb2⟩; have D4 := D3.next hb2; have S4 := D4.cells))
    have T6 : Hid (Wk w ⟨cw', ch', cl', cd', cr', ci', cb', we', ca'⟩ #[.int .i64 a0, .int .i64 a1] 30 u3) := D4
    clear D1 S1 D2 S2 D3 S3 D4 S4 hb1 hb2 r1 r2 Q1 Q2 WN1 W01 SA T5
    go_upto_region 10 with fail
    go_cut [] from 55 to 55 (fun wc => Wk w ⟨cw', ch', cl', cd', cr', ci', cb', false, ca'⟩ #[.int .i64 a0, .int .i64 a1] 30 wc)
    case first =>
      obtain ⟨g0, g1, g2, g3, g4, g5, g6, g7, g8⟩ := T6.out.free
      obtain ⟨x0, x1, x2, x3, x4, x5, x6, x7, x8⟩ := T6.out.cells
      simp only at x0 x1 x2 x3 x4 x5 x6 x7 x8
      clear WF WG SB
      go_wp2_with fail
      go_meet
      exact T6.out.way false
    case rest =>
    obtain ⟨v7, rfl⟩ : ∃ v7 : World, v7 = wc := ⟨_, rfl⟩
    have T7 : Hid (Wk w ⟨cw', ch', cl', cd', cr', ci', cb', false, ca'⟩ #[.int .i64 a0, .int .i64 a1] 30 v7) := hcut
    clear hcut T6
    have D1 := T7.out.drew
    have S1 := D1.cells
    have WF1 := (WF _ (D1.steps HS.out) (D1.tabs HT.out) (HR.out.below D1.below)).mono fun _ _ h => h.wy
    have WG1 := fun v (h : Wk w ⟨cw', ch', cl', cd', cr', ci', cb', false, ca'⟩ #[.int .i64 a0, .int .i64 a1] 30 v) => (WG v (h.steps HS.out) (h.tabs HT.out)).mono fun _ _ h => h.wy
    simp only at S1
    clear WF WG
    go_wp2_with fail
    go_region_held3 (fun v => v.cell? ⟨w.heap.size, 0, none⟩ = some (.int .i64 cw') ∧ v.cell? ⟨w.heap.size, 1, none⟩ = some (.int .i64 ch') ∧ v.cell? ⟨w.heap.size, 2, none⟩ = some (.int .i64 cl') ∧ v.cell? ⟨w.heap.size, 3, none⟩ = some (.int .i64 cd') ∧ v.cell? ⟨w.heap.size, 4, none⟩ = some (.int .i64 cr') ∧ v.cell? ⟨w.heap.size, 5, none⟩ = some (.int .i64 ci') ∧ v.cell? ⟨w.heap.size, 6, none⟩ = some (.int .i64 cb') ∧ v.cell? ⟨w.heap.size, 7, none⟩ = some (.bool false) ∧ v.cell? ⟨w.heap.size, 8, none⟩ = some (.bool ca'))
      (first | exact S4 | exact S3 | exact S2 | exact S1 | go_keep)
      (first
        | (go_at_call 16; (with_reducible refine WF1.mono ?_); rintro e u1 ⟨aw1, cp1, rfl, hcw1, r1, hb1⟩; have D2 := D1.next hb1; have S2 := D2.cells)
        | (go_at_call 16; (with_reducible refine (WG1 _ D2).mono ?_); rintro e u2 ⟨aw2, cp2, rfl, hcw2, r2, hb2⟩; have D3 := D2.next hb2; have S3 := D3.cells; have Q2 := r1.below hb2)
        | (go_at_call 21; (with_reducible refine (SB _ _ _ _ _ Q2 r2).mono ?_); rintro e u3 ⟨rfl, nq, rfl⟩; have D4 := D3.drewN nq; have S4 := D4.cells))
    have B8 : Hid (Below w.heap.size w (u2.drewN nq)) := D4.below
    clear D1 S1 D2 S2 D3 S3 D4 S4 hb1 hb2 r1 r2 Q2 WF1 WG1 SB T7
    go_wp2
    go_ret
    exact ⟨rfl, B8.out⟩
end Go.Proofs.YtaohimmmhpmgdaaDoor
