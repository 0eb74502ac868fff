/-
  The walk of WalkFar. (Written by gen_w9.py.)
-/
import Derived.Test.YtaohimmmhpmgdaaDoorLM
namespace Go.Proofs.YtaohimmmhpmgdaaDoor
open Go.RowKit

set_option maxRecDepth 100000 in
set_option maxHeartbeats 4000000 in
theorem walkFar_any (c : Cf) (a0 a1 : Int) (s : Option Addr) (l : List Int) (cap : Nat) (w : World) (hlc : l.length ≤ cap) (hr : RdA w s (vi l)) (hi : ∀ n ∈ l, inI n) (hS : Steps w) (hT : Tabs w) :
    Calls Tryd.prog 4 #[cfv c, .agg #[.int .i64 a0, .int .i64 a1], .slice s l.length cap] w fun e w' => e = .returned (.bool true) ∧ Below w.heap.size w w' := by
  have T0 : Hid (Wk w c #[.int .i64 a0, .int .i64 a1] 30 ((w.alloc (.cells (cfc c) 29)).alloc (.cells #[.int .i64 a0, .int .i64 a1] 30))) := Wk.start _ _ _ _
  have LV := lives_any _ (T0.out.steps hS) (T0.out.tabs hT)
  have SM := fun v => small_form c v
  have HS : Hid (Steps w) := hS
  have HT : Hid (Tabs w) := hT
  obtain ⟨cs, hcs⟩ : ∃ cs, l.take 20 = cs := ⟨_, rfl⟩
  have HR : Hid (RdA w s (vi cs)) := hcs ▸ hr.take 20
  have HI : Hid (∀ n ∈ cs, inI n) := show _ from fun n hn => hi n (List.mem_of_mem_take (hcs ▸ hn))
  have FW := fun v => few_any s l.length cap cs.length v hlc (by rw [← hcs, List.length_take]; omega)
  have hcl : cs.length ≤ 20 ∧ cs.length ≤ cap := by rw [← hcs, List.length_take]; omega
  generalize l.length = ln at *
  clear hS hT hr hi hcs hlc
  obtain ⟨cw, ch, cl, cd, cr, ci, cb, we, ca⟩ := c
  simp only [cfv, cfc] at *
  go_enter Tryd.func4, Tryd.ntmps4
  go_wp2_with fail
  go_at_call 8
  refine LV.mono ?_
  rintro e v1 ⟨rfl, hb⟩
  have T1 : Hid (Wk w ⟨cw, ch, cl, cd, cr, ci, cb, we, ca⟩ #[.int .i64 a0, .int .i64 a1] 30 v1) := T0.out.next hb
  clear hb LV T0
  go_upto_region 3 with fail
  go_cut [] from 14 to 15 (fun wc => ∃ c', Wk w c' #[.int .i64 a0, .int .i64 a1] 30 wc ∧ Fits c')
  case first =>
    obtain ⟨x0, x1, x2, x3, x4, x5, x6, x7, x8⟩ := T1.out.cells
    simp only at x0 x1 x2 x3 x4 x5 x6 x7 x8
    have z1 := T1.out.lt
    go_wp2_with fail
    go_at_call 14
    refine (SM _).mono ?_
    rintro e v2 ⟨dw, dh, dl, dd, dr, di, db, de, da, rfl, hb, f, f1, f2⟩
    have T2 : Hid (Wk w _ #[.int .i64 a0, .int .i64 a1] 30 v2) := T1.out.next hb
    have HF : Hid (Fits ⟨dw, dh, dl, dd, dr, di, db, de, da⟩) := f
    clear x0 x1 x2 x3 x4 x5 x6 x7 x8 hb SM f f1 f2 z1
    obtain ⟨x0, x1, x2, x3, x4, x5, x6, x7, x8⟩ := T2.out.cells
    simp only at x0 x1 x2 x3 x4 x5 x6 x7 x8
    obtain ⟨g0, g1, g2, g3, g4, g5, g6, g7, g8⟩ := T2.out.free
    go_wp2_with fail
    go_meet
    exact ⟨⟨dw, dh, dl, dd, dr, di, db, de, da⟩, T2.out.all ⟨dw, dh, dl, dd, dr, di, db, de, da⟩, HF.out⟩
  case rest =>
  obtain ⟨c', h2, f⟩ := hcut
  obtain ⟨v2, rfl⟩ : ∃ v2 : World, v2 = wc := ⟨_, rfl⟩
  have T2 : Hid (Wk w c' #[.int .i64 a0, .int .i64 a1] 30 v2) := h2
  clear h2 T1 SM
  have hc := chk_fits f
  have I1 := nde_in hc a0
  have I2 := nde_in hc a1
  have N1 := node_any c' hc a0
  have N2 := node_any c' hc a1
  have FA := fun v => far_any c' (nde c' a0) (nde c' a1) v
  obtain ⟨far, N, P, e1, e2, e3, e4, e5, e6, e7, e8⟩ := far_inv I1 I2 cs
  have WY := fun v h1 h2 h3 => way_any c' (nde c' a0) (nde c' a1) s cs cap v h1 h2 h3 HI.out
  have CH := fun a cp v h1 h2 => channels_any c' N P far a cp v h1 (by omega) h2 e6
  have RI := fun a cp v h1 h2 => rises_any c' N P far a cp v h1 (by omega) h2 (fun k hk => ⟨(e6 k hk).2, e7 k hk⟩) e8
  rw [e3] at FA
  simp only [e1] at WY
  clear hc f I1 I2 e1 e3 e6 e7 e8
  generalize nde c' a0 = A at *
  generalize nde c' a1 = B at *
  obtain ⟨cw', ch', cl', cd', cr', ci', cb', we', ca'⟩ := c'
  simp only [cfv, cfc] at *
  obtain ⟨m, hm⟩ : ∃ m, far + 1 = m := ⟨_, rfl⟩
  rw [hm] at CH
  simp only [hm] at WY
  have em : IntKind.i64.wrap ((m : Int) - 1) = (far : Int) := by rw [IntWalk.i64_in _ (by omega)]; omega
  have em2 : IntKind.i64.wrap ((far : Int) + 1) = (m : Int) := by rw [IntWalk.i64_in _ (by omega)]; omega
  have m0 : (0 : Int) < (m : Int) := by omega
  have m1 : 0 < m := by omega
  have m2 : (far : Int) < (m : Int) := by omega
  have m3 : (0 : Int) ≤ (far : Int) := by omega
  have HM : Hid (far + 1 = m) := hm
  clear hm
  obtain ⟨q0, q1, q2, q3, q4, q5, q6, q7, q8⟩ := T2.out.gw
  obtain ⟨y0, y1⟩ := T2.out.gwA
  simp only at q0 q1 q2 q3 q4 q5 q6 q7 q8
  go_wp2_with fail
  refine region_gw (by kernel_rfl) (by kernel_rfl) ?_
  repeat (first | go_big_quiet_skip | quiet_step ((first | (go_at_call_of 15 (Value.int IntKind.i64 a0); exact quiet_below (N1 _)) | (go_at_call_of 15 (Value.int IntKind.i64 a1); exact quiet_below (N2 _)))))
  refine wpQuiet_nil ?_
  intro v3 hw'
  obtain ⟨⟨u5, hb4⟩, hw''⟩ := hw'
  obtain rfl : v3 = u5 := hw''
  have T3 : Hid (Wk w ⟨cw', ch', cl', cd', cr', ci', cb', we', ca'⟩ #[.int .i64 a0, .int .i64 a1] 30 v3) := T2.out.next hb4
  clear hb4 q0 q1 q2 q3 q4 q5 q6 q7 q8 y0 y1 N1 N2 T2
  have D1 := T3.out.drew
  have S1 := D1.cells
  have WY1 := (WY _ (D1.steps HS.out) (D1.tabs HT.out) (HR.out.below D1.below)).mono fun _ _ h => h.wy
  simp only at S1
  go_wp2_with fail
  go_region_held3 (fun v => v.cell? ⟨w.heap.size, 0, none⟩ = some (.int .i64 cw') ∧ v.cell? ⟨w.heap.size, 1, none⟩ = some (.int .i64 ch') ∧ v.cell? ⟨w.heap.size, 2, none⟩ = some (.int .i64 cl') ∧ v.cell? ⟨w.heap.size, 3, none⟩ = some (.int .i64 cd') ∧ v.cell? ⟨w.heap.size, 4, none⟩ = some (.int .i64 cr') ∧ v.cell? ⟨w.heap.size, 5, none⟩ = some (.int .i64 ci') ∧ v.cell? ⟨w.heap.size, 6, none⟩ = some (.int .i64 cb') ∧ v.cell? ⟨w.heap.size, 7, none⟩ = some (.bool we') ∧ v.cell? ⟨w.heap.size, 8, none⟩ = some (.bool ca'))
    (first | exact S2 | exact S1 | go_keep)
    (first
      | (go_at_call 17; (with_reducible refine (FW _).mono ?_); rintro e u2 ⟨rfl, rfl⟩)
      | (go_at_call 16; (with_reducible refine WY1.mono ?_); rintro e u3 ⟨aw, cpw, rfl, hcw, r3, hb3⟩; have D2 := D1.next hb3; have S2 := D2.cells))
  have T5 : Hid (Wk w ⟨cw', ch', cl', cd', cr', ci', cb', we', ca'⟩ #[.int .i64 a0, .int .i64 a1] 30 u3) := D2
  have R5 : Hid (Rd u3 aw (vi (wyK N m))) := r3
  clear D1 S1 D2 S2 hb3 r3 WY WY1 FW T3
  obtain ⟨x0, x1, x2, x3, x4, x5, x6, x7, x8⟩ := T5.out.cells
  simp only at x0 x1 x2 x3 x4 x5 x6 x7 x8
  go_wp2_with fail
  go_at_call 18
  refine (CH _ _ _ (T5.out.steps HS.out) (RdA.of R5.out)).mono ?_
  rintro e v6 h6
  obtain ⟨al, cpl, rfl, _, r6, hb⟩ := h6.rd
  have T6 : Hid (Wk w ⟨cw', ch', cl', cd', cr', ci', cb', we', ca'⟩ #[.int .i64 a0, .int .i64 a1] 30 v6) := T5.out.next hb
  have R6 : Hid (Rd v6 aw (vi (wyK N m))) := R5.out.below hb
  have L6 : Hid (Rd v6 al (pc (chK N P far))) := r6
  rw [chK_len]
  clear h6 hb r6 CH T5 R5 x0 x1 x2 x3 x4 x5 x6 x7 x8
  obtain ⟨x0, x1, x2, x3, x4, x5, x6, x7, x8⟩ := T6.out.cells
  simp only at x0 x1 x2 x3 x4 x5 x6 x7 x8
  go_wp2_with fail
  go_at_call 19
  refine (FA _).mono ?_
  rintro e v7 ⟨rfl, hb⟩
  have T7 : Hid (Wk w ⟨cw', ch', cl', cd', cr', ci', cb', we', ca'⟩ #[.int .i64 a0, .int .i64 a1] 30 v7) := T6.out.next hb
  have R7 : Hid (Rd v7 aw (vi (wyK N m))) := R6.out.below hb
  have L7 : Hid (Rd v7 al (pc (chK N P far))) := L6.out.below hb
  clear hb FA T6 R6 L6 x0 x1 x2 x3 x4 x5 x6 x7 x8
  obtain ⟨x0, x1, x2, x3, x4, x5, x6, x7, x8⟩ := T7.out.cells
  simp only at x0 x1 x2 x3 x4 x5 x6 x7 x8
  go_wp2_with fail
  go_at_call 20
  refine (RI _ _ _ (T7.out.steps HS.out) L7.out).mono ?_
  rintro e v8 ⟨rfl, hb⟩
  have B8 : Hid (Below w.heap.size w v8) := (T7.out.next hb).below
  have R8 := (RdA.of (R7.out.below hb)).two (i := 0) (j := far) m1 (by have := HM.out; omega)
  obtain ⟨g, o, rfl, _, c1, c2⟩ := R8
  rw [e4, Nat.add_zero] at c1
  rw [e5] at c2
  clear hb RI T7 R7 L7 x0 x1 x2 x3 x4 x5 x6 x7 x8
  go_wp2
  go_ret
  exact ⟨rfl, B8.out⟩
end Go.Proofs.YtaohimmmhpmgdaaDoor
