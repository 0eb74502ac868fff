/-
  The walks of TurnOptions and TurnAllowed.
-/
import Derived.Test.YtdphimggmjhlaaaDoorTLives
namespace Go.Proofs.YtdphimggmjhlaaaDoor
open Go.RowKit

theorem Wk.tops {w v : World} {c : Cf} {a0 a1 : Int} {t : TypeId} (h : Wk w c #[.int .i64 a0, .int .i64 a1] t v) : v.cell? ⟨w.heap.size + 1, 0, none⟩ = some (.int .i64 a0) ∧ v.cell? ⟨w.heap.size + 1, 1, none⟩ = some (.int .i64 a1) := ⟨h.arr 0, h.arr 1⟩

set_option maxRecDepth 100000 in
set_option maxHeartbeats 2000000 in
theorem turnOptions_any (c : Cf) (a0 a1 k : Int) (h1 : -9223372036854775808 ≤ k) (h2 : k ≤ 9223372036854775807) (w : World) (hT : Tabs w) : Calls Tryd.prog 3 #[cfv c, .agg #[.int .i64 a0, .int .i64 a1], .int .i64 k] w fun e w' => e = .returned (.bool true) ∧ Below w.heap.size w w' := by
  have T0 : Hid (Wk w c #[.int .i64 a0, .int .i64 a1] 24 ((w.alloc (.cells (cfc c) 23)).alloc (.cells #[.int .i64 a0, .int .i64 a1] 24))) := Wk.start _ _ _ _
  have LV := lives_any _ (T0.out.tabs hT)
  have K1 := fun v h => choose_any c a0 a1 k h1 h2 v h
  have K2 := fun v => rchoose_any c a0 a1 k h1 h2 v
  have K3 := fun v h => options_any c a0 a1 v h
  have K4 := fun v => roptions_any c a0 a1 v
  have hl : (opt c a0 a1).length ≤ 1000 := by have := opt_le2 c a0 a1; omega
  have HT : Hid (Tabs w) := hT
  clear hT h1 h2
  generalize chP (opt c a0 a1) k = R at *
  generalize chB (opt c a0 a1) = B at *
  generalize opt c a0 a1 = L at *
  obtain ⟨cw, ch, cl, cd, cr, ci, cb, we, ca⟩ := c
  simp only [cfv, cfc] at *
  go_enter Tryd.func3, Tryd.ntmps3
  go_wp2_with fail
  go_at_call 9
  refine LV.mono ?_
  rintro e v1 ⟨rfl, hb⟩
  have T1 : Hid (Wk w ⟨cw, ch, cl, cd, cr, ci, cb, we, ca⟩ #[.int .i64 a0, .int .i64 a1] 24 v1) := T0.out.next hb
  clear hb LV T0
  obtain ⟨x0, x1, x2, x3, x4, x5, x6, x7, x8⟩ := T1.out.cells
  obtain ⟨y0, y1⟩ := T1.out.tops
  simp only at x0 x1 x2 x3 x4 x5 x6 x7 x8
  go_wp2_with fail
  go_at_call 10
  refine (K1 _ (T1.out.tabs HT.out)).mono ?_
  rintro e v2 ⟨rfl, hb⟩
  have T2 : Hid (Wk w ⟨cw, ch, cl, cd, cr, ci, cb, we, ca⟩ #[.int .i64 a0, .int .i64 a1] 24 v2) := T1.out.next hb
  clear hb K1 T1 x0 x1 x2 x3 x4 x5 x6 x7 x8 y0 y1
  obtain ⟨x0, x1, x2, x3, x4, x5, x6, x7, x8⟩ := T2.out.cells
  obtain ⟨y0, y1⟩ := T2.out.tops
  simp only at x0 x1 x2 x3 x4 x5 x6 x7 x8
  go_wp2_with fail
  go_at_call 11
  refine (K2 _).mono ?_
  rintro e v3 ⟨rfl, hb⟩
  have T3 : Hid (Wk w ⟨cw, ch, cl, cd, cr, ci, cb, we, ca⟩ #[.int .i64 a0, .int .i64 a1] 24 v3) := T2.out.next hb
  clear hb K2 T2 x0 x1 x2 x3 x4 x5 x6 x7 x8 y0 y1
  go_wp2_with fail
  have D1 := T3.out.drew
  have Q1 := D1.tabs HT.out
  have S1 := And.intro D1.tops D1.cells
  go_region_held3 (fun v => (v.cell? ⟨w.heap.size + 1, 0, none⟩ = some (.int .i64 a0) ∧ v.cell? ⟨w.heap.size + 1, 1, none⟩ = some (.int .i64 a1)) ∧ v.cell? ⟨w.heap.size, 0, none⟩ = some (.int .i64 cw) ∧ v.cell? ⟨w.heap.size, 1, none⟩ = some (.int .i64 ch) ∧ v.cell? ⟨w.heap.size, 2, none⟩ = some (.int .i64 cl) ∧ v.cell? ⟨w.heap.size, 3, none⟩ = some (.int .i64 cd) ∧ v.cell? ⟨w.heap.size, 4, none⟩ = some (.int .i64 cr) ∧ v.cell? ⟨w.heap.size, 5, none⟩ = some (.int .i64 ci) ∧ v.cell? ⟨w.heap.size, 6, none⟩ = some (.int .i64 cb) ∧ v.cell? ⟨w.heap.size, 7, none⟩ = some (.bool we) ∧ v.cell? ⟨w.heap.size, 8, none⟩ = some (.bool ca))
    (first | exact S4 | exact S3 | exact S2 | exact S1 | go_keep)
    (first
      | (go_at_call 13; (with_reducible refine (K3 _ Q1).mono ?_); rintro e u2 h2; obtain ⟨al, xl, rfl, _, rl, hb2⟩ := h2.rd; have D2 := D1.next hb2; have S2 := And.intro D2.tops D2.cells)
      | (go_at_call 14; (with_reducible refine (K4 _).mono ?_); rintro e u3 h3; obtain ⟨am, xm, rfl, _, rm, hb3⟩ := h3.rd; have rl3 := rl.below hb3; have D3 := D2.next hb3; have S3 := And.intro D3.tops D3.cells)
      | (go_at_call 12; (with_reducible refine (same_any L al am xl xm _ hl rl3 rm).mono ?_); rintro e u4 ⟨rfl, n4, rfl⟩; have D4 := D3.drewN n4; have S4 := And.intro D4.tops D4.cells))
  have HB : Hid (Below w.heap.size w (u3.drewN n4)) := D4.below
  clear D1 Q1 S1 D2 S2 rl rl3 rm D3 S3 D4 S4 hb2 hb3 h2 h3 K3 K4
  go_wp2
  go_ret
  exact ⟨rfl, HB.out⟩

set_option maxRecDepth 100000 in
set_option maxHeartbeats 2000000 in
theorem turnAllowed_any (f t : Int) (c : Cf) (w : World) (hS : Steps w) (hT : Tabs w) : Calls Tryd.prog 4 #[.int .i64 f, .int .i64 t, cfv c] w fun e w' => e = .returned (.bool true) ∧ Below w.heap.size w w' := by
  have T0 : Hid (W1 w c (w.alloc (.cells (cfc c) 23))) := W1.start _ _
  have LV := lives_any _ (T0.out.tabs hT)
  have K1 := fun v h => allowed_any f t v h
  have K2 := fun v => rallowed_any f t v
  have K3 := fun v h h' => straight_any c f t v h h'
  have K4 := fun v => rstraight_any c f t v
  have hl : (str c f t).length ≤ 1000 := by have := str_le c f t; omega
  have HS : Hid (Steps w) := hS
  have HT : Hid (Tabs w) := hT
  clear hT hS
  generalize alw f t = R at *
  generalize str c f t = L at *
  obtain ⟨cw, ch, cl, cd, cr, ci, cb, we, ca⟩ := c
  simp only [cfv, cfc] at *
  go_enter Tryd.func4, Tryd.ntmps4
  go_wp2_with fail
  go_at_call 9
  refine LV.mono ?_
  rintro e v1 ⟨rfl, hb⟩
  have T1 : Hid (W1 w ⟨cw, ch, cl, cd, cr, ci, cb, we, ca⟩ v1) := T0.out.next hb
  clear hb LV T0
  go_wp2_with fail
  have D1 := T1.out.drew
  have Q1 := D1.tabs HT.out
  have S1 := D1.cells
  go_region_held3 (fun v => v.cell? ⟨w.heap.size, 0, none⟩ = some (.int .i64 cw) ∧ v.cell? ⟨w.heap.size, 1, none⟩ = some (.int .i64 ch) ∧ v.cell? ⟨w.heap.size, 2, none⟩ = some (.int .i64 cl) ∧ v.cell? ⟨w.heap.size, 3, none⟩ = some (.int .i64 cd) ∧ v.cell? ⟨w.heap.size, 4, none⟩ = some (.int .i64 cr) ∧ v.cell? ⟨w.heap.size, 5, none⟩ = some (.int .i64 ci) ∧ v.cell? ⟨w.heap.size, 6, none⟩ = some (.int .i64 cb) ∧ v.cell? ⟨w.heap.size, 7, none⟩ = some (.bool we) ∧ v.cell? ⟨w.heap.size, 8, none⟩ = some (.bool ca))
    (first | exact S5 | exact S4 | exact S3 | exact S2 | exact S1 | go_keep)
    (first
      | (go_at_call 15; (with_reducible refine (K1 _ Q1).mono ?_); rintro e u1 ⟨rfl, rfl⟩)
      | (go_at_call 16; (with_reducible refine (K2 _).mono ?_); rintro e u2 ⟨rfl, hb2⟩; have D2 := D1.next hb2; have S2 := D2.cells; have Q2 := D2.tabs HT.out; have P2 := D2.steps HS.out)
      | (go_at_call 17; (with_reducible refine (K3 _ P2 Q2).mono ?_); rintro e u3 h3; obtain ⟨al, xl, rfl, _, rl, hb3⟩ := h3.rd; have D3 := D2.next hb3; have S3 := D3.cells)
      | (go_at_call 18; (with_reducible refine (K4 _).mono ?_); rintro e u4 h4; obtain ⟨am, xm, rfl, _, rm, hb4⟩ := h4.rd; have rl4 := rl.below hb4; have D4 := D3.next hb4; have S4 := D4.cells)
      | (go_at_call 12; (with_reducible refine (same_any L al am xl xm _ hl rl4 rm).mono ?_); rintro e u5 ⟨rfl, n5, rfl⟩; have D5 := D4.drewN n5; have S5 := D5.cells))
  have HB : Hid (Below w.heap.size w (u4.drewN n5)) := D5.below
  clear D1 Q1 S1 D2 S2 Q2 P2 rl rl4 rm D3 S3 D4 S4 D5 S5 hb2 hb3 hb4 h3 h4 K1 K2 K3 K4
  go_wp2
  go_ret
  exact ⟨rfl, HB.out⟩
end Go.Proofs.YtdphimggmjhlaaaDoor
