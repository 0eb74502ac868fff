/-
  The walk of SnakeLabels. (Written by gen_labw.py.)
-/
import Derived.Test.YtcebfkkpclnmoaaDoorLives
import Derived.Deep.CutRange
namespace Go.Proofs.YtcebfkkpclnmoaaDoor
open Go.RowKit

set_option maxRecDepth 100000 in
set_option maxHeartbeats 2000000 in
theorem snakeLabels_any (c : Cf) (a b : Int) (w : World) (hS : Steps w) : Calls Tryd.prog 3 #[cfv c, .int .i64 a, .int .i64 b] w fun e w' => e = .returned (.bool true) ∧ Below w.heap.size w w' := by
  have T0 : Hid (W1 w c (w.alloc (.cells (cfc c) 23))) := W1.start _ _
  have LV := lives_any _ (T0.out.steps hS)
  have K1 := fun v => label_any c a v
  have K2 := fun v => rlabel_any c a v
  have K3 := fun v => snode_any c b v
  have K4 := fun v => rnode_any c b v
  have K5 := fun v h => step_any c a b v h
  have K6 := fun v => rstep_any c a b v
  have HS : Hid (Steps w) := hS
  clear hS
  generalize lb c a = p1 at *
  generalize ple c a = p2 at *
  generalize lb c b = p3 at *
  generalize ple c b = p4 at *
  generalize stp c a b = p5 at *
  generalize stB c a b = p6 at *
  obtain ⟨cw, ch, cl, cd, cr, ci, cb, we, ca⟩ := c
  simp only [cfv, cfc] at *
  go_enter Tryd.func3, Tryd.ntmps3
  go_wp2_with fail
  go_at_call 10
  refine LV.mono ?_
  rintro e v1 ⟨rfl, hb⟩
  have T1 : Hid (W1 w ⟨cw, ch, cl, cd, cr, ci, cb, we, ca⟩ v1) := T0.out.next hb
  clear hb LV T0
  by_cases hg : cw > 16 ∨ ch > 16
  · have HB : Hid (Below w.heap.size w v1) := T1.out.below
    clear K1 K2 K3 K4 K5 K6
    obtain ⟨x0, x1, x2, x3, x4, x5, x6, x7, x8⟩ := T1.out.cells
    simp only at x0 x1 x2 x3 x4 x5 x6 x7 x8
    rcases hg with hg | hg
    · go_wp2
      all_goals
        go_ret
        exact ⟨rfl, HB.out⟩
    · by_cases hg2 : cw > 16
      all_goals
        go_wp2
        all_goals
          go_ret
          exact ⟨rfl, HB.out⟩
  · obtain ⟨hg1, hg2⟩ : ¬ cw > 16 ∧ ¬ ch > 16 := by omega
    clear hg
    obtain ⟨x0, x1, x2, x3, x4, x5, x6, x7, x8⟩ := T1.out.cells
    simp only at x0 x1 x2 x3 x4 x5 x6 x7 x8
    go_wp2_with fail
    go_at_call 11
    refine (K1 _).mono ?_
    rintro e v2 ⟨rfl, hb⟩
    have T2 : Hid (W1 w ⟨cw, ch, cl, cd, cr, ci, cb, we, ca⟩ v2) := T1.out.next hb
    clear hb K1 T1 x0 x1 x2 x3 x4 x5 x6 x7 x8 
    obtain ⟨x0, x1, x2, x3, x4, x5, x6, x7, x8⟩ := T2.out.cells
    simp only at x0 x1 x2 x3 x4 x5 x6 x7 x8
    go_wp2_with fail
    go_at_call 12
    refine (K2 _).mono ?_
    rintro e v3 ⟨rfl, hb⟩
    have T3 : Hid (W1 w ⟨cw, ch, cl, cd, cr, ci, cb, we, ca⟩ v3) := T2.out.next hb
    clear hb K2 T2 x0 x1 x2 x3 x4 x5 x6 x7 x8 hg1 hg2
    obtain ⟨x0, x1, x2, x3, x4, x5, x6, x7, x8⟩ := T3.out.cells
    simp only at x0 x1 x2 x3 x4 x5 x6 x7 x8
    go_wp2_with fail
    go_at_call 13
    refine (K3 _).mono ?_
    rintro e v4 ⟨rfl, hb⟩
    have T4 : Hid (W1 w ⟨cw, ch, cl, cd, cr, ci, cb, we, ca⟩ v4) := T3.out.next hb
    clear hb K3 T3 x0 x1 x2 x3 x4 x5 x6 x7 x8 
    obtain ⟨x0, x1, x2, x3, x4, x5, x6, x7, x8⟩ := T4.out.cells
    simp only at x0 x1 x2 x3 x4 x5 x6 x7 x8
    go_wp2_with fail
    go_at_call 14
    refine (K4 _).mono ?_
    rintro e v5 ⟨rfl, hb⟩
    have T5 : Hid (W1 w ⟨cw, ch, cl, cd, cr, ci, cb, we, ca⟩ v5) := T4.out.next hb
    clear hb K4 T4 x0 x1 x2 x3 x4 x5 x6 x7 x8 
    obtain ⟨x0, x1, x2, x3, x4, x5, x6, x7, x8⟩ := T5.out.cells
    simp only at x0 x1 x2 x3 x4 x5 x6 x7 x8
    go_wp2_with fail
    go_at_call 15
    refine (K5 _ (T5.out.steps HS.out)).mono ?_
    rintro e v6 ⟨rfl, hb⟩
    have T6 : Hid (W1 w ⟨cw, ch, cl, cd, cr, ci, cb, we, ca⟩ v6) := T5.out.next hb
    clear hb K5 T5 x0 x1 x2 x3 x4 x5 x6 x7 x8 
    obtain ⟨x0, x1, x2, x3, x4, x5, x6, x7, x8⟩ := T6.out.cells
    simp only at x0 x1 x2 x3 x4 x5 x6 x7 x8
    go_wp2_with fail
    go_at_call 16
    refine (K6 _).mono ?_
    rintro e v7 ⟨rfl, hb⟩
    have T7 : Hid (W1 w ⟨cw, ch, cl, cd, cr, ci, cb, we, ca⟩ v7) := T6.out.next hb
    clear hb K6 T6 x0 x1 x2 x3 x4 x5 x6 x7 x8 
    have HB : Hid (Below w.heap.size w v7) := T7.out.below
    clear T7
    go_wp2
    go_ret
    exact ⟨rfl, HB.out⟩
end Go.Proofs.YtcebfkkpclnmoaaDoor
