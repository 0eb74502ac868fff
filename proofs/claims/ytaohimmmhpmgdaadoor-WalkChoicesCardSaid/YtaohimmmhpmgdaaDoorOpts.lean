/-
  The walk of Options.
-/
import Derived.Test.YtaohimmmhpmgdaaDoorToward
namespace Go.Proofs.YtaohimmmhpmgdaaDoor
open Go.RowKit

theorem Row.of {w w' : World} {l l' : List Int} {v : Value} (e : l' = l) (h : Own 3 w' w.heap.size v (vi l)) (hb : Below w.heap.size w w') : Row w l' (.returned v) w' := by
  subst e
  exact ⟨v, rfl, h, hb⟩

set_option maxHeartbeats 1000000 in
theorem options_any (c : Cf) (a b : Int) (w : World) (hT : Tabs w) : Calls Tryd.prog 41 #[cfv c, .int .i64 a, .int .i64 b] w (Row w (opt c a b)) := by
  have A0 : Hid (At w c (w.alloc (.cells (cfc c) 29))) := At.start w c
  have K := toward_any c a b _ (A0.out.tabs hT)
  clear hT
  cases h : twB c a b with
  | false =>
    rw [(tw_no h).1]
    rw [h, (tw_no h).2.1, (tw_no h).2.2] at K
    clear h
    obtain ⟨cw, ch, cl, cd, cr, ci, cb, we, ca⟩ := c
    simp only [cfv, cfc] at *
    go_enter Tryd.func41, Tryd.ntmps41
    go_wp2_with fail
    go_at_call 45
    refine K.mono ?_
    rintro e v1 ⟨rfl, hb⟩
    have HA1 : Hid (At w _ v1) := A0.out.trans hb
    clear hb K
    go_wp2
    go_ret
    exact Row.mk (Own.nil _ _ _) HA1.out.below
  | true =>
    rw [h] at K
    have e0 := tw_opt h
    obtain ⟨L, hL⟩ : ∃ L, opt c a b = L := ⟨_, rfl⟩
    rw [hL] at e0 ⊢
    clear h hL
    generalize twX c a b = X at *
    generalize twY c a b = Y at *
    obtain ⟨cw, ch, cl, cd, cr, ci, cb, we, ca⟩ := c
    have HL : Hid (L = if X = 0 then [Y] else if Y = 0 ∨ X = 2 ∨ we = false then [X] else [X, Y]) := e0
    clear e0
    simp only [cfv, cfc] at *
    go_enter Tryd.func41, Tryd.ntmps41
    go_wp2_with fail
    go_at_call 45
    refine K.mono ?_
    rintro e v1 ⟨rfl, hb⟩
    have A1 := A0.out.trans hb
    clear hb K
    obtain ⟨x0, x1, x2, x3, x4, x5, x6, x7, x8⟩ := A1.cells
    have HA1 : Hid (At w _ v1) := A1
    have hsz : w.heap.size ≤ v1.heap.size := A1.below.size
    clear A1 A0
    simp only at x0 x1 x2 x3 x4 x5 x6 x7 x8
    clear x0 x1 x2 x3 x4 x5 x6 x8
    by_cases hx : X = 0
    · subst hx
      go_wp2
      go_ret
      exact Row.of (l := [Y]) (by rw [HL.out]; simp) (Own.lit #[.int .i64 Y] hsz (by simp)) (HA1.out.below.alloc hsz _)
    · by_cases hy : Y = 0
      · subst hy
        go_wp2
        go_ret
        exact Row.of (l := [X]) (by rw [HL.out]; simp [hx]) (Own.lit #[.int .i64 X] hsz (by simp)) (HA1.out.below.alloc hsz _)
      · by_cases h2 : X = 2
        · subst h2
          go_wp2
          go_ret
          exact Row.of (l := [2]) (by rw [HL.out]; simp) (Own.lit #[.int .i64 2] hsz (by simp)) (HA1.out.below.alloc hsz _)
        · cases we with
          | false =>
            go_wp2
            go_ret
            exact Row.of (l := [X]) (by rw [HL.out]; simp [hx]) (Own.lit #[.int .i64 X] hsz (by simp)) (HA1.out.below.alloc hsz _)
          | true =>
            go_wp2
            go_ret
            exact Row.of (l := [X, Y]) (by rw [HL.out]; simp [hx, hy, h2]) (Own.lit #[.int .i64 X, .int .i64 Y] hsz (by simp)) (HA1.out.below.alloc hsz _)
end Go.Proofs.YtaohimmmhpmgdaaDoor
