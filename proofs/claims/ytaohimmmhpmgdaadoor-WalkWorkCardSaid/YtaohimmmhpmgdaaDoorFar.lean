/-
  The walks of between and Far.
-/
import Derived.Test.YtaohimmmhpmgdaaDoorBeside
import Derived.IntWalk
namespace Go.Proofs.YtaohimmmhpmgdaaDoor
open Go.RowKit

theorem between_any (a b : Int) (ha : 0 ≤ a) (ha' : a ≤ 63) (hb : 0 ≤ b) (hb' : b ≤ 63) (w : World) : Calls Tryd.prog 33 #[.int .i64 a, .int .i64 b] w fun e w' => e = .returned (.int .i64 (btw a b)) ∧ w = w' := by
  unfold btw
  by_cases h : a ≤ b
  · rw [if_pos h]
    obtain ⟨d, hd⟩ : ∃ d : Int, d = b - a := ⟨_, rfl⟩
    have e1 : IntKind.i64.wrap (a - b) = -d := by rw [IntWalk.i64_in _ (by omega)]; omega
    have e2 : IntKind.i64.wrap (b - a) = d := by rw [IntWalk.i64_in _ (by omega)]; omega
    have e3 : -d ≤ d := by omega
    have e4 : max (-d) d = d := by omega
    rw [← hd]
    clear hd
    go_enter Tryd.func33, Tryd.ntmps33
    go_wp2
    all_goals
      go_ret
      exact ⟨ret_int (by omega), rfl⟩
  · rw [if_neg h]
    obtain ⟨d, hd⟩ : ∃ d : Int, d = a - b := ⟨_, rfl⟩
    have e1 : IntKind.i64.wrap (a - b) = d := by rw [IntWalk.i64_in _ (by omega)]; omega
    have e2 : IntKind.i64.wrap (b - a) = -d := by rw [IntWalk.i64_in _ (by omega)]; omega
    have e3 : ¬ d ≤ -d := by omega
    have e4 : max d (-d) = d := by omega
    rw [← hd]
    clear hd
    go_enter Tryd.func33, Tryd.ntmps33
    go_wp2
    all_goals
      go_ret
      exact ⟨ret_int (by omega), rfl⟩

theorem far_any (c : Cf) (a b : Int) (w : World) : Calls Tryd.prog 19 #[cfv c, .int .i64 a, .int .i64 b] w fun e w' => e = .returned (.int .i64 (fr c a b)) ∧ Below w.heap.size w w' := by
  have K1 := place_any c a
  have K2 := place_any c b
  have px := plx_in c a
  have py := ply_in c a
  have qx := plx_in c b
  have qy := ply_in c b
  have B1 := between_any (plx c a) (plx c b) px.1 px.2 qx.1 qx.2
  have B2 := between_any (ply c a) (ply c b) py.1 py.2 qy.1 qy.2
  have A0 : Hid (At w c (w.alloc (.cells (cfc c) 29))) := At.start w c
  cases h1 : isN c a with
  | false =>
    rw [show fr c a b = -1 by unfold fr; rw [h1]; rfl]
    rw [(pl_no h1).1, (pl_no h1).2.1, (pl_no h1).2.2] at K1
    clear B1 B2 px py qx qy h1
    generalize plx c b = X at *
    generalize ply c b = Y at *
    generalize ple c b = E at *
    obtain ⟨cw, ch, cl, cd, cr, ci, cb, we, ca⟩ := c
    simp only [cfv, cfc] at *
    go_enter Tryd.func19, Tryd.ntmps19
    go_wp2_with fail
    go_at_call 32
    refine (K1 _).mono ?_
    rintro e v1 ⟨rfl, hb⟩
    have A1 := A0.out.trans hb
    clear hb K1
    obtain ⟨x0, x1, x2, x3, x4, x5, x6, x7, x8⟩ := A1.cells
    have HA1 : Hid (At w _ v1) := A1
    clear A1
    simp only at x0 x1 x2 x3 x4 x5 x6 x7 x8
    go_wp2_with fail
    go_at_call 32
    refine (K2 _).mono ?_
    rintro e v2 ⟨rfl, hb⟩
    have HA2 : Hid (At w _ v2) := HA1.out.trans hb
    clear hb K2 x0 x1 x2 x3 x4 x5 x6 x7 x8
    go_wp2
    go_ret
    exact ⟨rfl, HA2.out.below⟩
  | true =>
  cases h2 : isN c b with
  | false =>
    rw [show fr c a b = -1 by unfold fr; rw [h1, h2]; rfl]
    rw [pl_yes h1] at K1
    rw [(pl_no h2).1, (pl_no h2).2.1, (pl_no h2).2.2] at K2
    clear B1 B2 px py qx qy h1 h2
    generalize plx c a = X at *
    generalize ply c a = Y at *
    obtain ⟨cw, ch, cl, cd, cr, ci, cb, we, ca⟩ := c
    simp only [cfv, cfc] at *
    go_enter Tryd.func19, Tryd.ntmps19
    go_wp2_with fail
    go_at_call 32
    refine (K1 _).mono ?_
    rintro e v1 ⟨rfl, hb⟩
    have A1 := A0.out.trans hb
    clear hb K1
    obtain ⟨x0, x1, x2, x3, x4, x5, x6, x7, x8⟩ := A1.cells
    have HA1 : Hid (At w _ v1) := A1
    clear A1
    simp only at x0 x1 x2 x3 x4 x5 x6 x7 x8
    go_wp2_with fail
    go_at_call 32
    refine (K2 _).mono ?_
    rintro e v2 ⟨rfl, hb⟩
    have HA2 : Hid (At w _ v2) := HA1.out.trans hb
    clear hb K2 x0 x1 x2 x3 x4 x5 x6 x7 x8
    go_wp2
    go_ret
    exact ⟨rfl, HA2.out.below⟩
  | true =>
    have b1 : 0 ≤ btw (plx c a) (plx c b) ∧ btw (plx c a) (plx c b) ≤ 63 := by unfold btw; split <;> omega
    have b2 : 0 ≤ btw (ply c a) (ply c b) ∧ btw (ply c a) (ply c b) ≤ 63 := by unfold btw; split <;> omega
    rw [fr_ok h1 h2]
    rw [pl_yes h1] at K1
    rw [pl_yes h2] at K2
    generalize btw (plx c a) (plx c b) = D1 at *
    generalize btw (ply c a) (ply c b) = D2 at *
    clear h1 h2
    generalize plx c a = X at *
    generalize ply c a = Y at *
    generalize plx c b = X' at *
    generalize ply c b = Y' at *
    obtain ⟨cw, ch, cl, cd, cr, ci, cb, we, ca⟩ := c
    simp only [cfv, cfc] at *
    go_enter Tryd.func19, Tryd.ntmps19
    go_wp2_with fail
    go_at_call 32
    refine (K1 _).mono ?_
    rintro e v1 ⟨rfl, hb⟩
    have A1 := A0.out.trans hb
    clear hb K1
    obtain ⟨x0, x1, x2, x3, x4, x5, x6, x7, x8⟩ := A1.cells
    have HA1 : Hid (At w _ v1) := A1
    clear A1
    simp only at x0 x1 x2 x3 x4 x5 x6 x7 x8
    go_wp2_with fail
    go_at_call 32
    refine (K2 _).mono ?_
    rintro e v2 ⟨rfl, hb⟩
    have HA2 : Hid (At w _ v2) := HA1.out.trans hb
    clear hb K2 x0 x1 x2 x3 x4 x5 x6 x7 x8
    go_wp2_with fail
    go_at_call 33
    refine (B1 _).mono ?_
    rintro e v3 ⟨rfl, rfl⟩
    go_wp2_with fail
    go_at_call 33
    refine (B2 _).mono ?_
    rintro e v3 ⟨rfl, rfl⟩
    clear B1 B2
    go_wp2
    go_ret
    exact ⟨rfl, HA2.out.below⟩

end Go.Proofs.YtaohimmmhpmgdaaDoor
