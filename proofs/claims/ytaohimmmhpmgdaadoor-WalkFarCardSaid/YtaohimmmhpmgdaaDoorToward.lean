/-
  The walks of toward and Options.
-/
import Derived.Test.YtaohimmmhpmgdaaDoorTabs
import Derived.Test.YtaohimmmhpmgdaaDoorVi
import Derived.Deep.RegionHeld3
namespace Go.Proofs.YtaohimmmhpmgdaaDoor
open Go.RowKit

/-- The ports that lead nearer along x and along y. -/
def tox (d : Int) : Int := if d < 0 then 2 else if 0 < d then 1 else 0
def toy (d : Int) : Int := if d < 0 then 4 else if 0 < d then 3 else 0
def twB (c : Cf) (a b : Int) : Bool := isN c a && isN c b
def twX (c : Cf) (a b : Int) : Int := if twB c a b = true then tox (ox c a b) else 0
def twY (c : Cf) (a b : Int) : Int := if twB c a b = true then toy (oy c a b) else 0

theorem cmp_tox (a b : Int) : (cmp b a = -1 ∧ tox (b - a) = 2 ∧ toy (b - a) = 4) ∨ (cmp b a = 0 ∧ tox (b - a) = 0 ∧ toy (b - a) = 0) ∨ (cmp b a = 1 ∧ tox (b - a) = 1 ∧ toy (b - a) = 3) := by
  unfold cmp tox toy
  rcases Int.lt_trichotomy b a with h | h | h
  · left; rw [if_pos h, if_pos (by omega), if_pos (by omega)]; exact ⟨rfl, rfl, rfl⟩
  · right; left; rw [if_neg (by omega), if_neg (by omega), if_neg (by omega), if_neg (by omega), if_neg (by omega), if_neg (by omega)]; exact ⟨rfl, rfl, rfl⟩
  · right; right; rw [if_neg (by omega), if_pos h, if_neg (by omega), if_pos (by omega), if_neg (by omega), if_pos (by omega)]; exact ⟨rfl, rfl, rfl⟩

set_option maxHeartbeats 1000000 in
theorem toward_any (c : Cf) (a b : Int) (w : World) (hT : Tabs w) : Calls Tryd.prog 45 #[cfv c, .int .i64 a, .int .i64 b] w fun e w' => e = .returned (.tuple #[.int .i64 (twX c a b), .int .i64 (twY c a b), .bool (twB c a b)]) ∧ Below w.heap.size w w' := by
  have K1 := place_any c a
  have K2 := place_any c b
  have C1 := compare_any (plx c b) (plx c a)
  have C2 := compare_any (ply c b) (ply c a)
  have A0 : Hid (At w c (w.alloc (.cells (cfc c) 29))) := At.start w c
  have HT : Hid (Tabs w) := hT
  clear hT
  cases h1 : isN c a with
  | false =>
    rw [show twB c a b = false by unfold twB; rw [h1]; rfl, show twX c a b = 0 by unfold twX twB; rw [h1]; rfl, show twY c a b = 0 by unfold twY twB; rw [h1]; rfl]
    rw [(pl_no h1).1, (pl_no h1).2.1, (pl_no h1).2.2] at K1
    clear C1 C2 h1
    generalize plx c b = X at *
    generalize ply c b = Y at *
    generalize ple c b = E at *
    obtain ⟨cw, ch, cl, cd, cr, ci, cb, we, ca⟩ := c
    simp only [cfv, cfc] at *
    go_enter Tryd.func45, Tryd.ntmps45
    go_wp2_with fail
    go_at_call 32
    refine (K1 _).mono ?_
    rintro e v1 ⟨rfl, hb⟩
    have A1 := A0.out.trans hb
    clear hb K1
    obtain ⟨x0, x1, x2, x3, x4, x5, x6, x7, x8⟩ := A1.cells
    have HA1 : Hid (At w _ v1) := A1
    clear A1
    simp only at x0 x1 x2 x3 x4 x5 x6 x7 x8
    go_wp2_with fail
    go_at_call 32
    refine (K2 _).mono ?_
    rintro e v2 ⟨rfl, hb⟩
    have HA2 : Hid (At w _ v2) := HA1.out.trans hb
    clear hb K2 x0 x1 x2 x3 x4 x5 x6 x7 x8
    go_wp2
    go_ret3
    exact ⟨rfl, HA2.out.below⟩
  | true =>
  cases h2 : isN c b with
  | false =>
    rw [show twB c a b = false by unfold twB; rw [h1, h2]; rfl, show twX c a b = 0 by unfold twX twB; rw [h1, h2]; rfl, show twY c a b = 0 by unfold twY twB; rw [h1, h2]; rfl]
    rw [pl_yes h1] at K1
    rw [(pl_no h2).1, (pl_no h2).2.1, (pl_no h2).2.2] at K2
    clear C1 C2 h1 h2
    generalize plx c a = X at *
    generalize ply c a = Y at *
    obtain ⟨cw, ch, cl, cd, cr, ci, cb, we, ca⟩ := c
    simp only [cfv, cfc] at *
    go_enter Tryd.func45, Tryd.ntmps45
    go_wp2_with fail
    go_at_call 32
    refine (K1 _).mono ?_
    rintro e v1 ⟨rfl, hb⟩
    have A1 := A0.out.trans hb
    clear hb K1
    obtain ⟨x0, x1, x2, x3, x4, x5, x6, x7, x8⟩ := A1.cells
    have HA1 : Hid (At w _ v1) := A1
    clear A1
    simp only at x0 x1 x2 x3 x4 x5 x6 x7 x8
    go_wp2_with fail
    go_at_call 32
    refine (K2 _).mono ?_
    rintro e v2 ⟨rfl, hb⟩
    have HA2 : Hid (At w _ v2) := HA1.out.trans hb
    clear hb K2 x0 x1 x2 x3 x4 x5 x6 x7 x8
    go_wp2
    go_ret3
    exact ⟨rfl, HA2.out.below⟩
  | true =>
    have e0 : twB c a b = true := by unfold twB; rw [h1, h2]; rfl
    rw [e0, show twX c a b = tox (plx c b - plx c a) by unfold twX; rw [e0]; rfl, show twY c a b = toy (ply c b - ply c a) by unfold twY; rw [e0]; rfl]
    rw [pl_yes h1] at K1
    rw [pl_yes h2] at K2
    have D1 := cmp_tox (plx c a) (plx c b)
    have D2 := cmp_tox (ply c a) (ply c b)
    generalize cmp (plx c b) (plx c a) = M at *
    generalize cmp (ply c b) (ply c a) = M' at *
    have E1 : (M = -1 ∧ tox (plx c b - plx c a) = 2) ∨ (M = 0 ∧ tox (plx c b - plx c a) = 0) ∨ (M = 1 ∧ tox (plx c b - plx c a) = 1) := by omega
    have E2 : (M' = -1 ∧ toy (ply c b - ply c a) = 4) ∨ (M' = 0 ∧ toy (ply c b - ply c a) = 0) ∨ (M' = 1 ∧ toy (ply c b - ply c a) = 3) := by omega
    clear D1 D2
    generalize tox (plx c b - plx c a) = R at *
    generalize toy (ply c b - ply c a) = R' at *
    clear h1 h2 e0
    generalize plx c a = X at *
    generalize ply c a = Y at *
    generalize plx c b = X' at *
    generalize ply c b = Y' at *
    obtain ⟨cw, ch, cl, cd, cr, ci, cb, we, ca⟩ := c
    simp only [cfv, cfc] at *
    rcases E1 with ⟨rfl, rfl⟩ | ⟨rfl, rfl⟩ | ⟨rfl, rfl⟩ <;> rcases E2 with ⟨rfl, rfl⟩ | ⟨rfl, rfl⟩ | ⟨rfl, rfl⟩
    all_goals
      go_enter Tryd.func45, Tryd.ntmps45
      go_wp2_with fail
      go_at_call 32
      refine (K1 _).mono ?_
      rintro e v1 ⟨rfl, hb⟩
      have A1 := A0.out.trans hb
      clear hb K1
      obtain ⟨x0, x1, x2, x3, x4, x5, x6, x7, x8⟩ := A1.cells
      have HA1 : Hid (At w _ v1) := A1
      clear A1
      simp only at x0 x1 x2 x3 x4 x5 x6 x7 x8
      go_wp2_with fail
      go_at_call 32
      refine (K2 _).mono ?_
      rintro e v2 ⟨rfl, hb⟩
      have HA2 : Hid (At w _ v2) := HA1.out.trans hb
      clear hb K2 x0 x1 x2 x3 x4 x5 x6 x7 x8
      obtain ⟨hz, ⟨t0, t1, t2⟩, ⟨s0, s1, s2⟩, _⟩ := HA2.out.tabs HT.out
      go_wp2_with fail
      go_quiet (first | (go_at_call_of 47 X'; exact Calls.quiet_of_same ((C1 _).mono fun _ _ h => ⟨h.1, h.2.symm⟩)) | (go_at_call_of 47 Y'; exact Calls.quiet_of_same ((C2 _).mono fun _ _ h => ⟨h.1, h.2.symm⟩)))
      go_wp2
      go_ret3
      exact ⟨rfl, (HA2.out.drewN _).below⟩

theorem tw_opt {c : Cf} {a b : Int} (h : twB c a b = true) :
    opt c a b = if twX c a b = 0 then [twY c a b] else if twY c a b = 0 ∨ twX c a b = 2 ∨ c.we = false then [twX c a b] else [twX c a b, twY c a b] := by
  have h' := h
  unfold twB at h'
  simp only [Bool.and_eq_true] at h'
  obtain ⟨ha, hb⟩ := h'
  unfold twX twY
  rw [if_pos h, if_pos h]
  by_cases hne : a = b
  · subst hne
    rw [opt_self ha]
    unfold ox oy tox toy
    simp
  · have z := off_zero ha hb hne
    unfold opt
    rw [ha, hb]
    simp only [Bool.and_self, if_true, if_neg hne]
    generalize ox c a b = X at *
    generalize oy c a b = Y at *
    unfold tox toy optY
    rcases Int.lt_trichotomy X 0 with h1 | h1 | h1
    · simp [h1]
    · subst h1
      rcases Int.lt_trichotomy Y 0 with h2 | h2 | h2
      · have : ¬ 0 < Y := by omega
        simp [h2, this]
      · omega
      · have : ¬ Y < 0 := by omega
        simp [h2, this]
    · have h1' : ¬ X < 0 := by omega
      rcases Int.lt_trichotomy Y 0 with h2 | h2 | h2
      · have : ¬ 0 < Y := by omega
        cases c.we <;> simp [h1, h1', h2, this]
      · subst h2
        cases c.we <;> simp [h1, h1']
      · have : ¬ Y < 0 := by omega
        cases c.we <;> simp [h1, h1', h2, this]
theorem tw_no {c : Cf} {a b : Int} (h : twB c a b = false) : opt c a b = [] ∧ twX c a b = 0 ∧ twY c a b = 0 := by
  refine ⟨opt_no h, ?_, ?_⟩
  · unfold twX; rw [h]; rfl
  · unfold twY; rw [h]; rfl
end Go.Proofs.YtaohimmmhpmgdaaDoor
