/-
  The walks of both Nodes; what a config that may be is.
-/
import Derived.Test.YtaohimmmhpmgdaaDoorRcheck
namespace Go.Proofs.YtaohimmmhpmgdaaDoor
open Go.RowKit

theorem outB_false {lo hi x : Int} (h : outB lo hi x = false) : lo ≤ x ∧ x ≤ hi := by
  unfold outB at h
  simp only [Bool.or_eq_false_iff, decide_eq_false_iff_not] at h
  omega

structure Fits (c : Cf) : Prop where
  w1 : 1 ≤ c.w
  w2 : c.w ≤ 64
  h1 : 1 ≤ c.h
  h2 : c.h ≤ 64
  l1 : 1 ≤ c.l
  l2 : c.l ≤ 8
  lc : c.ca = true → 2 ≤ c.l
  d1 : 1 ≤ c.d
  d2 : c.d ≤ 64
  r1 : 1 ≤ c.r
  r2 : c.r ≤ 64
  i1 : 1 ≤ c.i
  i2 : c.i ≤ 64
  b1 : 1 ≤ c.b
  b2 : c.b ≤ 16

theorem fits_of {c : Cf} (h : chk c = 0) : Fits c := by
  unfold chk at h
  cases e1 : t1 c with
  | true => simp [e1] at h
  | false =>
    cases e2 : t2 c with
    | true => simp [e1, e2] at h
    | false =>
      cases e3 : t3 c with
      | true => simp [e1, e2, e3] at h
      | false =>
        cases e4 : t4 c with
        | true => simp [e1, e2, e3, e4] at h
        | false =>
          unfold t1 at e1
          unfold t2 at e2
          unfold t3 at e3
          unfold t4 at e4
          simp only [Bool.or_eq_false_iff] at e1 e3
          have a := outB_false e1.1
          have b := outB_false e1.2
          have d := outB_false e2
          have x := outB_false e3.1.1
          have y := outB_false e3.1.2
          have z := outB_false e3.2
          have u := outB_false e4
          have d' : 1 ≤ c.l := by
            cases hc : c.ca <;> simp [hc] at d <;> omega
          exact ⟨a.1, a.2, b.1, b.2, d', d.2, (fun hc => by simp [hc] at d; omega), x.1, x.2, y.1, y.2, z.1, z.2, u.1, u.2⟩

/-- What a check tells is one of three numbers. -/
theorem chk_cases (c : Cf) : chk c = 0 ∨ chk c = 4 ∨ chk c = 10 := by
  unfold chk
  cases t1 c <;> cases t2 c <;> cases t3 c <;> cases t4 c <;> simp

def nod (c : Cf) : Int := if chk c = 0 then c.w * c.h else 0

theorem mul_in {a b : Int} (h1 : 1 ≤ a) (h2 : a ≤ 64) (h3 : 1 ≤ b) (h4 : b ≤ 64) : 1 ≤ a * b ∧ a * b ≤ 4096 := by
  obtain ⟨x, rfl⟩ := Int.eq_ofNat_of_zero_le (by omega : 0 ≤ a)
  obtain ⟨y, rfl⟩ := Int.eq_ofNat_of_zero_le (by omega : 0 ≤ b)
  have g1 : x * y ≤ 64 * 64 := Nat.mul_le_mul (by omega) (by omega)
  have g2 : 1 * 1 ≤ x * y := Nat.mul_le_mul (by omega) (by omega)
  have e : ((x : Int) * (y : Int)) = ((x * y : Nat) : Int) := by simp
  rw [e]
  omega

theorem nodes_any (c : Cf) (w : World) : Calls Tryd.prog 40 #[cfv c] w fun e w' => e = .returned (.int .i64 (nod c)) ∧ Below w.heap.size w w' := by
  have K := check_any c
  have F := fun h => @fits_of c h
  have A0 : Hid (At w c (w.alloc (.cells (cfc c) 29))) := At.start w c
  unfold nod
  rcases chk_cases c with h | h | h
  · have f := F h
    have hm := mul_in f.w1 f.w2 f.h1 f.h2
    rw [if_pos h]
    rw [h] at K
    clear F h f
    obtain ⟨cw, ch, cl, cd, cr, ci, cb, we, ca⟩ := c
    simp only [cfv, cfc] at *
    obtain ⟨M, hM⟩ : ∃ M : Int, M = cw * ch := ⟨_, rfl⟩
    have HM : Hid (M = cw * ch) := hM
    rw [← hM] at hm ⊢
    obtain ⟨m1, m2⟩ := hm
    clear hM
    go_enter Tryd.func40, Tryd.ntmps40
    go_wp2_with fail
    go_at_call 42
    refine (K _).mono ?_
    rintro e v1 ⟨rfl, hb⟩
    have A1 := A0.out.trans hb
    clear hb K
    obtain ⟨x0, x1, -, -, -, -, -, -, -⟩ := A1.cells
    have HA1 : Hid (At w _ v1) := A1
    clear A1
    go_wp2
    go_ret
    exact ⟨ret_int (by rw [← HM.out]; exact IntWalk.wrap64_in _ (by omega)), HA1.out.below⟩
  all_goals
    have h0 : ¬ chk c = 0 := by rw [h]; decide
    rw [if_neg h0]
    rw [h] at K
    clear F h h0
    obtain ⟨cw, ch, cl, cd, cr, ci, cb, we, ca⟩ := c
    simp only [cfv, cfc] at *
    go_enter Tryd.func40, Tryd.ntmps40
    go_wp2_with fail
    go_at_call 42
    refine (K _).mono ?_
    rintro e v1 ⟨rfl, hb⟩
    have HA1 : Hid (At w _ v1) := A0.out.trans hb
    clear hb K
    go_wp2
    go_ret
    exact ⟨rfl, HA1.out.below⟩
theorem rnodes_any (c : Cf) (w : World) : Calls Tryd.prog 28 #[cfv c] w fun e w' => e = .returned (.int .i64 (nod c)) ∧ Below w.heap.size w w' := by
  have K := rcheck_any c
  have F := fun h => @fits_of c h
  have A0 : Hid (At w c (w.alloc (.cells (cfc c) 29))) := At.start w c
  unfold nod
  rcases chk_cases c with h | h | h
  · have f := F h
    have hm := mul_in f.w1 f.w2 f.h1 f.h2
    rw [if_pos h]
    rw [h] at K
    clear F h f
    obtain ⟨cw, ch, cl, cd, cr, ci, cb, we, ca⟩ := c
    simp only [cfv, cfc] at *
    obtain ⟨M, hM⟩ : ∃ M : Int, M = cw * ch := ⟨_, rfl⟩
    have HM : Hid (M = cw * ch) := hM
    rw [← hM] at hm ⊢
    obtain ⟨m1, m2⟩ := hm
    clear hM
    go_enter Tryd.func28, Tryd.ntmps28
    go_wp2_with fail
    go_at_call 39
    refine (K _).mono ?_
    rintro e v1 ⟨rfl, hb⟩
    have A1 := A0.out.trans hb
    clear hb K
    obtain ⟨x0, x1, -, -, -, -, -, -, -⟩ := A1.cells
    have HA1 : Hid (At w _ v1) := A1
    clear A1
    go_wp2
    go_ret
    exact ⟨ret_int (by rw [← HM.out]; exact IntWalk.wrap64_in _ (by omega)), HA1.out.below⟩
  all_goals
    have h0 : ¬ chk c = 0 := by rw [h]; decide
    rw [if_neg h0]
    rw [h] at K
    clear F h h0
    obtain ⟨cw, ch, cl, cd, cr, ci, cb, we, ca⟩ := c
    simp only [cfv, cfc] at *
    go_enter Tryd.func28, Tryd.ntmps28
    go_wp2_with fail
    go_at_call 39
    refine (K _).mono ?_
    rintro e v1 ⟨rfl, hb⟩
    have HA1 : Hid (At w _ v1) := A0.out.trans hb
    clear hb K
    go_wp2
    go_ret
    exact ⟨rfl, HA1.out.below⟩
end Go.Proofs.YtaohimmmhpmgdaaDoor
