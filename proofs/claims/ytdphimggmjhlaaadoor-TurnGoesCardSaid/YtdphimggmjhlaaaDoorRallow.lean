/-
  The walks of the document's Back and Allowed.
-/
import Derived.Test.YtdphimggmjhlaaaDoorTPlain
import Derived.Test.YtdphimggmjhlaaaDoorRplace
namespace Go.Proofs.YtdphimggmjhlaaaDoor
open Go.RowKit

theorem rback_any (p : Int) (w : World) : Calls Tryd.prog 28 #[.int .i64 p] w fun e w' => e = .returned (.int .i64 (bck p)) ∧ Below w.heap.size w w' := by
  have A : ∀ o, Hid (Below w.heap.size w (w.alloc o)) := fun o => (Below.refl _ _).alloc (Nat.le_refl _) _
  have Z : Hid (Below w.heap.size w w) := Below.refl _ _
  cases hp : isP p with
  | false =>
    have e : bck p = -1 := by
      have : ¬ (p = 0 ∨ p = 1 ∨ p = 2 ∨ p = 3 ∨ p = 4) := fun h => by rw [(isP_iff p).2 h] at hp; cases hp
      unfold bck
      rw [if_neg (by omega), if_neg (by omega), if_neg (by omega), if_neg (by omega), if_neg (by omega)]
    rw [e]
    have h : p < 0 ∨ ¬ p < 0 ∧ 4 < p := by
      have : ¬ (p = 0 ∨ p = 1 ∨ p = 2 ∨ p = 3 ∨ p = 4) := fun h => by rw [(isP_iff p).2 h] at hp; cases hp
      omega
    clear e hp
    rcases h with h | ⟨h, h'⟩
    all_goals
      go_enter Tryd.func28, Tryd.ntmps28
      go_wp2
      go_ret
      exact ⟨rfl, Z.out⟩
  | true =>
    rcases (isP_iff p).1 hp with rfl | rfl | rfl | rfl | rfl
    all_goals
      clear hp
      go_enter Tryd.func28, Tryd.ntmps28
      go_wp2
      go_ret
      exact ⟨rfl, (A _).out⟩

theorem isP_no {p : Int} (h : isP p = false) : p < 0 ∨ (¬ p < 0 ∧ 4 < p) := by
  have : ¬ (p = 0 ∨ p = 1 ∨ p = 2 ∨ p = 3 ∨ p = 4) := fun h' => by rw [(isP_iff p).2 h'] at h; cases h
  omega
theorem isP_yes {p : Int} (h : isP p = true) : ¬ p < 0 ∧ ¬ 4 < p := by
  have := (isP_iff p).1 h
  omega

theorem rallowed_any (f t : Int) (w : World) : Calls Tryd.prog 16 #[.int .i64 f, .int .i64 t] w fun e w' => e = .returned (.bool (alw f t)) ∧ Below w.heap.size w w' := by
  have K := rback_any t
  have Z : Hid (Below w.heap.size w w) := Below.refl _ _
  cases hf : isP f with
  | false =>
    rw [show alw f t = false by unfold alw; rw [hf]; rfl]
    clear K
    rcases isP_no hf with h | ⟨h, h'⟩
    all_goals
      clear hf
      go_enter Tryd.func16, Tryd.ntmps16
      go_wp2
      go_ret
      exact ⟨rfl, Z.out⟩
  | true =>
  obtain ⟨f1, f2⟩ := isP_yes hf
  cases ht : isP t with
  | false =>
    rw [show alw f t = false by unfold alw; rw [hf, ht]; rfl]
    clear K
    rcases isP_no ht with h | ⟨h, h'⟩
    all_goals
      clear hf ht
      go_enter Tryd.func16, Tryd.ntmps16
      go_wp2
      go_ret
      exact ⟨rfl, Z.out⟩
  | true =>
    obtain ⟨t1, t2⟩ := isP_yes ht
    have e0 : alw f t = if f = 0 ∨ t = 0 then true else if t = 2 then decide (f = 2) else decide (f ≠ bck t) := by
      unfold alw
      rw [hf, ht]
      rfl
    rw [e0]
    clear e0 hf ht
    by_cases hf0 : f = 0
    · rw [if_pos (Or.inl hf0)]
      subst hf0
      clear K
      go_enter Tryd.func16, Tryd.ntmps16
      go_wp2
      go_ret
      exact ⟨rfl, Z.out⟩
    · by_cases ht0 : t = 0
      · rw [if_pos (Or.inr ht0)]
        subst ht0
        clear K
        go_enter Tryd.func16, Tryd.ntmps16
        go_wp2
        go_ret
        exact ⟨rfl, Z.out⟩
      · rw [if_neg (by omega)]
        have g0 : (f == 0) = false := by simp [hf0]
        have g1 : (t == 0) = false := by simp [ht0]
        by_cases h2 : t = 2
        · rw [if_pos h2]
          subst h2
          clear K
          by_cases g2 : f = 2
          · subst g2
            go_enter Tryd.func16, Tryd.ntmps16
            go_wp2
            go_ret
            exact ⟨rfl, Z.out⟩
          · rw [show decide (f = 2) = false by simp [g2]]
            have g3 : (f == 2) = false := by simp [g2]
            go_enter Tryd.func16, Tryd.ntmps16
            go_wp2
            go_ret
            exact ⟨rfl, Z.out⟩
        · rw [if_neg h2]
          have g2 : (t == 2) = false := by simp [h2]
          generalize bck t = B at *
          by_cases hB : f = B
          · subst hB
            rw [show decide (f ≠ f) = false by simp]
            go_enter Tryd.func16, Tryd.ntmps16
            go_wp2_with fail
            go_at_call 28
            refine (K _).mono ?_
            rintro e v1 ⟨rfl, hb⟩
            have HB : Hid (Below w.heap.size w v1) := hb
            clear hb K
            go_wp2
            go_ret
            exact ⟨rfl, HB.out⟩
          · rw [show decide (f ≠ B) = true by simp [hB]]
            have g3 : (f == B) = false := by simp [hB]
            go_enter Tryd.func16, Tryd.ntmps16
            go_wp2_with fail
            go_at_call 28
            refine (K _).mono ?_
            rintro e v1 ⟨rfl, hb⟩
            have HB : Hid (Below w.heap.size w v1) := hb
            clear hb K
            have g4 : (f != B) = true := by simp [hB]
            go_wp2
            go_ret
            exact ⟨by simp, HB.out⟩
end Go.Proofs.YtdphimggmjhlaaaDoor
