/-
  The tables of where a distance leads and of which turns are allowed; the walks of Compare, toward, isPort and Allowed.
-/
import Derived.Test.YtdphimggmjhlaaaDoorTPlain
import Derived.Test.YtdphimggmjhlaaaDoorBeside
import Derived.BigQuiet
namespace Go.Proofs.YtdphimggmjhlaaaDoor
open Go.RowKit

/-- The tables hold what the text lays. -/
def Tabs (w : World) : Prop := 4 ≤ w.heap.size ∧
  (w.cell? ⟨2, 0, none⟩ = some (.int .i64 2) ∧ w.cell? ⟨2, 1, none⟩ = some (.int .i64 0) ∧ w.cell? ⟨2, 2, none⟩ = some (.int .i64 1)) ∧
  (w.cell? ⟨3, 0, none⟩ = some (.int .i64 4) ∧ w.cell? ⟨3, 1, none⟩ = some (.int .i64 0) ∧ w.cell? ⟨3, 2, none⟩ = some (.int .i64 3)) ∧
  ∀ f t : Nat, f < 5 → t < 5 → w.cell? ⟨0, f * 5 + t, none⟩ = some (.bool (alw f t))
theorem Tabs.below {w w' : World} {B : Nat} (h : Tabs w) (hb : Below B w w') (hB : 4 ≤ B) : Tabs w' := by
  have k : ∀ g j, g < 4 → w'.cell? ⟨g, j, none⟩ = w.cell? ⟨g, j, none⟩ := fun g j hg => hb.cell (p := ⟨g, j, none⟩) (by show g < B; omega)
  unfold Tabs at h ⊢
  simp only [k 0 _ (by omega), k 2 _ (by omega), k 3 _ (by omega)]
  exact ⟨Nat.le_trans h.1 hb.size, h.2⟩
theorem Tabs.next {w w' : World} (h : Tabs w) (hb : Below w.heap.size w w') : Tabs w' := h.below hb h.1
theorem At.tabs {w v : World} {c : Cf} (h : At w c v) (hS : Tabs w) : Tabs v := hS.next h.below

/-- How two numbers compare. -/
def cmp (a b : Int) : Int := if a < b then -1 else if b < a then 1 else 0

theorem isNaN_any (a : Int) (w : World) : Calls Tryd.prog 40 #[.int .i64 a] w fun e w' => e = .returned (.bool false) ∧ w = w' := by
  go_enter Tryd.func40, Tryd.ntmps40
  go_wp2
  go_ret
  exact ⟨rfl, rfl⟩

theorem compare_any (a b : Int) (w : World) : Calls Tryd.prog 35 #[.int .i64 a, .int .i64 b] w fun e w' => e = .returned (.int .i64 (cmp a b)) ∧ w = w' := by
  have K1 := isNaN_any a
  have K2 := isNaN_any b
  unfold cmp
  by_cases h1 : a < b
  · rw [if_pos h1]
    go_enter Tryd.func35, Tryd.ntmps35
    go_wp2_with fail
    go_at_call 40
    refine (K1 _).mono ?_
    rintro e v1 ⟨rfl, rfl⟩
    go_wp2_with fail
    go_at_call 40
    refine (K2 _).mono ?_
    rintro e v1 ⟨rfl, rfl⟩
    go_wp2
    go_ret
    exact ⟨rfl, rfl⟩
  · rw [if_neg h1]
    by_cases h2 : b < a
    · rw [if_pos h2]
      go_enter Tryd.func35, Tryd.ntmps35
      go_wp2_with fail
      go_at_call 40
      refine (K1 _).mono ?_
      rintro e v1 ⟨rfl, rfl⟩
      go_wp2_with fail
      go_at_call 40
      refine (K2 _).mono ?_
      rintro e v1 ⟨rfl, rfl⟩
      go_wp2
      go_ret
      exact ⟨rfl, rfl⟩
    · rw [if_neg h2]
      go_enter Tryd.func35, Tryd.ntmps35
      go_wp2_with fail
      go_at_call 40
      refine (K1 _).mono ?_
      rintro e v1 ⟨rfl, rfl⟩
      go_wp2_with fail
      go_at_call 40
      refine (K2 _).mono ?_
      rintro e v1 ⟨rfl, rfl⟩
      go_wp2
      go_ret
      exact ⟨rfl, rfl⟩

theorem isPort_any (p : Int) (w : World) : Calls Tryd.prog 27 #[.int .i64 p] w fun e w' => e = .returned (.bool (isP p)) ∧ w = w' := by
  unfold isP
  by_cases h0 : 0 ≤ p
  · by_cases h1 : p < 5
    · rw [show (decide (0 ≤ p) && decide (p < 5)) = true by simp [h0, h1]]
      go_enter Tryd.func27, Tryd.ntmps27
      go_wp2
      go_ret
      exact ⟨rfl, rfl⟩
    · rw [show (decide (0 ≤ p) && decide (p < 5)) = false by simp [h1]]
      go_enter Tryd.func27, Tryd.ntmps27
      go_wp2
      go_ret
      exact ⟨rfl, rfl⟩
  · rw [show (decide (0 ≤ p) && decide (p < 5)) = false by simp [h0]]
    go_enter Tryd.func27, Tryd.ntmps27
    go_wp2
    go_ret
    exact ⟨rfl, rfl⟩

theorem allowed_any (f t : Int) (w : World) (hT : Tabs w) : Calls Tryd.prog 15 #[.int .i64 f, .int .i64 t] w fun e w' => e = .returned (.bool (alw f t)) ∧ w = w' := by
  have K1 := isPort_any f
  have K2 := isPort_any t
  cases hf : isP f with
  | false =>
    rw [show alw f t = false by unfold alw; rw [hf]; rfl]
    rw [hf] at K1
    clear hT hf
    go_enter Tryd.func15, Tryd.ntmps15
    go_wp2_with fail
    go_at_call 27
    refine (K1 _).mono ?_
    rintro e v1 ⟨rfl, rfl⟩
    go_wp2
    go_ret
    exact ⟨rfl, rfl⟩
  | true =>
  cases ht : isP t with
  | false =>
    rw [show alw f t = false by unfold alw; rw [hf, ht]; rfl]
    rw [hf] at K1
    rw [ht] at K2
    clear hT hf ht
    go_enter Tryd.func15, Tryd.ntmps15
    go_wp2_with fail
    go_at_call 27
    refine (K1 _).mono ?_
    rintro e v1 ⟨rfl, rfl⟩
    go_wp2_with fail
    go_at_call 27
    refine (K2 _).mono ?_
    rintro e v1 ⟨rfl, rfl⟩
    go_wp2
    go_ret
    exact ⟨rfl, rfl⟩
  | true =>
    obtain ⟨hz, _, _, hc⟩ := hT
    rw [hf] at K1
    rw [ht] at K2
    unfold isP at hf ht
    simp only [Bool.and_eq_true, decide_eq_true_eq] at hf ht
    obtain ⟨n, rfl⟩ := Int.eq_ofNat_of_zero_le hf.1
    obtain ⟨m, rfl⟩ := Int.eq_ofNat_of_zero_le ht.1
    have c := hc n m (by omega) (by omega)
    have hf1 : (n : Int) < 5 := hf.2
    have ht1 : (m : Int) < 5 := ht.2
    have hf0 := hf.1
    have ht0 := ht.1
    clear hc hf ht
    generalize alw n m = R at *
    go_enter Tryd.func15, Tryd.ntmps15
    go_wp2_with fail
    go_at_call 27
    refine (K1 _).mono ?_
    rintro e v1 ⟨rfl, rfl⟩
    go_wp2_with fail
    go_at_call 27
    refine (K2 _).mono ?_
    rintro e v1 ⟨rfl, rfl⟩
    clear K1 K2
    go_wp2
    go_ret
    exact ⟨rfl, rfl⟩
end Go.Proofs.YtdphimggmjhlaaaDoor
