/-
  The tables of where a distance leads; the walk of Compare.
-/
import Derived.Test.YtaohimmmhpmgdaaDoorTPlain
import Derived.Test.YtaohimmmhpmgdaaDoorBeside
import Derived.BigQuiet
namespace Go.Proofs.YtaohimmmhpmgdaaDoor
open Go.RowKit

/-- The tables hold what the text lays. -/
def Tabs (w : World) : Prop := 4 ≤ w.heap.size ∧
  (w.cell? ⟨2, 0, none⟩ = some (.int .i64 2) ∧ w.cell? ⟨2, 1, none⟩ = some (.int .i64 0) ∧ w.cell? ⟨2, 2, none⟩ = some (.int .i64 1)) ∧
  (w.cell? ⟨3, 0, none⟩ = some (.int .i64 4) ∧ w.cell? ⟨3, 1, none⟩ = some (.int .i64 0) ∧ w.cell? ⟨3, 2, none⟩ = some (.int .i64 3)) ∧ True
theorem Tabs.below {w w' : World} {B : Nat} (h : Tabs w) (hb : Below B w w') (hB : 4 ≤ B) : Tabs w' := by
  have k : ∀ g j, g < 4 → w'.cell? ⟨g, j, none⟩ = w.cell? ⟨g, j, none⟩ := fun g j hg => hb.cell (p := ⟨g, j, none⟩) (by show g < B; omega)
  unfold Tabs at h ⊢
  simp only [k 2 _ (by omega), k 3 _ (by omega)]
  exact ⟨Nat.le_trans h.1 hb.size, h.2⟩
theorem Tabs.next {w w' : World} (h : Tabs w) (hb : Below w.heap.size w w') : Tabs w' := h.below hb h.1
theorem At.tabs {w v : World} {c : Cf} (h : At w c v) (hS : Tabs w) : Tabs v := hS.next h.below

/-- How two numbers compare. -/
def cmp (a b : Int) : Int := if a < b then -1 else if b < a then 1 else 0

theorem isNaN_any (a : Int) (w : World) : Calls Tryd.prog 43 #[.int .i64 a] w fun e w' => e = .returned (.bool false) ∧ w = w' := by
  go_enter Tryd.func43, Tryd.ntmps43
  go_wp2
  go_ret
  exact ⟨rfl, rfl⟩

theorem compare_any (a b : Int) (w : World) : Calls Tryd.prog 47 #[.int .i64 a, .int .i64 b] w fun e w' => e = .returned (.int .i64 (cmp a b)) ∧ w = w' := by
  have K1 := isNaN_any a
  have K2 := isNaN_any b
  unfold cmp
  by_cases h1 : a < b
  · rw [if_pos h1]
    go_enter Tryd.func47, Tryd.ntmps47
    go_wp2_with fail
    go_at_call 43
    refine (K1 _).mono ?_
    rintro e v1 ⟨rfl, rfl⟩
    go_wp2_with fail
    go_at_call 43
    refine (K2 _).mono ?_
    rintro e v1 ⟨rfl, rfl⟩
    go_wp2
    go_ret
    exact ⟨rfl, rfl⟩
  · rw [if_neg h1]
    by_cases h2 : b < a
    · rw [if_pos h2]
      go_enter Tryd.func47, Tryd.ntmps47
      go_wp2_with fail
      go_at_call 43
      refine (K1 _).mono ?_
      rintro e v1 ⟨rfl, rfl⟩
      go_wp2_with fail
      go_at_call 43
      refine (K2 _).mono ?_
      rintro e v1 ⟨rfl, rfl⟩
      go_wp2
      go_ret
      exact ⟨rfl, rfl⟩
    · rw [if_neg h2]
      go_enter Tryd.func47, Tryd.ntmps47
      go_wp2_with fail
      go_at_call 43
      refine (K1 _).mono ?_
      rintro e v1 ⟨rfl, rfl⟩
      go_wp2_with fail
      go_at_call 43
      refine (K2 _).mono ?_
      rintro e v1 ⟨rfl, rfl⟩
      go_wp2
      go_ret
      exact ⟨rfl, rfl⟩
end Go.Proofs.YtaohimmmhpmgdaaDoor
