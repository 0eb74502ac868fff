/-
  The table of ports that lead back, and the walk of Back.
-/
import Derived.Test.YtaohimmmhpmgdaaDoorBeside
namespace Go.Proofs.YtaohimmmhpmgdaaDoor
open Go.RowKit

/-- The table of ports that lead back. -/
def Backs (w : World) : Prop := 2 ≤ w.heap.size ∧
  w.cell? ⟨1, 0, none⟩ = some (.int .i64 0) ∧ w.cell? ⟨1, 1, none⟩ = some (.int .i64 2) ∧ w.cell? ⟨1, 2, none⟩ = some (.int .i64 1) ∧ w.cell? ⟨1, 3, none⟩ = some (.int .i64 4) ∧ w.cell? ⟨1, 4, none⟩ = some (.int .i64 3)
theorem Backs.below {w w' : World} {B : Nat} (h : Backs w) (hb : Below B w w') (hB : 2 ≤ B) : Backs w' := by
  have k : ∀ j, w'.cell? ⟨1, j, none⟩ = w.cell? ⟨1, j, none⟩ := fun j => hb.cell (p := ⟨1, j, none⟩) (by show 1 < B; omega)
  unfold Backs at h ⊢
  simp only [k]
  exact ⟨Nat.le_trans h.1 hb.size, h.2⟩
theorem Backs.next {w w' : World} (h : Backs w) (hb : Below w.heap.size w w') : Backs w' := h.below hb h.1
theorem At.backs {w v : World} {c : Cf} (h : At w c v) (hS : Backs w) : Backs v := hS.next h.below

theorem back_any (p : Int) (w : World) (hB : Backs w) : Calls Tryd.prog 24 #[.int .i64 p] w fun e w' => e = .returned (.int .i64 (bck p)) ∧ w = w' := by
  have I := isBelow_any p 5
  change ∀ w, Calls _ _ _ _ (fun e w' => e = .returned (.bool (isP p)) ∧ _) at I
  obtain ⟨z, s0, s1, s2, s3, s4⟩ := hB
  cases hp : isP p with
  | false =>
    have e : bck p = -1 := by
      have : ¬ (p = 0 ∨ p = 1 ∨ p = 2 ∨ p = 3 ∨ p = 4) := fun h => by rw [(isP_iff p).2 h] at hp; cases hp
      unfold bck
      rw [if_neg (by omega), if_neg (by omega), if_neg (by omega), if_neg (by omega), if_neg (by omega)]
    rw [e]
    rw [hp] at I
    clear e hp
    go_enter Tryd.func24, Tryd.ntmps24
    go_wp2_with fail
    go_at_call 36
    refine (I _).mono ?_
    rintro e v1 ⟨rfl, rfl⟩
    go_wp2
    go_ret
    exact ⟨rfl, rfl⟩
  | true =>
    rw [hp] at I
    rcases (isP_iff p).1 hp with rfl | rfl | rfl | rfl | rfl
    all_goals
      clear hp
      go_enter Tryd.func24, Tryd.ntmps24
      go_wp2_with fail
      go_at_call 36
      refine (I _).mono ?_
      rintro e v1 ⟨rfl, rfl⟩
      go_wp2
      go_ret
      exact ⟨rfl, rfl⟩
end Go.Proofs.YtaohimmmhpmgdaaDoor
