/-
  A ring that has just been made.
-/
import Derived.Test.YtpmkpjnhdehnhaaRpStep
namespace Go.Proofs.Ytpmkpjnhdehnhaa.RP
open Go.RowKit

def ring0 (room : Int) (i : Nat) : RingSt := ⟨room, i, i, false, zc, []⟩
theorem ring_new (room : Int) (i : Nat) (hi : i < 4294967296) (w : World) : Calls Try.prog 29 #[.int .i64 room, .int .u32 (i : Int)] w fun e w' => e = .returned (.pointer (some ⟨w.heap.size, 0, none⟩)) ∧ RingAt w' w.heap.size w.heap.size 0 (ring0 room i) ∧ Below w.heap.size w w' ∧ w.heap.size < w'.heap.size := by
  have ok : RingOk (ring0 room i) := by
    refine ⟨hi, hi, ?_, ?_⟩
    · show (i + 0) % 4294967296 = i
      omega
    · simp only [ring0, one, List.length_nil]
      simp
      omega
  have R : ∀ t, RingAt (w.alloc (.cells #[.int .i64 room, .slice none 0 0, .int .u32 (i : Int), .int .u32 (i : Int), .bool false] t)) w.heap.size w.heap.size 0 (ring0 room i) := fun t =>
    ⟨ok, ⟨t, heap_alloc_new w _⟩, Or.inl ⟨rfl, rfl, rfl, rfl⟩⟩
  have B : ∀ t, Below w.heap.size w (w.alloc (.cells #[.int .i64 room, .slice none 0 0, .int .u32 (i : Int), .int .u32 (i : Int), .bool false] t)) := fun t => (Below.refl _ _).alloc (Nat.le_refl _) _
  have HR : Hid _ := R
  clear ok R
  go_enter Try.func29, Try.ntmps29
  go_wp2
  go_ret
  exact ⟨rfl, HR _, B _, by simp⟩
end Go.Proofs.Ytpmkpjnhdehnhaa.RP
