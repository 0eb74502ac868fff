/-
  lives: the document's example.
-/
import Derived.Test.YtknmloompmnmnaaUnpack
namespace Go.Proofs.Ytknmloompmnmnaa
open Go.RowKit

theorem live_pack : packR [2, 12] [1, 5] = (21, 0) := by decide
theorem live_unpack : unpackR 21 [2, 12] = ([1, 5], 0) := by decide

theorem rd_new (w : World) (vs : List Value) (t : TypeId) : Rd (w.alloc (.cells ⟨vs⟩ t)) (some ⟨w.heap.size, 0, none⟩) vs := fun j v hj => by
  refine ⟨w.heap.size, 0, rfl, by simp, ?_⟩
  rw [World.cell?_alloc_at _ _ _ _ rfl, Nat.zero_add]
  simpa using hj

set_option maxHeartbeats 800000 in
theorem lives_any (w : World) : Calls Try.prog 9 #[] w fun e w' => e = .returned (.bool true) ∧ Below w.heap.size w w' := by
  obtain ⟨B, hB⟩ : ∃ B, B = w.heap.size := ⟨_, rfl⟩
  have S := fun w => seal_any 77 (by decide) w
  have T := fun w => right_any (sealN 77) (seal_lt 77) w
  rw [show ((77 : Nat) : Int) = 77 from rfl] at S
  rw [seal_seal, decide_eq_true rfl] at T
  have hq := seal_lt 77
  have b0 : Below w.heap.size w ((w.alloc (.cells #[.int .i64 2, .int .i64 12] 3)).alloc (.cells #[.int .u32 1, .int .u32 5] 24)) := ((Below.refl _ _).alloc (Nat.le_refl _) _).alloc (by simp) _
  have P := pack_any ((w.alloc (.cells #[.int .i64 2, .int .i64 12] 3)).alloc (.cells #[.int .u32 1, .int .u32 5] 24)) (some ⟨w.heap.size, 0, none⟩) (some ⟨w.heap.size + 1, 0, none⟩) 2 2 2 2 [2, 12] [1, 5] rfl rfl (by omega) (by omega)
    ((rd_new w (vi [2, 12]) 3).alloc _) (by have := rd_new (w.alloc (.cells #[.int .i64 2, .int .i64 12] 3)) (vu [1, 5]) 24; rw [show (w.alloc (.cells #[.int .i64 2, .int .i64 12] 3)).heap.size = w.heap.size + 1 by simp] at this; exact this) (by unfold small; decide)
  rw [live_pack] at P
  rw [← hB] at b0 P ⊢
  have HB : Hid (B = w.heap.size) := hB
  have B0 : Hid (Below B w ((w.alloc (.cells #[.int .i64 2, .int .i64 12] 3)).alloc (.cells #[.int .u32 1, .int .u32 5] 24))) := b0
  clear b0
  go_enter Try.func9, Try.ntmps9
  generalize sealN 77 = Q at *
  go_wp2_with fail
  go_at_call 14
  rw [← hB]
  clear hB
  refine P.mono ?_
  rintro e w1 ⟨rfl, hD⟩
  have b1 : Below B w w1 := B0.out.trans (hD.below B)
  have U := unpack_any 21 (by decide) (w1.alloc (.cells #[.int .i64 2, .int .i64 12] 3)) (some ⟨w1.heap.size, 0, none⟩) 2 2 [2, 12] rfl (by omega) (rd_new w1 (vi [2, 12]) 3)
  rw [live_unpack, show ((21 : Nat) : Int) = 21 from rfl] at U
  have B1 : Hid (Below B w (w1.alloc (.cells #[.int .i64 2, .int .i64 12] 3))) := b1.alloc (by have := b1.size; have := HB.out; omega) _
  clear b1 hD P
  go_wp2_with fail
  go_at_call 16
  refine U.mono ?_
  rintro e w2 ⟨v, rfl, hU, hb⟩
  obtain ⟨a, cap, rfl, _, _, hR⟩ := hU.rd
  obtain ⟨g, off, rfl, hc0⟩ := hR.cell (k := 0) (v := .int .u32 1) rfl
  obtain ⟨g2, off2, he, hc1⟩ := hR.cell (k := 1) (v := .int .u32 5) rfl
  simp only [Option.some.injEq, Addr.mk.injEq] at he
  obtain ⟨rfl, rfl, _⟩ := he
  have B2 : Hid (Below B w w2) := B1.out.trans (hb.mono (by have := B1.out.size; have := HB.out; omega))
  rw [Nat.add_zero] at hc0
  clear U hU hR hb
  go_wp2_with (first
    | (go_at_call 19; (with_reducible refine (S _).mono ?_); rintro e w' ⟨rfl, rfl⟩)
    | (go_at_call 23; (with_reducible refine (T _).mono ?_); rintro e w' ⟨rfl, rfl⟩))
  go_ret
  exact ⟨rfl, B2.out⟩
end Go.Proofs.Ytknmloompmnmnaa
