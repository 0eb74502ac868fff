/-
  The walk of lives: the document's example.
-/
import Derived.Test.YtaeoglfpcbehdaaFew
namespace Go.Proofs.Ytaeoglfpcbehdaa
open Go.RowKit

/-- A new block of truths reads as these. -/
theorem Rd.newb (w : World) (L : List Bool) : Rd (w.alloc (.cells (vb L).toArray 4)) (some ⟨w.heap.size, 0, none⟩) (vb L) := fun j v hj =>
  ⟨w.heap.size, 0, rfl, by simp, by rw [Nat.zero_add, cell_of (heap_alloc_new w _)]; simpa using hj⟩
theorem Gb.up {b : Nat} {w v : World} (h : Gb b w v) {B : Nat} {u : World} (hu : Below B u w) (hB : B ≤ b) (hs : B ≤ w.heap.size) : Below B u v := below_gb hu h hB hs

set_option maxRecDepth 100000 in
set_option maxHeartbeats 4000000 in
theorem lives_any (w : World) : Calls Try.prog 9 #[] w fun e w' => e = .returned (.bool true) ∧ Below w.heap.size w w' := by
  have NC := new_any 3 w
  have OC : Hid (∀ (L : List Bool) (b l : Nat) (w : World) (k : Int) (l2 : Nat), l ≤ 3 → ((ask 3 l (wl L)).1 : Int) = k → (ask 3 l (wl L)).2 = true → nxtl 3 l (wl L) = l2 → Fb w b 3 l → Calls Try.prog 18 #[.pointer (some ⟨b, 0, none⟩), .slice (some ⟨w.heap.size, 0, none⟩) L.length L.length] (w.alloc (.cells (vb L).toArray 4)) fun e w' => e = .returned (.tuple #[.int .i64 k, .bool true]) ∧ Fb w' b 3 l2 ∧ Gb b w w') := show _ from fun L b l w k l2 hl e1 e2 e3 hb => by
    subst e1 e3
    refine (of_any (by decide) (by decide) hl (hb.alloc _) (Rd.newb w L)).mono ?_
    rintro e w' ⟨rfl, h2, h3⟩
    exact ⟨by rw [e2], h2, ((Gb.refl b w).alloc _).trans h3⟩
  have K0 : Hid (Fb (w.alloc (.cells (oc 3 0) 48)) w.heap.size 3 0) := Fb.new _ rfl
  have B0 : Hid (Below w.heap.size w (w.alloc (.cells (oc 3 0) 48))) := (Below.refl _ _).alloc (Nat.le_refl _) _
  go_enter Try.func9, Try.ntmps9
  go_wp2_with fail
  go_at_call 10
  with_reducible refine NC.mono ?_
  rintro e w0 ⟨rfl, rfl⟩
  clear NC
  obtain ⟨b, hb⟩ : ∃ b, w.heap.size = b := ⟨_, rfl⟩
  have HBW : Hid (w.heap.size = b) := hb
  rw [hb] at K0 B0 ⊢
  clear hb
  generalize w.alloc (.cells (oc 3 0) 48) = v0 at *
  have O1 := OC.out [true, true, true] b 0 v0 0 1 (by decide) (by decide) (by decide) (by decide) K0.out
  go_wp2_with fail
  go_at_call 18
  refine O1.mono ?_
  rintro e v1 ⟨rfl, k1, g1⟩
  have K1 : Hid (Fb v1 b 3 1) := k1
  have B1 : Hid (Below b w v1) := g1.up B0.out (Nat.le_refl _) (Nat.le_of_lt K0.out.lt)
  clear O1 k1 g1 K0 B0
  have O2 := OC.out [true, true, true] b 1 v1 1 2 (by decide) (by decide) (by decide) (by decide) K1.out
  go_wp2_with fail
  go_at_call 18
  refine O2.mono ?_
  rintro e v2 ⟨rfl, k1, g1⟩
  have K2 : Hid (Fb v2 b 3 2) := k1
  have B2 : Hid (Below b w v2) := g1.up B1.out (Nat.le_refl _) (Nat.le_of_lt K1.out.lt)
  clear O2 k1 g1 K1 B1
  have O3 := OC.out [true] b 2 v2 0 1 (by decide) (by decide) (by decide) (by decide) K2.out
  go_wp2_with fail
  go_at_call 18
  refine O3.mono ?_
  rintro e v3 ⟨rfl, k1, g1⟩
  have K3 : Hid (Fb v3 b 3 1) := k1
  have B3 : Hid (Below b w v3) := g1.up B2.out (Nat.le_refl _) (Nat.le_of_lt K2.out.lt)
  clear O3 k1 g1 K2 B2
  have PC := places_any K3.out
  have LC := last_any K3.out
  go_wp2_with (first
    | (go_at_call 17; (with_reducible refine PC.mono ?_); rintro e w' ⟨rfl, rfl⟩)
    | (go_at_call 16; (with_reducible refine LC.mono ?_); rintro e w' ⟨rfl, rfl⟩))
  go_ret
  exact ⟨rfl, by rw [HBW.out]; exact B3.out⟩
end Go.Proofs.Ytaeoglfpcbehdaa
