/-
  The walk of FlitReads.
-/
import Derived.Test.YtfgjfopgbdmglaaWrites
namespace Go.Proofs.Ytfgjfopgbdmglaa
open Go.RowKit

theorem kind_int (W : Nat) (hW : W < 18446744073709551616) (w : World) : Calls Try.prog 18 #[.int .u64 W] w fun e w' => e = .returned (.int .i64 ((W : Int) % 4)) ∧ ∃ n, w' = w.drewN n := by
  have h := kind_any W hW w
  rw [show ((W % 4 : Nat) : Int) = (W : Int) % 4 by omega] at h
  exact h

/-- The cells of a flit that has been laid. -/
theorem eight_cells {w2 : World} {b : Nat} {f : Fl} (h : w2.heap[b]? = some (.cells (flc f) 23 (0, 0))) :
    w2.cell? ⟨b, 0, none⟩ = some (.int .i64 f.k) ∧ w2.cell? ⟨b, 1, none⟩ = some (.int .i64 f.s) ∧ w2.cell? ⟨b, 2, none⟩ = some (.int .i64 f.d) ∧ w2.cell? ⟨b, 3, none⟩ = some (.int .i64 f.q) ∧
    w2.cell? ⟨b, 4, none⟩ = some (.int .i64 f.l) ∧ w2.cell? ⟨b, 5, none⟩ = some (.bool f.m) ∧ w2.cell? ⟨b, 6, none⟩ = some (.bool f.c) ∧ w2.cell? ⟨b, 7, none⟩ = some (.string f.x) :=
  ⟨(eight_at h 0).1, (eight_at h 1).1, (eight_at h 2).1, (eight_at h 3).1, (eight_at h 4).1, (eight_at h 5).1, (eight_at h 6).1, (eight_at h 7).1⟩

theorem new_flit (w : World) (f : Fl) : (w.alloc (.cells (flc f) 23)).heap[w.heap.size]? = some (.cells (flc f) 23 (0, 0)) := heap_alloc_new w _

set_option maxRecDepth 100000 in
set_option maxHeartbeats 1600000 in
theorem flitReads_any (W : Nat) (hW : W < 18446744073709551616) (w : World) :
    Calls Try.prog 4 #[.int .u64 W] w fun e w' => e = .returned (.bool true) ∧ Below w.heap.size w w' := by
  have V := lives_any w
  have S := fun w => seal_any W hW w
  have hs := seal_lt W
  generalize sealN W = s at *
  go_enter Try.func4, Try.ntmps4
  go_wp2_with (first
    | (go_at_call 8; (with_reducible refine V.mono ?_); rintro e w1 ⟨rfl, hb1⟩)
    | (go_at_call 15; (with_reducible refine (S _).mono ?_); rintro e w' ⟨rfl, rfl⟩))
  have b0 : Below (w1.heap.size + 1) (w1.alloc (.cells #[.int .u64 W, .int .u64 s] 26)) (w1.alloc (.cells #[.int .u64 W, .int .u64 s] 26)) := Below.refl _ _
  have B0 : Hid (Below (w1.heap.size + 1) (w1.alloc (.cells #[.int .u64 W, .int .u64 s] 26)) (w1.alloc (.cells #[.int .u64 W, .int .u64 s] 26))) := b0
  have HB1 : Hid (Below w.heap.size w w1) := hb1
  clear b0 hb1 V S
  go_loopw [4] (fun i wr => ∃ j : Nat, j ≤ 2 ∧ i = .int .i64 j ∧ Below (w1.heap.size + 1) (w1.alloc (.cells #[.int .u64 W, .int .u64 s] 26)) wr) (fun i _ => 2 - (intOf i).toNat)
  case atStart => exact ⟨0, by omega, rfl, B0.out⟩
  case round =>
    obtain ⟨j, hj, rfl, hbel⟩ := hrel
    by_cases hlt : j < 2
    · obtain ⟨x, hx, hcx⟩ : ∃ x : Nat, x < 18446744073709551616 ∧ ∀ wz, Below (w1.heap.size + 1) (w1.alloc (.cells #[.int .u64 W, .int .u64 s] 26)) wz → wz.cell? ⟨w1.heap.size, j, none⟩ = some (.int .u64 x) := by
        rcases (by omega : j = 0 ∨ j = 1) with rfl | rfl
        · exact ⟨W, hW, fun wz h => (h.cell (p := ⟨w1.heap.size, 0, none⟩) (by simp)).trans (World.cell?_alloc_at _ _ _ _ rfl)⟩
        · exact ⟨s, hs, fun wz h => (h.cell (p := ⟨w1.heap.size, 1, none⟩) (by simp)).trans (World.cell?_alloc_at _ _ _ _ rfl)⟩
      have cx := hcx _ hbel
      have HCX : Hid (∀ wz, Below (w1.heap.size + 1) (w1.alloc (.cells #[.int .u64 W, .int .u64 s] 26)) wz → wz.cell? ⟨w1.heap.size, j, none⟩ = some (.int .u64 x)) := hcx
      have Re := fun w => fread_any x hx w
      have Rr := fun w => rread_any x hx w
      have K := fun w => kind_int x hx w
      generalize readR x = fe at *
      obtain ⟨F, ee⟩ := fe
      simp only [flv, flc] at Re Rr
      have Ne := run_ne_flit F F
      rw [Fl.eqB_self] at Ne
      have Gd := Try.flitGuard
      simp only [flv, flc] at Ne
      clear hcx
      go_wp2_with fail
      go_at_call 16
      refine (Re _).mono ?_
      rintro e w3 ⟨rfl, hb3⟩
      have hbel3 := hbel.trans (hb3.mono (by have := hbel.size; simp at this; omega))
      have hbel4 : Below (w1.heap.size + 1) (w1.alloc (.cells #[.int .u64 W, .int .u64 s] 26)) (w3.alloc (.cells (flc F) 23)) := hbel3.alloc (by have := hbel3.size; simp at this; omega) _
      have HB3 : Hid (Below (w1.heap.size + 1) (w1.alloc (.cells #[.int .u64 W, .int .u64 s] 26)) (w3.alloc (.cells (flc F) 23))) := hbel4
      have cx3 := HCX.out _ hbel3
      have hz3 : w1.heap.size < w3.heap.size := by have := hbel3.size; simp at this; omega
      clear hb3 hbel hbel3 hbel4 cx Re
      go_wp2_with fail
      go_at_call 17
      refine (Rr _).mono ?_
      rintro e w4 ⟨rfl, hb4⟩
      have hbel4 : Below (w1.heap.size + 1) (w1.alloc (.cells #[.int .u64 W, .int .u64 s] 26)) w4 := HB3.out.trans (hb4.mono (by have := HB3.out.size; simp at *; omega))
      have hz4 : w3.heap.size < w4.heap.size := by have := hb4.size; simp at this; omega
      have hz14 : w1.heap.size < w4.heap.size := by omega
      have cx4 := HCX.out _ hbel4
      obtain ⟨d0, d1, d2, d3, d4, d5, d6, d7⟩ := eight_cells (flit_block (new_flit w3 F) hb4 (by simp))
      have HB4 : Hid (Below (w1.heap.size + 1) (w1.alloc (.cells #[.int .u64 W, .int .u64 s] 26)) (w4.alloc (.cells (flc F) 23))) := hbel4.alloc (by omega) _
      have hj0 : (0 : Int) ≤ j := by omega
      have hj2 : (j : Int) < 2 := by omega
      clear hb4 hbel4 Rr cx3
      go_wp2_with fail
      go_quiet ((go_at_call 18; exact Calls.quiet_of (K _)))
      go_wp2
      go_roundw
      case rel => exact ⟨j + 1, by omega, by go_num, below_drewN HB4.out _⟩
      case measure => simp [intOf]; omega
    · obtain rfl : j = 2 := by omega
      have HBF : Hid (Below w.heap.size w wr) := HB1.out.trans (((Below.refl _ _).alloc (Nat.le_refl _) _).trans (hbel.mono (by omega)) |>.mono HB1.out.size)
      clear hbel
      go_wp2
      go_ret
      exact ⟨rfl, HBF.out⟩
end Go.Proofs.Ytfgjfopgbdmglaa
