/-
  The walks of BitsFields, BitsChecks and BitsOne.
-/
import Derived.Test.YtknmloompmnmnaaLives
namespace Go.Proofs.Ytknmloompmnmnaa
open Go.RowKit

theorem cells_below {w w' : World} {B b : Nat} (h : Below B w w') (hb : b < B) (j : Nat) {x : Value} (hx : w.cell? ⟨b, j, none⟩ = some x) : w'.cell? ⟨b, j, none⟩ = some x :=
  (h.cell (p := ⟨b, j, none⟩) hb).trans hx

set_option maxHeartbeats 800000 in
theorem bitsFields_any (w : World) (W v : Nat) (a0 a1 : Int) (hW : W < 18446744073709551616) (hv : v < 4294967296) :
    Calls Try.prog 3 #[.int .u64 W, .agg #[.int .i64 a0, .int .i64 a1], .int .u32 v] w fun e w' => e = .returned (.bool true) ∧ Below w.heap.size w w' := by
  have b0 : Below w.heap.size w (w.alloc (.cells #[.int .i64 a0, .int .i64 a1] 23)) := (Below.refl _ _).alloc (Nat.le_refl _) _
  have V := lives_any (w.alloc (.cells #[.int .i64 a0, .int .i64 a1] 23))
  have c0 : ∀ j, (w.alloc (.cells #[.int .i64 a0, .int .i64 a1] 23)).cell? ⟨w.heap.size, j, none⟩ = #[Value.int .i64 a0, .int .i64 a1][j]? := fun j => World.cell?_alloc_at _ _ _ _ rfl
  rw [show (w.alloc (.cells #[.int .i64 a0, .int .i64 a1] 23)).heap.size = w.heap.size + 1 by simp] at V
  have B0 : Hid (Below w.heap.size w (w.alloc (.cells #[.int .i64 a0, .int .i64 a1] 23))) := b0
  have C0 : Hid (∀ j, (w.alloc (.cells #[.int .i64 a0, .int .i64 a1] 23)).cell? ⟨w.heap.size, j, none⟩ = #[Value.int .i64 a0, .int .i64 a1][j]?) := c0
  have G1 := fun w => get_any W a0 a1 hW w
  have G2 := fun w => rget_any W a0 a1 hW w
  have P1 := fun w => put_any W a0 a1 v hW hv w
  have P2 := fun w => rput_any W a0 a1 v hW hv w
  clear b0 c0
  generalize getV W a0 a1 = x1 at *
  generalize getE a0 a1 = x2 at *
  generalize putR W a0 a1 v = r at *
  obtain ⟨y1, y2⟩ := r
  simp only at P1 P2
  go_enter Try.func3, Try.ntmps3
  go_wp2_with fail
  go_at_call 9
  refine V.mono ?_
  rintro e w1 ⟨rfl, hb1⟩
  have d0 : w1.cell? ⟨w.heap.size, 0, none⟩ = some (.int .i64 a0) := cells_below hb1 (by omega) 0 (C0.out 0)
  have d1 : w1.cell? ⟨w.heap.size, 1, none⟩ = some (.int .i64 a1) := cells_below hb1 (by omega) 1 (C0.out 1)
  have HF : Hid (Below w.heap.size w w1) := B0.out.trans (hb1.mono (by omega))
  clear V hb1
  go_wp2_with (first
    | (go_at_call 10; (with_reducible refine (G1 _).mono ?_); rintro e w' ⟨rfl, n2, rfl⟩)
    | (go_at_call 11; (with_reducible refine (G2 _).mono ?_); rintro e w' ⟨rfl, rfl⟩)
    | (go_at_call 12; (with_reducible refine (P1 _).mono ?_); rintro e w' ⟨rfl, n3, rfl⟩)
    | (go_at_call 13; (with_reducible refine (P2 _).mono ?_); rintro e w' ⟨rfl, rfl⟩))
  go_ret
  exact ⟨rfl, below_drewN HF.out _⟩

set_option maxHeartbeats 800000 in
theorem bitsChecks_any (w : World) (W : Nat) (hW : W < 18446744073709551616) :
    Calls Try.prog 5 #[.int .u64 W] w fun e w' => e = .returned (.bool true) ∧ Below w.heap.size w w' := by
  have V := lives_any w
  have S1 := fun w => seal_any W hW w
  have S2 := fun w => rseal_any W hW w
  have S3 := fun w => seal_any (sealN W) (seal_lt W) w
  have C1 := fun w => check_any W hW w
  have C2 := fun w => rcheck_any W hW w
  have C3 := fun w => check_any (sealN W) (seal_lt W) w
  have R1 := fun w => right_any W hW w
  have R2 := fun w => rright_any W hW w
  have R3 := fun w => right_any (sealN W) (seal_lt W) w
  rw [seal_seal] at S3
  rw [chk_seal] at C3
  rw [seal_seal, decide_eq_true rfl] at R3
  by_cases hne : W = sealN W
  · have e : decide (sealN W = W) = true := decide_eq_true hne.symm
    rw [e] at R1 R2
    rw [← hne] at S1 S2
    clear hne e
    clear S3 C3 R3
    generalize chk W 7 = c at *
    go_enter Try.func5, Try.ntmps5
    go_wp2_with (first
      | (go_at_call 9; (with_reducible refine V.mono ?_); rintro e w1 ⟨rfl, hb1⟩)
      | (go_at_call 19; (with_reducible refine (S1 _).mono ?_); rintro e w' ⟨rfl, rfl⟩)
      | (go_at_call 22; (with_reducible refine (S2 _).mono ?_); rintro e w' ⟨rfl, rfl⟩)
      | (go_at_call 20; (with_reducible refine (C1 _).mono ?_); rintro e w' ⟨rfl, rfl⟩)
      | (go_at_call 21; (with_reducible refine (C2 _).mono ?_); rintro e w' ⟨rfl, rfl⟩)
      | (go_at_call 23; (with_reducible refine (R1 _).mono ?_); rintro e w' ⟨rfl, rfl⟩)
      | (go_at_call 24; (with_reducible refine (R2 _).mono ?_); rintro e w' ⟨rfl, rfl⟩))
    go_ret
    exact ⟨rfl, hb1⟩
  · have e : decide (sealN W = W) = false := decide_eq_false fun h => hne h.symm
    rw [e] at R1 R2
    clear hne e
    generalize sealN W = s at *
    generalize chk W 7 = c at *
    go_enter Try.func5, Try.ntmps5
    go_wp2_with (first
      | (go_at_call 9; (with_reducible refine V.mono ?_); rintro e w1 ⟨rfl, hb1⟩)
      | (go_at_call 19; (with_reducible refine (S1 _).mono ?_); rintro e w' ⟨rfl, rfl⟩)
      | (go_at_call 19; (with_reducible refine (S3 _).mono ?_); rintro e w' ⟨rfl, rfl⟩)
      | (go_at_call 22; (with_reducible refine (S2 _).mono ?_); rintro e w' ⟨rfl, rfl⟩)
      | (go_at_call 20; (with_reducible refine (C1 _).mono ?_); rintro e w' ⟨rfl, rfl⟩)
      | (go_at_call 20; (with_reducible refine (C3 _).mono ?_); rintro e w' ⟨rfl, rfl⟩)
      | (go_at_call 21; (with_reducible refine (C2 _).mono ?_); rintro e w' ⟨rfl, rfl⟩)
      | (go_at_call 23; (with_reducible refine (R1 _).mono ?_); rintro e w' ⟨rfl, rfl⟩)
      | (go_at_call 23; (with_reducible refine (R3 _).mono ?_); rintro e w' ⟨rfl, rfl⟩)
      | (go_at_call 24; (with_reducible refine (R2 _).mono ?_); rintro e w' ⟨rfl, rfl⟩))
    go_ret
    exact ⟨rfl, hb1⟩

set_option maxHeartbeats 800000 in
theorem bitsOne_any (w : World) (W b : Nat) (a : Int) (hW : W < 18446744073709551616) (hb : b < 256) :
    Calls Try.prog 6 #[.int .u64 W, .int .i64 a, .int .u8 b] w fun e w' => e = .returned (.bool true) ∧ Below w.heap.size w w' := by
  have V := lives_any w
  have S1 := fun w => seal_any W hW w
  obtain ⟨U, hU⟩ : ∃ U : Nat, U = (a % 18446744073709551616).toNat := ⟨_, rfl⟩
  have hUl : U < 18446744073709551616 := by omega
  have hu : IntKind.u64.wrap a = (U : Int) := by rw [IntKind.wrap_u64]; omega
  clear hU
  have hk : U % 8 < 8 := Nat.mod_lt _ (by decide)
  have hs := seal_lt W
  obtain ⟨T, hT⟩ : ∃ T, T = sealN W ^^^ (b * 2 ^ (8 * (U % 8))) := ⟨_, rfl⟩
  have hTl : T < 18446744073709551616 := by rw [hT]; exact xor_lt _ _ _ hs hb hk
  have hO := one_byte W b (U % 8) hb hk
  rw [← hT] at hO
  have hX : bits .xor .u64 ((sealN W : Nat) : Int) (IntKind.u64.wrap ((b : Int) * 2 ^ (8 * (U % 8)))) = (T : Int) := by
    obtain ⟨e1, l1⟩ := shl_eq b (8 * (U % 8)) 8 (by omega) hb
    rw [e1, u64_xor_nat _ _ hs l1, hT]
  clear hT
  have R := fun w => right_any T hTl w
  generalize sealN W = s at *
  by_cases h0 : b = 0
  · rw [decide_eq_true (hO.mpr h0)] at R
    have t1 : ((b : Int) == 0) = true := by simp [h0]
    clear hO h0
    go_enter Try.func6, Try.ntmps6
    go_wp2_with (first
      | (go_at_call 9; (with_reducible refine V.mono ?_); rintro e w1 ⟨rfl, hb1⟩)
      | (go_at_call 19; (with_reducible refine (S1 _).mono ?_); rintro e w' ⟨rfl, rfl⟩)
      | (go_at_call 23; (with_reducible refine (R _).mono ?_); rintro e w' ⟨rfl, rfl⟩))
    go_ret
    exact ⟨ret_bool (by simp [t1]), hb1⟩
  · rw [decide_eq_false (fun h => h0 (hO.mp h))] at R
    have t1 : ((b : Int) == 0) = false := by simp [h0]
    clear hO h0
    go_enter Try.func6, Try.ntmps6
    go_wp2_with (first
      | (go_at_call 9; (with_reducible refine V.mono ?_); rintro e w1 ⟨rfl, hb1⟩)
      | (go_at_call 19; (with_reducible refine (S1 _).mono ?_); rintro e w' ⟨rfl, rfl⟩)
      | (go_at_call 23; (with_reducible refine (R _).mono ?_); rintro e w' ⟨rfl, rfl⟩))
    go_ret
    exact ⟨ret_bool (by simp [t1]), hb1⟩
end Go.Proofs.Ytknmloompmnmnaa
