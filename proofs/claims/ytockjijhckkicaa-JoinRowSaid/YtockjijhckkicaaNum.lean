/-
  The walks of isField, ones, Get, Put, Check, Seal and Right.
-/
import Derived.Test.YtockjijhckkicaaProg
import Derived.Test.YtockjijhckkicaaMath
import Derived.WalkKit
import Derived.BigQuiet
import Derived.Deep.QuietTactic
import Derived.WalkSpells
import Derived.WalkLawsBesides
import Derived.KernelRfl
import Derived.Laws.BitsAllLaws
namespace Go.Proofs.Ytockjijhckkicaa
open Go.RowKit

theorem ret_int {k : IntKind} {a b : Int} (h : a = b) : Ending.returned (.int k a) = .returned (.int k b) := by rw [h]
theorem ret_bool {a b : Bool} (h : a = b) : Ending.returned (.bool a) = .returned (.bool b) := by rw [h]

theorem isField_any (a s : Int) (w : World) : Calls Try.prog 57 #[.int .i64 a, .int .i64 s] w fun e w' => e = .returned (.bool (fldB a s)) ∧ w = w' := by
  by_cases h1 : 0 ≤ a
  · by_cases h2 : 1 ≤ s
    · by_cases h3 : s ≤ 32
      · by_cases h4 : a ≤ 64 - s
        · have e : fldB a s = true := by unfold fldB; exact decide_eq_true (by omega)
          rw [e]
          clear e
          go_enter Try.func57, Try.ntmps57
          go_wp2
          go_ret
          exact ⟨rfl, rfl⟩
        · have e : fldB a s = false := by unfold fldB; exact decide_eq_false (by omega)
          rw [e]
          clear e
          go_enter Try.func57, Try.ntmps57
          go_wp2
          go_ret
          exact ⟨rfl, rfl⟩
      · have e : fldB a s = false := by unfold fldB; exact decide_eq_false (by omega)
        rw [e]
        clear e
        go_enter Try.func57, Try.ntmps57
        go_wp2
        go_ret
        exact ⟨rfl, rfl⟩
    · have e : fldB a s = false := by unfold fldB; exact decide_eq_false (by omega)
      rw [e]
      clear e
      go_enter Try.func57, Try.ntmps57
      go_wp2
      go_ret
      exact ⟨rfl, rfl⟩
  · have e : fldB a s = false := by unfold fldB; exact decide_eq_false (by omega)
    rw [e]
    clear e
    go_enter Try.func57, Try.ntmps57
    go_wp2
    go_ret
    exact ⟨rfl, rfl⟩

theorem ones_eq (s : Nat) (hs : s ≤ 63) : IntKind.u64.wrap (IntKind.u64.wrap (2 ^ s) - 1) = ((2 ^ s - 1 : Nat) : Int) := by
  have h1 : (2 : Nat) ^ s ≤ 2 ^ 63 := Nat.pow_le_pow_right (by decide) hs
  have h2 : 0 < (2 : Nat) ^ s := Nat.two_pow_pos s
  have e : ((2 : Int) ^ s) = ((2 ^ s : Nat) : Int) := by simp
  rw [e, IntKind.wrap_u64, IntKind.wrap_u64]
  generalize (2 : Nat) ^ s = p at *
  omega

theorem ones_any (s : Nat) (hs : s ≤ 63) (w : World) : Calls Try.prog 47 #[.int .i64 s] w fun e w' => e = .returned (.int .u64 ((2 ^ s - 1 : Nat) : Int)) ∧ w = w' := by
  go_enter Try.func47, Try.ntmps47
  go_wp2
  go_ret
  exact ⟨ret_int (ones_eq s hs), rfl⟩

theorem shr_nat (W k : Nat) : (W : Int) / 2 ^ k = ((W / 2 ^ k : Nat) : Int) := by simp

theorem chk_step (W k : Nat) : (((chk W k : Int) * 31 + (W : Int) / 2 ^ (8 * k)) % 256 + 7) % 256 = ((chk W (k + 1) : Nat) : Int) := by
  have e : (256 : Nat) ^ k = 2 ^ (8 * k) := by rw [Nat.pow_mul]
  rw [shr_nat, chk, e]
  generalize W / 2 ^ (8 * k) = q
  generalize chk W k = c
  omega

theorem check_any (W : Nat) (_hW : W < 18446744073709551616) (w : World) : Calls Try.prog 48 #[.int .u64 W] w fun e w' => e = .returned (.int .u32 (chk W 7)) ∧ w = w' := by
  have hc := chk_lt W 7
  go_enter Try.func48, Try.ntmps48
  go_wp2
  go_loop [3, 4] (fun c i => ∃ k : Nat, k ≤ 7 ∧ i = .int .i64 (8 * (k : Int)) ∧ c = .int .u8 (chk W k)) (fun _ i => 56 - (intOf i).toNat)
  case atStart => exact ⟨0, by omega, rfl, rfl⟩
  case round =>
    obtain ⟨k, hk, rfl, rfl⟩ := hrel
    by_cases hlt : k < 7
    · go_wp2
      go_round
      case rel => exact ⟨k + 1, by omega, by go_num, by rw [← chk_step]⟩
      case measure => simp [intOf]; omega
    · obtain rfl : k = 7 := by omega
      go_wp2
      go_ret
      exact ⟨ret_int (by omega), rfl⟩

theorem ret_pair {k j : IntKind} {a b c : Int} (h : a = b) : Ending.returned (.tuple #[.int k a, .int j c]) = .returned (.tuple #[.int k b, .int j c]) := by rw [h]

theorem get_eq (W A S : Nat) (hW : W < 18446744073709551616) (h2 : S ≤ 32) : bits .and .u64 ((W : Int) / 2 ^ A) ((2 ^ S - 1 : Nat) : Int) % 4294967296 = ((W / 2 ^ A % 2 ^ S : Nat) : Int) := by
  have e1 : W / 2 ^ A < 18446744073709551616 := Nat.lt_of_le_of_lt (Nat.div_le_self _ _) hW
  have e2 : (2 : Nat) ^ S ≤ 2 ^ 32 := Nat.pow_le_pow_right (by decide) h2
  have e3 : W / 2 ^ A % 2 ^ S < 2 ^ S := Nat.mod_lt _ (Nat.two_pow_pos S)
  rw [shr_nat, u64_and_nat _ _ e1 (by omega), and_ones]
  omega

theorem shl_eq (x A S : Nat) (h : A + S ≤ 64) (hx : x < 2 ^ S) : IntKind.u64.wrap ((x : Int) * 2 ^ A) = ((x * 2 ^ A : Nat) : Int) ∧ x * 2 ^ A < 18446744073709551616 := by
  have h1 : x * 2 ^ A < 2 ^ S * 2 ^ A := Nat.mul_lt_mul_of_pos_right hx (Nat.two_pow_pos A)
  rw [← Nat.pow_add] at h1
  have h2 : (2 : Nat) ^ (S + A) ≤ 2 ^ 64 := Nat.pow_le_pow_right (by decide) (by omega)
  have h3 : x * 2 ^ A < 18446744073709551616 := Nat.lt_of_lt_of_le h1 h2
  have e : (x : Int) * 2 ^ A = ((x * 2 ^ A : Nat) : Int) := by simp
  refine ⟨?_, h3⟩
  rw [e, IntKind.wrap_u64]
  generalize x * 2 ^ A = q at *
  omega

theorem put_eq (W A S v q : Nat) (hW : W < 18446744073709551616) (h : A + S ≤ 64) (hv : v < 2 ^ S) (hq : q = 2 ^ S - 1) :
    bits .or .u64 (bits .andNot .u64 (W : Int) (IntKind.u64.wrap ((q : Int) * 2 ^ A))) (IntKind.u64.wrap ((v : Int) * 2 ^ A)) = ((putN W A S v : Nat) : Int) := by
  have hp := Nat.two_pow_pos S
  obtain ⟨e1, l1⟩ := shl_eq q A S h (by omega)
  obtain ⟨e2, l2⟩ := shl_eq v A S h hv
  have hP := put_or W A S v hW h hv
  rw [e1, e2, u64_andNot_nat _ _ hW l1, u64_or_nat _ _ (Nat.lt_of_le_of_lt Nat.and_le_left hW) l2, ← hP, hq]
  rw [hq] at l1
  have e : (18446744073709551615 : Nat) - (2 ^ S - 1) * 2 ^ A = 2 ^ 64 - ((2 ^ S - 1) * 2 ^ A + 1) := by
    generalize (2 ^ S - 1) * 2 ^ A = z at *
    omega
  rw [e]

theorem get_no (W : Nat) (a s : Int) (h : fldB a s = false) (w : World) : Calls Try.prog 49 #[.int .u64 W, .int .i64 a, .int .i64 s] w fun e w' => e = .returned (.tuple #[.int .u32 0, .int .i64 1]) ∧ ∃ n, w' = w.drewN n := by
  have K := isField_any a s w
  rw [h] at K
  clear h
  go_enter Try.func49, Try.ntmps49
  go_wp2_with (go_at_call 57; refine K.mono ?_; rintro e w' ⟨rfl, rfl⟩)
  go_ret2
  exact ⟨rfl, 0, rfl⟩

theorem get_yes (W A S : Nat) (hW : W < 18446744073709551616) (h1 : 1 ≤ S) (h2 : S ≤ 32) (h3 : A + S ≤ 64) (w : World) : Calls Try.prog 49 #[.int .u64 W, .int .i64 A, .int .i64 S] w fun e w' => e = .returned (.tuple #[.int .u32 ((W / 2 ^ A % 2 ^ S : Nat) : Int), .int .i64 0]) ∧ ∃ n, w' = w.drewN n := by
  have K := isField_any A S w
  rw [show fldB A S = true by unfold fldB; exact decide_eq_true (by omega)] at K
  have ho := fun w => ones_any S (by omega) w
  have hA : A ≤ 63 := by omega
  go_enter Try.func49, Try.ntmps49
  go_wp2_with (go_at_call 57; refine K.mono ?_; rintro e w' ⟨rfl, rfl⟩)
  go_quiet ((go_at_call 47; exact Calls.quiet_of_same ((ho _).mono fun _ _ h => ⟨h.1, h.2.symm⟩)))
  go_wp2
  go_ret2
  exact ⟨ret_pair (get_eq W A S hW h2), _, rfl⟩

theorem put_no (W : Nat) (a s : Int) (v : Nat) (h : fldB a s = false) (w : World) : Calls Try.prog 60 #[.int .u64 W, .int .i64 a, .int .i64 s, .int .u32 v] w fun e w' => e = .returned (.tuple #[.int .u64 0, .int .i64 1]) ∧ ∃ n, w' = w.drewN n := by
  have K := isField_any a s w
  rw [h] at K
  clear h
  go_enter Try.func60, Try.ntmps60
  go_wp2_with (go_at_call 57; refine K.mono ?_; rintro e w' ⟨rfl, rfl⟩)
  go_ret2
  exact ⟨rfl, 0, rfl⟩

theorem put_big (W A S v : Nat) (h1 : 1 ≤ S) (h2 : S ≤ 32) (h3 : A + S ≤ 64) (hv : v < 4294967296) (hb : 2 ^ S ≤ v) (w : World) : Calls Try.prog 60 #[.int .u64 W, .int .i64 A, .int .i64 S, .int .u32 v] w fun e w' => e = .returned (.tuple #[.int .u64 0, .int .i64 4]) ∧ ∃ n, w' = w.drewN n := by
  have K := isField_any A S w
  rw [show fldB A S = true by unfold fldB; exact decide_eq_true (by omega)] at K
  have ho := fun w => ones_any S (by omega) w
  have hp := Nat.two_pow_pos S
  have hq : 2 ^ S - 1 < v := by omega
  clear hb
  generalize 2 ^ S - 1 = q at *
  go_enter Try.func60, Try.ntmps60
  go_wp2_with (first
    | (go_at_call 57; refine K.mono ?_; rintro e w' ⟨rfl, rfl⟩)
    | (go_at_call 47; refine (ho _).mono ?_; rintro e w' ⟨rfl, rfl⟩))
  go_ret2
  exact ⟨rfl, 0, rfl⟩

theorem put_yes (W A S v : Nat) (hW : W < 18446744073709551616) (h1 : 1 ≤ S) (h2 : S ≤ 32) (h3 : A + S ≤ 64) (hv : v < 4294967296) (hb : v < 2 ^ S) (w : World) : Calls Try.prog 60 #[.int .u64 W, .int .i64 A, .int .i64 S, .int .u32 v] w fun e w' => e = .returned (.tuple #[.int .u64 (putN W A S v), .int .i64 0]) ∧ ∃ n, w' = w.drewN n := by
  have K := isField_any A S w
  rw [show fldB A S = true by unfold fldB; exact decide_eq_true (by omega)] at K
  have ho := fun w => ones_any S (by omega) w
  have hp := Nat.two_pow_pos S
  have hq : ¬ 2 ^ S - 1 < v := by omega
  have hA : A ≤ 63 := by omega
  obtain ⟨q, hQ⟩ : ∃ q, q = 2 ^ S - 1 := ⟨_, rfl⟩
  have HQ : Hid (q = 2 ^ S - 1) := hQ
  rw [← hQ] at hq ho
  have HB : Hid (v < 2 ^ S) := hb
  clear hb hQ
  go_enter Try.func60, Try.ntmps60
  go_wp2_with (first
    | (go_at_call 57; refine K.mono ?_; rintro e w' ⟨rfl, rfl⟩)
    | (go_at_call 47; refine (ho _).mono ?_; rintro e w' ⟨rfl, rfl⟩))
  go_quiet ((go_at_call 47; exact Calls.quiet_of_same ((ho _).mono fun _ _ h => ⟨h.1, h.2.symm⟩)))
  go_wp2
  go_ret2
  exact ⟨ret_pair (put_eq W A S v q hW h3 HB.out HQ.out), _, rfl⟩

theorem seal_eq (W : Nat) (hW : W < 18446744073709551616) : bits .or .u64 (bits .and .u64 (W : Int) 72057594037927935) ((chk W 7 : Int) * 72057594037927936) = ((sealN W : Nat) : Int) := by
  have hc := chk_lt W 7
  have e1 : bits .and .u64 (W : Int) 72057594037927935 = ((W &&& 72057594037927935 : Nat) : Int) := u64_and_nat W 72057594037927935 hW (by decide)
  have e2 : (chk W 7 : Int) * 72057594037927936 = ((chk W 7 * 72057594037927936 : Nat) : Int) := by omega
  rw [e1, e2, u64_or_nat _ _ (Nat.lt_of_le_of_lt Nat.and_le_left hW) (by omega), seal_or W _ hc]
  rfl

theorem beq_nat (a b : Nat) : ((a : Int) == (b : Int)) = decide (a = b) := by
  by_cases h : a = b
  · subst h; simp
  · have : ((a : Int) == (b : Int)) = false := by simp; omega
    rw [this]; simp [h]

theorem seal_any (W : Nat) (hW : W < 18446744073709551616) (w : World) : Calls Try.prog 39 #[.int .u64 W] w fun e w' => e = .returned (.int .u64 (sealN W)) ∧ w = w' := by
  have ho := fun w => ones_any 56 (by omega) w
  rw [show ((2 ^ 56 - 1 : Nat) : Int) = 72057594037927935 by decide, show ((56 : Nat) : Int) = 56 by rfl] at ho
  have hk := fun w => check_any W hW w
  have hc := chk_lt W 7
  go_enter Try.func39, Try.ntmps39
  go_wp2_with (first
    | (go_at_call 47; refine (ho _).mono ?_; rintro e w' ⟨rfl, rfl⟩)
    | (go_at_call 48; refine (hk _).mono ?_; rintro e w' ⟨rfl, rfl⟩))
  go_ret
  exact ⟨ret_int (seal_eq W hW), rfl⟩

theorem right_any (W : Nat) (hW : W < 18446744073709551616) (w : World) : Calls Try.prog 30 #[.int .u64 W] w fun e w' => e = .returned (.bool (decide (sealN W = W))) ∧ w = w' := by
  have hk := fun w => seal_any W hW w
  go_enter Try.func30, Try.ntmps30
  go_wp2_with (go_at_call 39; refine (hk _).mono ?_; rintro e w' ⟨rfl, rfl⟩)
  go_ret
  exact ⟨ret_bool (beq_nat _ _), rfl⟩
end Go.Proofs.Ytockjijhckkicaa
