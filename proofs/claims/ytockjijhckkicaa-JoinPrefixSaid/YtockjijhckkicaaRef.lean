/-
  The walks of the document's own bit, field, Get, Put, Check, Seal and Right.
-/
import Derived.Test.YtockjijhckkicaaNum
namespace Go.Proofs.Ytockjijhckkicaa
open Go.RowKit

theorem half (W k : Nat) : W / 2 ^ k / 2 = W / 2 ^ (k + 1) := by rw [Nat.div_div_eq_div_mul, Nat.pow_succ]
theorem half_int (W k : Nat) : ((W / 2 ^ k : Nat) : Int) / 2 = ((W / 2 ^ (k + 1) : Nat) : Int) := by rw [← half]; rfl

theorem bit_any (W i : Nat) (hW : W < 18446744073709551616) (hi : i ≤ 64) (w : World) : Calls Try.prog 35 #[.int .u64 W, .int .i64 i] w fun e w' => e = .returned (.int .u64 ((W / 2 ^ i % 2 : Nat) : Int)) ∧ w = w' := by
  obtain ⟨R, hR⟩ : ∃ R, R = W / 2 ^ i % 2 := ⟨_, rfl⟩
  rw [← hR]
  have HR : Hid (R = W / 2 ^ i % 2) := hR
  clear hR
  go_enter Try.func35, Try.ntmps35
  go_wp2
  go_loop [0, 5] (fun x c => ∃ k : Nat, k ≤ i ∧ c = .int .i64 (k : Int) ∧ x = .int .u64 ((W / 2 ^ k : Nat) : Int)) (fun _ c => i - (intOf c).toNat)
  case atStart => exact ⟨0, by omega, rfl, by simp⟩
  case round =>
    obtain ⟨k, hk, rfl, rfl⟩ := hrel
    have hX : W / 2 ^ k < 18446744073709551616 := Nat.lt_of_le_of_lt (Nat.div_le_self _ _) hW
    have he := half_int W k
    obtain ⟨X, hx⟩ : ∃ X, X = W / 2 ^ k := ⟨_, rfl⟩
    rw [← hx] at hX he ⊢
    have HE : Hid ((X : Int) / 2 = ((W / 2 ^ (k + 1) : Nat) : Int)) := he
    have HX : Hid (X = W / 2 ^ k) := hx
    clear he hx
    by_cases hlt : k < i
    · go_wp2
      go_round
      case rel => exact ⟨k + 1, by omega, by go_num, by rw [← HE.out]⟩
      case measure => simp [intOf]; omega
    · obtain rfl : k = i := by omega
      go_wp2
      go_ret
      exact ⟨ret_int (by have h1 := HX.out; have h2 := HR.out; rw [← h1] at h2; omega), rfl⟩

theorem field_any (a s : Int) (w : World) : Calls Try.prog 34 #[.int .i64 a, .int .i64 s] w fun e w' => e = .returned (.bool (fldB a s)) ∧ w = w' := by
  by_cases h2 : 1 ≤ s
  · by_cases h3 : s ≤ 32
    · by_cases h1 : 0 ≤ a
      · by_cases h5 : a ≤ 63
        · by_cases h4 : a + s ≤ 64
          · have e : fldB a s = true := by unfold fldB; exact decide_eq_true (by omega)
            rw [e]
            clear e
            go_enter Try.func34, Try.ntmps34
            go_wp2
            go_ret
            exact ⟨rfl, rfl⟩
          · have e : fldB a s = false := by unfold fldB; exact decide_eq_false (by omega)
            rw [e]
            clear e
            go_enter Try.func34, Try.ntmps34
            go_wp2
            go_ret
            exact ⟨rfl, rfl⟩
        · have e : fldB a s = false := by unfold fldB; exact decide_eq_false (by omega)
          rw [e]
          clear e
          go_enter Try.func34, Try.ntmps34
          go_wp2
          go_ret
          exact ⟨rfl, rfl⟩
      · have e : fldB a s = false := by unfold fldB; exact decide_eq_false (by omega)
        rw [e]
        clear e
        go_enter Try.func34, Try.ntmps34
        go_wp2
        go_ret
        exact ⟨rfl, rfl⟩
    · have e : fldB a s = false := by unfold fldB; exact decide_eq_false (by omega)
      rw [e]
      clear e
      go_enter Try.func34, Try.ntmps34
      go_wp2
      go_ret
      exact ⟨rfl, rfl⟩
  · have e : fldB a s = false := by unfold fldB; exact decide_eq_false (by omega)
    rw [e]
    clear e
    go_enter Try.func34, Try.ntmps34
    go_wp2
    go_ret
    exact ⟨rfl, rfl⟩

theorem rget_no (W : Nat) (a s : Int) (h : fldB a s = false) (w : World) : Calls Try.prog 27 #[.int .u64 W, .int .i64 a, .int .i64 s] w fun e w' => e = .returned (.tuple #[.int .u32 0, .int .i64 1]) ∧ w = w' := by
  have K := field_any a s w
  rw [h] at K
  clear h
  go_enter Try.func27, Try.ntmps27
  go_wp2_with (go_at_call 34; refine K.mono ?_; rintro e w' ⟨rfl, rfl⟩)
  go_ret2
  exact ⟨rfl, rfl⟩

theorem get_step (W A S j : Nat) (h0 : 0 < j) (hj : j ≤ S) :
    2 * (W / 2 ^ (A + j) % 2 ^ (S - j)) + W / 2 ^ (A + (j - 1)) % 2 = W / 2 ^ (A + (j - 1)) % 2 ^ (S - (j - 1)) := by
  have e : A + j = A + (j - 1) + 1 := by omega
  have e2 : S - (j - 1) = S - j + 1 := by omega
  rw [e, ← half, e2, Nat.pow_succ, Nat.mul_comm (2 ^ (S - j)) 2, Nat.mod_mul, Nat.add_comm]

theorem rget_yes (W A S : Nat) (hW : W < 18446744073709551616) (h1 : 1 ≤ S) (h2 : S ≤ 32) (h3 : A + S ≤ 64) (w : World) : Calls Try.prog 27 #[.int .u64 W, .int .i64 A, .int .i64 S] w fun e w' => e = .returned (.tuple #[.int .u32 ((W / 2 ^ A % 2 ^ S : Nat) : Int), .int .i64 0]) ∧ w = w' := by
  have K := field_any A S w
  rw [show fldB A S = true by unfold fldB; exact decide_eq_true (by omega)] at K
  obtain ⟨R, hR⟩ : ∃ R, R = W / 2 ^ A % 2 ^ S := ⟨_, rfl⟩
  rw [← hR]
  have HR : Hid (R = W / 2 ^ A % 2 ^ S) := hR
  clear hR
  go_enter Try.func27, Try.ntmps27
  go_wp2_with (go_at_call 34; refine K.mono ?_; rintro e w' ⟨rfl, rfl⟩)
  go_loop [8, 9] (fun n i => ∃ j : Nat, j ≤ S ∧ i = .int .i64 ((j : Int) - 1) ∧ n = .int .u64 ((W / 2 ^ (A + j) % 2 ^ (S - j) : Nat) : Int)) (fun _ i => (intOf i + 1).toNat)
  case atStart => exact ⟨S, Nat.le_refl _, rfl, by simp [Nat.mod_one]⟩
  case round =>
    obtain ⟨j, hj, rfl, rfl⟩ := hrel
    by_cases hlt : 0 < j
    · have he := get_step W A S j hlt hj
      have hb : W / 2 ^ (A + j) % 2 ^ (S - j) < 4294967296 := Nat.lt_of_lt_of_le (Nat.mod_lt _ (Nat.two_pow_pos _)) (by
        have : (2 : Nat) ^ (S - j) ≤ 2 ^ 32 := Nat.pow_le_pow_right (by decide) (by omega)
        omega)
      have B := bit_any W (A + (j - 1)) hW (by omega) w
      rw [show ((A + (j - 1) : Nat) : Int) = (A : Int) + ((j : Int) - 1) by omega] at B
      have hm : W / 2 ^ (A + (j - 1)) % 2 < 2 := Nat.mod_lt _ (by decide)
      generalize W / 2 ^ (A + j) % 2 ^ (S - j) = N at *
      generalize W / 2 ^ (A + (j - 1)) % 2 = b at *
      have HE : Hid (2 * N + b = W / 2 ^ (A + (j - 1)) % 2 ^ (S - (j - 1))) := he
      have hj0 : (0 : Int) ≤ (j : Int) - 1 := by omega
      clear he
      go_wp2_with (go_at_call 35; refine B.mono ?_; rintro e w' ⟨rfl, rfl⟩)
      go_round
      case rel => exact ⟨j - 1, by omega, by rw [show ((j - 1 : Nat) : Int) = (j : Int) - 1 by omega], by rw [← HE.out]; go_num⟩
      case measure => simp [intOf]; omega
    · obtain rfl : j = 0 := by omega
      have hb : W / 2 ^ A % 2 ^ S < 4294967296 := Nat.lt_of_lt_of_le (Nat.mod_lt _ (Nat.two_pow_pos _)) (by
        have : (2 : Nat) ^ S ≤ 2 ^ 32 := Nat.pow_le_pow_right (by decide) (by omega)
        omega)
      rw [Nat.add_zero, Nat.sub_zero, ← HR.out]
      rw [← HR.out] at hb
      go_wp2
      go_ret2
      exact ⟨ret_pair (by omega), rfl⟩

theorem rcheck_any (W : Nat) (hW : W < 18446744073709551616) (w : World) : Calls Try.prog 45 #[.int .u64 W] w fun e w' => e = .returned (.int .u32 (chk W 7)) ∧ w = w' := by
  go_enter Try.func45, Try.ntmps45
  go_wp2
  go_loop [0, 3, 4] (fun x c i => ∃ k : Nat, k ≤ 7 ∧ i = .int .i64 (k : Int) ∧ c = .int .u32 (chk W k) ∧ x = .int .u64 ((W / 256 ^ k : Nat) : Int)) (fun _ _ i => 7 - (intOf i).toNat)
  case atStart => exact ⟨0, by omega, rfl, rfl, by simp⟩
  case round =>
    obtain ⟨k, hk, rfl, rfl, rfl⟩ := hrel
    have hc := chk_lt W k
    have hX : W / 256 ^ k < 18446744073709551616 := Nat.lt_of_le_of_lt (Nat.div_le_self _ _) hW
    have e1 : W / 256 ^ (k + 1) = W / 256 ^ k / 256 := by rw [Nat.div_div_eq_div_mul, Nat.pow_succ]
    have e2 : chk W (k + 1) = (31 * chk W k + W / 256 ^ k % 256 + 7) % 256 := rfl
    by_cases hlt : k < 7
    · generalize W / 256 ^ k = X at *
      obtain ⟨c, hcc⟩ : ∃ c, c = chk W k := ⟨_, rfl⟩
      rw [← hcc] at hc e2 ⊢
      have E1 : Hid (W / 256 ^ (k + 1) = X / 256) := e1
      have E2 : Hid (chk W (k + 1) = (31 * c + X % 256 + 7) % 256) := e2
      clear e1 e2 hcc
      go_wp2
      go_round
      case rel => exact ⟨k + 1, by omega, by go_num, by rw [E2.out]; go_num, by rw [E1.out]; go_num⟩
      case measure => simp [intOf]; omega
    · obtain rfl : k = 7 := by omega
      clear e1 e2
      go_wp2
      go_ret
      exact ⟨rfl, rfl⟩

theorem rseal_any (W : Nat) (hW : W < 18446744073709551616) (w : World) : Calls Try.prog 33 #[.int .u64 W] w fun e w' => e = .returned (.int .u64 (sealN W)) ∧ w = w' := by
  have hk := fun w => rcheck_any W hW w
  have hc := chk_lt W 7
  have e : sealN W = W % 72057594037927936 + chk W 7 * 72057594037927936 := rfl
  rw [e]
  clear e
  generalize chk W 7 = c at *
  go_enter Try.func33, Try.ntmps33
  go_wp2_with (go_at_call 45; refine (hk _).mono ?_; rintro e w' ⟨rfl, rfl⟩)
  go_ret
  exact ⟨ret_int (by omega), rfl⟩

theorem rright_any (W : Nat) (hW : W < 18446744073709551616) (w : World) : Calls Try.prog 25 #[.int .u64 W] w fun e w' => e = .returned (.bool (decide (sealN W = W))) ∧ w = w' := by
  have hk := fun w => rseal_any W hW w
  go_enter Try.func25, Try.ntmps25
  go_wp2_with (go_at_call 33; refine (hk _).mono ?_; rintro e w' ⟨rfl, rfl⟩)
  go_ret
  exact ⟨ret_bool (beq_nat _ _), rfl⟩

theorem rput_no (W : Nat) (a s : Int) (v : Nat) (h : fldB a s = false) (w : World) : Calls Try.prog 46 #[.int .u64 W, .int .i64 a, .int .i64 s, .int .u32 v] w fun e w' => e = .returned (.tuple #[.int .u64 0, .int .i64 1]) ∧ w = w' := by
  have K := field_any a s w
  rw [h] at K
  clear h
  go_enter Try.func46, Try.ntmps46
  go_wp2_with (go_at_call 34; refine K.mono ?_; rintro e w' ⟨rfl, rfl⟩)
  go_ret2
  exact ⟨rfl, rfl⟩

theorem bit_zero (v k : Nat) (h : v / 2 ^ k % 2 = 0) : v % 2 ^ (k + 1) = v % 2 ^ k := by
  rw [Nat.pow_succ, Nat.mod_mul, h]; omega

theorem rput_big (W A S v : Nat) (h1 : 1 ≤ S) (h2 : S ≤ 32) (h3 : A + S ≤ 64) (hv : v < 4294967296) (hb : 2 ^ S ≤ v) (w : World) : Calls Try.prog 46 #[.int .u64 W, .int .i64 A, .int .i64 S, .int .u32 v] w fun e w' => e = .returned (.tuple #[.int .u64 0, .int .i64 4]) ∧ w = w' := by
  have K := field_any A S w
  rw [show fldB A S = true by unfold fldB; exact decide_eq_true (by omega)] at K
  have HB : Hid (2 ^ S ≤ v) := hb
  clear hb
  go_enter Try.func46, Try.ntmps46
  go_wp2_with (go_at_call 34; refine K.mono ?_; rintro e w' ⟨rfl, rfl⟩)
  go_loop [10] (fun i => ∃ k : Nat, S ≤ k ∧ k ≤ 32 ∧ i = .int .i64 (k : Int) ∧ Hid (v % 2 ^ k = v % 2 ^ S)) (fun i => 32 - (intOf i).toNat)
  case atStart => exact ⟨S, Nat.le_refl _, h2, rfl, rfl⟩
  case round =>
    obtain ⟨k, hk1, hk2, rfl, hk3⟩ := hrel
    by_cases hlt : k < 32
    · have B := bit_any v k (by omega) (by omega) w
      rcases (by omega : v / 2 ^ k % 2 = 0 ∨ v / 2 ^ k % 2 = 1) with h | h
      · have hz := (bit_zero v k h).trans hk3.out
        have HZ : Hid (v % 2 ^ (k + 1) = v % 2 ^ S) := hz
        rw [h] at B
        clear hz h
        go_wp2_with (go_at_call 35; refine B.mono ?_; rintro e w' ⟨rfl, rfl⟩)
        go_round
        case rel => exact ⟨k + 1, by omega, by omega, by go_num, HZ⟩
        case measure => simp [intOf]; omega
      · rw [h] at B
        clear h
        go_wp2_with (go_at_call 35; refine B.mono ?_; rintro e w' ⟨rfl, rfl⟩)
        go_ret2
        exact ⟨rfl, rfl⟩
    · exfalso
      obtain rfl : k = 32 := by omega
      have := hk3.out
      rw [Nat.mod_eq_of_lt (a := v) (b := 2 ^ 32) hv] at this
      have h4 : v % 2 ^ S < 2 ^ S := Nat.mod_lt _ (Nat.two_pow_pos S)
      have := HB.out
      omega

theorem put_step (P j : Nat) (h0 : 0 < j) : 2 * (P / 2 ^ j) + P / 2 ^ (j - 1) % 2 = P / 2 ^ (j - 1) := by
  have e : j = (j - 1) + 1 := by omega
  have : P / 2 ^ j = P / 2 ^ (j - 1) / 2 := by rw [half, ← e]
  rw [this]
  omega

theorem rput_yes (W A S v : Nat) (hW : W < 18446744073709551616) (h1 : 1 ≤ S) (h2 : S ≤ 32) (h3 : A + S ≤ 64) (hv : v < 4294967296) (hb : v < 2 ^ S) (w : World) : Calls Try.prog 46 #[.int .u64 W, .int .i64 A, .int .i64 S, .int .u32 v] w fun e w' => e = .returned (.tuple #[.int .u64 (putN W A S v), .int .i64 0]) ∧ w = w' := by
  have K := field_any A S w
  rw [show fldB A S = true by unfold fldB; exact decide_eq_true (by omega)] at K
  have HB : Hid (v < 2 ^ S) := hb
  clear hb
  have hP := put_lt W A S v hW h3 HB.out
  obtain ⟨P, hp⟩ : ∃ P, P = putN W A S v := ⟨_, rfl⟩
  have HP : Hid (P = putN W A S v) := hp
  rw [← hp] at hP ⊢
  clear hp
  have hP' : P < 18446744073709551616 := hP
  clear hP
  go_enter Try.func46, Try.ntmps46
  go_wp2_with (go_at_call 34; refine K.mono ?_; rintro e w' ⟨rfl, rfl⟩)
  go_loop [10] (fun i => ∃ k : Nat, S ≤ k ∧ k ≤ 32 ∧ i = .int .i64 (k : Int)) (fun i => 32 - (intOf i).toNat)
  case atStart => exact ⟨S, Nat.le_refl _, h2, rfl⟩
  case round =>
    obtain ⟨k, hk1, hk2, rfl⟩ := hrel
    by_cases hlt : k < 32
    · have B := bit_any v k (by omega) (by omega) w
      have h : v / 2 ^ k % 2 = 0 := by
        rw [Nat.div_eq_of_lt (Nat.lt_of_lt_of_le HB.out (Nat.pow_le_pow_right (by decide) hk1))]
      rw [h] at B
      clear h
      go_wp2_with (go_at_call 35; refine B.mono ?_; rintro e w' ⟨rfl, rfl⟩)
      go_round
      case rel => exact ⟨k + 1, by omega, by omega, by go_num⟩
      case measure => simp [intOf]; omega
    · obtain rfl : k = 32 := by omega
      go_wp2
      go_loop [11, 12] (fun o i => ∃ j : Nat, j ≤ 64 ∧ i = .int .i64 ((j : Int) - 1) ∧ o = .int .u64 ((P / 2 ^ j : Nat) : Int)) (fun _ i => (intOf i + 1).toNat)
      case atStart => exact ⟨64, Nat.le_refl _, rfl, by rw [Nat.div_eq_of_lt hP']; rfl⟩
      case round =>
        obtain ⟨j, hj, rfl, rfl⟩ := hrel
        by_cases hlt2 : 0 < j
        · have hs := put_step P j hlt2
          have hbit := put_bit W A S v HB.out (j - 1)
          rw [← HP.out] at hbit
          have hQ : P / 2 ^ (j - 1) < 18446744073709551616 := Nat.lt_of_le_of_lt (Nat.div_le_self _ _) hP'
          have B := bit_any W (j - 1) hW (by omega) w
          rw [show ((j - 1 : Nat) : Int) = (j : Int) - 1 by omega] at B
          have hj0 : (0 : Int) ≤ (j : Int) - 1 := by omega
          have hm : W / 2 ^ (j - 1) % 2 < 2 := Nat.mod_lt _ (by decide)
          by_cases hin : A ≤ j - 1 ∧ j - 1 < A + S
          · rw [if_pos hin] at hbit
            have C := bit_any v (j - 1 - A) (by omega) (by omega) w
            rw [show ((j - 1 - A : Nat) : Int) = (j : Int) - 1 - A by omega] at C
            have t1 : (A : Int) ≤ (j : Int) - 1 := by omega
            have t2 : (j : Int) - 1 < (A : Int) + (S : Int) := by omega
            rw [← hbit] at C
            clear hbit hin
            generalize W / 2 ^ (j - 1) % 2 = b at *
            have HM : Hid (P / 2 ^ (j - 1) % 2 < 2) := Nat.mod_lt _ (by decide)
            generalize P / 2 ^ (j - 1) % 2 = c at *
            generalize P / 2 ^ j = O at *
            have hc := HM.out
            have hO : O < 9223372036854775808 := by omega
            have HS : Hid (2 * O + c = P / 2 ^ (j - 1)) := hs
            clear hs HM
            go_wp2_with (first
              | (go_at_call 35; (with_reducible refine B.mono ?_); rintro e w' ⟨rfl, rfl⟩)
              | (go_at_call 35; (with_reducible refine C.mono ?_); rintro e w' ⟨rfl, rfl⟩))
            go_round
            case rel => exact ⟨j - 1, by omega, by rw [show ((j - 1 : Nat) : Int) = (j : Int) - 1 by omega], by rw [← HS.out]; go_num⟩
            case measure => simp [intOf]; omega
          · rw [if_neg hin] at hbit
            rw [← hbit] at B
            clear hbit
            have HM : Hid (P / 2 ^ (j - 1) % 2 < 2) := Nat.mod_lt _ (by decide)
            clear hm
            generalize P / 2 ^ (j - 1) % 2 = c at *
            generalize P / 2 ^ j = O at *
            have hc := HM.out
            have hO : O < 9223372036854775808 := by omega
            have HS : Hid (2 * O + c = P / 2 ^ (j - 1)) := hs
            clear hs HM
            by_cases t1 : (A : Int) ≤ (j : Int) - 1
            all_goals
              go_wp2_with (go_at_call 35; (with_reducible refine B.mono ?_); rintro e w' ⟨rfl, rfl⟩)
              go_round
              case rel => exact ⟨j - 1, by omega, by rw [show ((j - 1 : Nat) : Int) = (j : Int) - 1 by omega], by rw [← HS.out]; go_num⟩
              case measure => simp [intOf]; omega
        · obtain rfl : j = 0 := by omega
          rw [Nat.pow_zero, Nat.div_one]
          go_wp2
          go_ret2
          exact ⟨rfl, rfl⟩
end Go.Proofs.Ytockjijhckkicaa
