/-
  The walks of the document's Digits and Text.
-/
import Derived.Test.YtkebplapjkefiaaDoorText
namespace Go.Proofs.YtkebplapjkefiaaDoor
open Go.RowKit Go.Lib

abbrev ten : ByteArray := { data := #[48, 49, 50, 51, 52, 53, 54, 55, 56, 57] }
theorem ten_at : ∀ u : Fin 10, ten.extract u.val (u.val + 1) = bs [UInt8.ofNat (48 + u.val)] := by
  intro u
  apply ByteArray.ext
  revert u
  decide +kernel
theorem ten_nat (u : Nat) (h : u < 10) : ten.extract u (u + 1) = bs (decDigits u) := by
  rw [ten_at ⟨u, h⟩, decDigits_one h]

theorem ret_str {a b : ByteArray} (h : a = b) : Ending.returned (.string a) = .returned (.string b) := by rw [h]
theorem digits_small (u : Nat) (h : u < 10) (w : World) : Calls Tryd.prog 24 #[.int .i64 u] w fun e w' => e = .returned (.string (bs (decDigits u))) ∧ w = w' := by
  have h1 : ¬ ((u : Int) < 0) := by omega
  have h2 : (u : Int) < 10 := by omega
  have E : Hid (ten.extract u (u + 1) = bs (decDigits u)) := ten_nat u h
  clear h
  go_enter Tryd.func24, Tryd.ntmps24
  go_wp2
  go_ret
  exact ⟨ret_str E.out, rfl⟩

theorem digits_step (u q r : Nat) (hq : u / 10 = q) (hr : u % 10 = r) (h : ¬ u < 10) (hu : u ≤ 9223372036854775807) (K : ∀ w, Calls Tryd.prog 24 #[.int .i64 q] w fun e w' => e = .returned (.string (bs (decDigits q))) ∧ ∃ k, w' = w.drewN k) (w : World) :
    Calls Tryd.prog 24 #[.int .i64 u] w fun e w' => e = .returned (.string (bs (decDigits u))) ∧ ∃ k, w' = w.drewN k := by
  have h1 : ¬ ((u : Int) < 0) := by omega
  have h2 : ¬ (u : Int) < 10 := by omega
  have g1 : (u : Int) / 10 = (q : Int) := by omega
  have g2 : (u : Int) % 10 = (r : Int) := by omega
  have g3 : r < 10 := by omega
  have g4 : (0 : Int) ≤ (r : Int) := by omega
  have g5 : (r : Int) < 10 := by omega
  have ed : decDigits u = decDigits q ++ [UInt8.ofNat (48 + r)] := by rw [decDigits, dif_neg h, hq, hr]
  have hl : (decDigits q).length ≤ 20 := by
    rw [decDigits_length]
    exact nDigits_le20 q (by omega)
  have E := fun w => add_str (decDigits q) [UInt8.ofNat (48 + r)] (by simp; omega) w
  rw [← ed] at E
  have X : ten.extract r (r + 1) = bs [UInt8.ofNat (48 + r)] := ten_at ⟨r, g3⟩
  rw [← X] at E
  generalize bs (decDigits u) = s3 at *
  generalize bs (decDigits q) = s1 at *
  clear ed hl X hq hr h
  go_enter Tryd.func24, Tryd.ntmps24
  go_wp2
  go_quiet ((go_at_call 24; exact Calls.quiet_of (K _)))
  go_wp2
  go_ret
  exact ⟨rfl, _, rfl⟩

theorem digits_nat : ∀ (u : Nat), u ≤ 9223372036854775807 → ∀ w, Calls Tryd.prog 24 #[.int .i64 u] w fun e w' => e = .returned (.string (bs (decDigits u))) ∧ ∃ k, w' = w.drewN k := by
  intro u
  induction u using Nat.strongRecOn with
  | ind u ih =>
    intro hu w
    by_cases h : u < 10
    · exact (digits_small u h w).mono fun e w' ⟨he, hw⟩ => ⟨he, 0, hw.symm⟩
    · exact digits_step u (u / 10) (u % 10) rfl rfl h hu (ih (u / 10) (by omega) (by omega)) w

theorem digits_any (n : Int) (h : int64 n) (w : World) : Calls Tryd.prog 24 #[.int .i64 n] w fun e w' => e = .returned (.string (bs (itoa n))) ∧ ∃ k, w' = w.drewN k := by
  by_cases h0 : n < 0
  · by_cases hm : n < -9223372036854775807
    · obtain rfl : n = -9223372036854775808 := by have := h.1; omega
      have E : itoa (-9223372036854775808) = [45, 57, 50, 50, 51, 51, 55, 50, 48, 51, 54, 56, 53, 52, 55, 55, 53, 56, 48, 56] := by
        rw [itoa_min _ (by decide)]
        decide +kernel
      rw [E]
      go_enter Tryd.func24, Tryd.ntmps24
      go_wp2
      go_ret
      exact ⟨rfl, 0, rfl⟩
    · obtain ⟨u, rfl⟩ : ∃ u : Nat, n = -(u : Int) := ⟨(-n).toNat, by omega⟩
      have hu : u ≤ 9223372036854775807 := by omega
      have hu1 : 1 ≤ u := by omega
      have K := digits_nat u hu
      have ed : itoa (-(u : Int)) = [45] ++ decDigits u := by
        rw [itoa_min _ h0, show (-(-(u : Int))).toNat = u by omega]
        rfl
      have hl : (decDigits u).length ≤ 20 := by
        rw [decDigits_length]
        exact nDigits_le20 u (by omega)
      have E := fun w => add_str [45] (decDigits u) (by simp; omega) w
      rw [← ed] at E
      generalize bs (itoa (-(u : Int))) = s3 at *
      generalize bs (decDigits u) = s1 at *
      clear ed hl h
      have hb : (u : Int) ≤ 9223372036854775807 := by omega
      go_enter Tryd.func24, Tryd.ntmps24
      go_wp2_with (go_at_call 24; (with_reducible refine (K _).mono ?_); rintro e w' ⟨rfl, k, rfl⟩)
      go_ret
      exact ⟨rfl, _, rfl⟩
  · obtain ⟨u, rfl⟩ := Int.eq_ofNat_of_zero_le (by omega : 0 ≤ n)
    rw [itoa_nat _ (by omega)]
    have := digits_nat u (by have := h.2; omega) w
    simpa using this
end Go.Proofs.YtkebplapjkefiaaDoor
