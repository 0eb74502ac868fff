/-
  The walk of the law's few. (Written by gen_nfew.py.)
-/
import Derived.Test.YtoejpngdkcnnhaaNcBack
namespace Go.Proofs.Ytoejpngdkcnnhaa
open Go.RowKit

set_option maxRecDepth 100000 in
theorem few_any (s : Int) (c : Bool) (a : Option Addr) (cap : Nat) (x : ByteArray) (hs : List (Int × Int)) (w : World) (hc : hs.length ≤ cap) (hm : cap ≤ maxLen) (hx : x.size ≤ maxLen) :
    Calls Try.prog 22 #[pcv s c (.slice a hs.length cap) x] w fun e w' => ∃ x', e = .returned (pcv s c (.slice a (hs.take 8).length cap) x') ∧ x'.size ≤ 70 ∧ Below w.heap.size w w' := by
  rw [List.length_take]
  obtain ⟨n, hn⟩ : ∃ n, hs.length = n := ⟨_, rfl⟩
  rw [hn] at hc ⊢
  unfold maxLen at hm hx
  have B0 := two_blocks w #[.int .i64 s, .bool c, .slice a n cap, .string x] #[.int .i64 0, .bool false, .slice none 0 0, .string ByteArray.empty] 34 34
  obtain ⟨m, hm8⟩ : ∃ m, min 8 n = m := ⟨_, rfl⟩
  rw [hm8]
  have c1 : (n : Int) ≤ (cap : Int) := by omega
  have c2 : (cap : Int) ≤ 9223372036854775807 := by omega
  have c3 : (x.size : Int) ≤ 9223372036854775807 := by omega
  have c4 : (0 : Int) ≤ (x.size : Int) := by omega
  simp only [pcv, pcc] at *
  by_cases h1 : n ≤ 8
  · obtain rfl : n = m := by omega
    have d1 : (n : Int) ≤ 8 := by omega
    have d2 : ¬ (8 : Int) < (n : Int) := by omega
    clear hn
    by_cases h2 : x.size ≤ 70
    · have hX : x.size ≤ 70 := h2
      have d3 : (x.size : Int) ≤ 70 := by omega
      have d4 : ¬ (70 : Int) < (x.size : Int) := by omega
      go_enter Try.func22, Try.ntmps22
      go_wp2
      exact bodyPost_ret (v := .agg #[.int .i64 s, .bool c, .slice a n cap, .string x]) (by simp [results, Try.results22, go_sem]; try rfl) rfl ⟨x, rfl, hX, ((Below.refl _ _).alloc (Nat.le_refl _) _).alloc (by simp) _⟩
    · have hX : (x.extract 0 70).size ≤ 70 := by rw [ByteArray.size_extract]; omega
      have d3 : ¬ (x.size : Int) ≤ 70 := by omega
      have d4 : (70 : Int) < (x.size : Int) := by omega
      have d6 : (70 : Int) ≤ (x.size : Int) := by omega
      go_enter Try.func22, Try.ntmps22
      go_wp2
      exact bodyPost_ret (v := .agg #[.int .i64 s, .bool c, .slice a n cap, .string (x.extract 0 70)]) (by simp [results, Try.results22, go_sem]; try rfl) rfl ⟨(x.extract 0 70), rfl, hX, ((Below.refl _ _).alloc (Nat.le_refl _) _).alloc (by simp) _⟩
  · obtain rfl : 8 = m := by omega
    have d1 : ¬ (n : Int) ≤ 8 := by omega
    have d2 : (8 : Int) < (n : Int) := by omega
    have d5 : (8 : Int) ≤ (cap : Int) := by omega
    clear hn
    by_cases h2 : x.size ≤ 70
    · have hX : x.size ≤ 70 := h2
      have d3 : (x.size : Int) ≤ 70 := by omega
      have d4 : ¬ (70 : Int) < (x.size : Int) := by omega
      go_enter Try.func22, Try.ntmps22
      go_wp2
      exact bodyPost_ret (v := .agg #[.int .i64 s, .bool c, .slice a 8 cap, .string x]) (by simp [results, Try.results22, go_sem]; try rfl) rfl ⟨x, rfl, hX, ((Below.refl _ _).alloc (Nat.le_refl _) _).alloc (by simp) _⟩
    · have hX : (x.extract 0 70).size ≤ 70 := by rw [ByteArray.size_extract]; omega
      have d3 : ¬ (x.size : Int) ≤ 70 := by omega
      have d4 : (70 : Int) < (x.size : Int) := by omega
      have d6 : (70 : Int) ≤ (x.size : Int) := by omega
      go_enter Try.func22, Try.ntmps22
      go_wp2
      exact bodyPost_ret (v := .agg #[.int .i64 s, .bool c, .slice a 8 cap, .string (x.extract 0 70)]) (by simp [results, Try.results22, go_sem]; try rfl) rfl ⟨(x.extract 0 70), rfl, hX, ((Below.refl _ _).alloc (Nat.le_refl _) _).alloc (by simp) _⟩
end Go.Proofs.Ytoejpngdkcnnhaa
