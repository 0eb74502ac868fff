/-
  The walks of Len, limit, place, Counts and Room over known cells.
-/
import Derived.Test.YtpmkpjnhdehnhaaProg
import Derived.WalkKit
import Derived.BigQuiet
import Derived.Deep.QuietTactic
import Derived.WalkSpells
import Derived.WalkLawsBesides
import Derived.KernelRfl
namespace Go.Proofs.Ytpmkpjnhdehnhaa.RP
open Go.RowKit

theorem ret_int {k : IntKind} {a b : Int} (h : a = b) : Ending.returned (.int k a) = .returned (.int k b) := by rw [h]

theorem len_any (b : Nat) (i o : Int) (w : World)
    (h2 : w.cell? ⟨b, 2, none⟩ = some (.int .u32 i)) (h3 : w.cell? ⟨b, 3, none⟩ = some (.int .u32 o)) :
    Calls Try.prog 37 #[.pointer (some ⟨b, 0, none⟩)] w fun e w' => e = .returned (.int .i64 ((i - o) % 4294967296)) ∧ ∃ n, w' = w.drewN n := by
  go_enter Try.func37, Try.ntmps37
  go_wp2
  go_quiet (fail)
  go_wp2
  go_ret
  exact ⟨rfl, _, rfl⟩

theorem limit_any (b : Nat) (r : Int) (w : World)
    (h0 : w.cell? ⟨b, 0, none⟩ = some (.int .i64 r)) :
    Calls Try.prog 38 #[.pointer (some ⟨b, 0, none⟩)] w fun e w' => e = .returned (.int .i64 (min (max r 1) 4096)) ∧ w = w' := by
  go_enter Try.func38, Try.ntmps38
  go_wp2
  all_goals go_ret
  all_goals exact ⟨ret_int (by omega), rfl⟩

theorem and_mod (c : Int) (m : Nat) (h0 : 0 ≤ c) (h1 : c < 4294967296) (k : Nat) (hk : m = 2 ^ k) (hm2 : m ≤ 4096) :
    bits .and .u32 c (IntKind.u32.wrap (IntKind.i64.wrap ((m : Int) - 1))) = (((c % m).toNat : Nat) : Int) := by
  have hm : 0 < m := by rw [hk]; exact Nat.two_pow_pos k
  have e1 : IntKind.u32.wrap (IntKind.i64.wrap ((m : Int) - 1)) = ((m - 1 : Nat) : Int) := by
    simp only [IntKind.wrap, IntKind.bits, IntKind.signed]; simp; split <;> omega
  obtain ⟨c', rfl⟩ := Int.eq_ofNat_of_zero_le h0
  rw [e1]
  have e2 := u32_and_nat c' (m - 1) (by omega) (by omega)
  rw [e2, hk, Nat.and_two_pow_sub_one_eq_mod, ← hk]
  congr 1

theorem place_any (b pb m k : Nat) (c : Int) (w : World) (h0c : 0 ≤ c) (h1c : c < 4294967296) (hk : m = 2 ^ k) (hm2 : m ≤ 4096)
    (h1 : w.cell? ⟨b, 1, none⟩ = some (.slice (some ⟨pb, 0, none⟩) m m)) :
    Calls Try.prog 42 #[.pointer (some ⟨b, 0, none⟩), .int .u32 c] w fun e w' => e = .returned (.pointer (some ⟨pb, (c % m).toNat * 4, none⟩)) ∧ ∃ n, w' = w.drewN n := by
  have hm : 0 < m := by rw [hk]; exact Nat.two_pow_pos k
  have hb := and_mod c m h0c h1c k hk hm2
  have hq : (((c % m).toNat : Nat) : Int) < m := by have := Int.emod_lt_of_pos c (b := (m : Int)) (by omega); omega
  clear hk
  generalize (c % m).toNat = q at *
  go_enter Try.func42, Try.ntmps42
  go_wp2
  go_quiet (fail)
  go_wp2
  go_ret
  exact ⟨rfl, _, rfl⟩

theorem room_any (b : Nat) (r i o : Int) (l : Bool) (w : World)
    (h0 : w.cell? ⟨b, 0, none⟩ = some (.int .i64 r))
    (h2 : w.cell? ⟨b, 2, none⟩ = some (.int .u32 i)) (h3 : w.cell? ⟨b, 3, none⟩ = some (.int .u32 o)) (h4 : w.cell? ⟨b, 4, none⟩ = some (.bool l)) :
    Calls Try.prog 32 #[.pointer (some ⟨b, 0, none⟩)] w fun e w' => e = .returned (.int .i64 (min (max r 1) 4096 - ((i - o) % 4294967296 + if l then 1 else 0))) ∧ ∃ n, w' = w.drewN n := by
  have hb : 0 ≤ (i - o) % 4294967296 ∧ (i - o) % 4294967296 < 4294967296 := by omega
  obtain ⟨hb1, hb2⟩ := hb
  have hl1 : 1 ≤ min (max r 1) 4096 := by omega
  have hl2 : min (max r 1) 4096 ≤ 4096 := by omega
  have L := len_any b i o w h2 h3
  have K := fun n => limit_any b r (w.drewN n) (by simpa using h0)
  generalize (i - o) % 4294967296 = d at *
  generalize min (max r 1) 4096 = t at *
  go_enter Try.func32, Try.ntmps32
  cases l
  all_goals
    go_wp2_with (first
      | (go_at_call 37; refine L.mono ?_; rintro e w' ⟨rfl, n, rfl⟩)
      | (go_at_call 38; refine (K _).mono ?_; rintro e w' ⟨rfl, rfl⟩))
    go_ret
    refine ⟨ret_int (by simp), _, rfl⟩

end Go.Proofs.Ytpmkpjnhdehnhaa.RP
