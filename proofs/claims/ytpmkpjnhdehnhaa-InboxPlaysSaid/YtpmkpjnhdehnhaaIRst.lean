/-
  A number's rest, as a law takes it; sums of small numbers. No function in it.
-/
import Derived.Test.YtpmkpjnhdehnhaaFBase
namespace Go.Proofs.Ytpmkpjnhdehnhaa
open Go.RowKit

def irst (n : Int) (m : Nat) : Nat := (IntKind.u64.wrap n % (m : Int)).toNat
theorem irst_eq (n : Int) {m : Nat} (h0 : 0 < m) (h1 : m ≤ 65536) : irst n m < m ∧ wrap64 ((IntKind.u64.wrap n).tmod (m : Int)) = (irst n m : Int) := by
  have a0 : 0 ≤ IntKind.u64.wrap n := by rw [IntKind.wrap_u64]; exact Int.emod_nonneg _ (by decide)
  have e : (IntKind.u64.wrap n).tmod (m : Int) = IntKind.u64.wrap n % (m : Int) := Int.tmod_eq_emod_of_nonneg a0
  have a1 := Int.emod_nonneg (IntKind.u64.wrap n) (show (m : Int) ≠ 0 by omega)
  have a2 := Int.emod_lt_of_pos (IntKind.u64.wrap n) (show (0 : Int) < (m : Int) by omega)
  unfold irst
  rw [e, IntWalk.wrap64_in _ (by omega)]
  omega
end Go.Proofs.Ytpmkpjnhdehnhaa
