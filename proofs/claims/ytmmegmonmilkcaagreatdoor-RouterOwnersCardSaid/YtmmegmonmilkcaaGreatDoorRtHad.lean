/-
  How many lanes each one has, as cells; who has a lane, in numbers.
-/
import Derived.Test.YtmmegmonmilkcaaGreatDoorRtBase
import Derived.Test.YtmmegmonmilkcaaGreatDoorRtObj
import Derived.Laws.MakeOwn
namespace Go.Proofs.YtmmegmonmilkcaaGreatDoor
open Go.RowKit

/-- How many of the first k lanes that go out each one has, as cells. -/
def hadA (S : RS) (N k : Nat) : Array Value := ((List.range N).map fun m => Value.int .i64 (hadN S k m : Int)).toArray
theorem hadA_at {S : RS} {N k m : Nat} (h : m < N) : (hadA S N k)[m]? = some (.int .i64 (hadN S k m : Int)) := by
  unfold hadA
  simp [h]
theorem hadA_size (S : RS) (N k : Nat) : (hadA S N k).size = N := by simp [hadA]
theorem hadA_ext {S : RS} {N k : Nat} {B : Array Value} (hs : B.size = N) (h : ∀ m, m < N → B[m]? = some (.int .i64 (hadN S k m : Int))) : B = hadA S N k := by
  apply Array.ext
  · rw [hs, hadA_size]
  · intro m h1 h2
    have hm : m < N := by rw [← hs]; exact h1
    have e1 := h m hm
    have e2 := hadA_at (S := S) (k := k) hm
    rw [Array.getElem?_eq_getElem h1] at e1
    rw [Array.getElem?_eq_getElem h2] at e2
    rw [Option.some.inj e1, Option.some.inj e2]
theorem made_had (S : RS) (N : Nat) : madeCells #[Value.int .i64 0] (N * 1) = hadA S N 0 := by
  apply hadA_ext
  · simp [madeCells]
  · intro m hm
    rw [hadN_zero, Array.getElem?_eq_getElem (by simpa [madeCells] using hm)]
    simp [madeCells, Nat.mod_one]
theorem hadA_none {S : RS} {N k : Nat} (h : S.own.getD k 0 < 0) : hadA S N (k + 1) = hadA S N k := by
  unfold hadA
  congr 1
  refine List.map_congr_left fun m _ => ?_
  rw [hadN_succ, if_neg (by omega), Nat.add_zero]
theorem hadA_step {S : RS} (ok : ROk S) {N k m : Nat} (hk : k < 5 * S.n) (hm : m < N) (h : S.own.getD k 0 = (m : Int)) : (hadA S N k).setIfInBounds m (.int .i64 1) = hadA S N (k + 1) := by
  apply hadA_ext
  · simp [hadA_size]
  · intro q hq
    rw [hadN_succ, Array.getElem?_setIfInBounds]
    by_cases e : m = q
    · subst e
      rw [if_pos rfl, if_pos (by rw [hadA_size]; exact hm), if_pos h, hadN_none ok hk h]
      rfl
    · rw [if_neg e, if_neg (by rw [h]; omega), Nat.add_zero]
      exact hadA_at hq
theorem inRt_nat {S : RS} {a b : Nat} (ha : a < 5) (hb : b < S.n) : inRt S (a : Int) (b : Int) = true := inRt_iff.2 ⟨by omega, by omega, by omega, by omega⟩
/-- Who has a lane: by its place. -/
theorem owner_at {S : RS} (ok : ROk S) {k : Nat} (hk : k < 5 * S.n) : ownerRt S ((k / S.n : Nat) : Int) ((k % S.n : Nat) : Int) = if 0 ≤ S.own.getD k 0 then ((S.own.getD k 0).toNat / S.n, (S.own.getD k 0).toNat % S.n, true) else (0, 0, false) := by
  have hn := ok.n1
  have h5 : k / S.n < 5 := Nat.div_lt_of_lt_mul (by rw [Nat.mul_comm]; exact hk)
  have hm : k % S.n < S.n := Nat.mod_lt _ hn
  have hin : inRt S ((k / S.n : Nat) : Int) ((k % S.n : Nat) : Int) = true := inRt_nat h5 hm
  have hix : ixRt S ((k / S.n : Nat) : Int) ((k % S.n : Nat) : Int) = k := by
    unfold ixRt
    rw [Int.toNat_natCast, Int.toNat_natCast, Nat.mul_comm]
    exact Nat.div_add_mod k S.n
  unfold ownerRt
  rw [hin, hix]
  by_cases e : 0 ≤ S.own.getD k 0
  · rw [if_pos ⟨rfl, e⟩, if_pos e]
  · rw [if_neg (fun c => e c.2), if_neg e]
/-- What the law asks of who has a lane. -/
theorem had_facts {cl : Nat → Bool} {S : RS} (ok : ROk S) (sc : RCl cl S) {k : Nat} (hk : k < 5 * S.n) (h0 : 0 ≤ S.own.getD k 0) :
    ∃ m : Nat, S.own.getD k 0 = (m : Int) ∧ m < 5 * S.n ∧ S.n ≤ k ∧ hadN S k m = 0 ∧ (m / S.n) * S.n + m % S.n = m ∧ m / S.n < 5 ∧ m % S.n < S.n ∧ cl (k % S.n) = cl (m % S.n) ∧
      inRt S ((m / S.n : Nat) : Int) ((m % S.n : Nat) : Int) = true ∧ (S.ins.getD (ixRt S ((m / S.n : Nat) : Int) ((m % S.n : Nat) : Int)) zks).ph = 2 := by
  have hn := ok.n1
  obtain ⟨-, h⟩ := ok.oi k hk
  obtain ⟨a1, a2, a3, a4, a5⟩ := h h0
  obtain ⟨m, hm⟩ : ∃ m : Nat, S.own.getD k 0 = (m : Int) := ⟨(S.own.getD k 0).toNat, by omega⟩
  have hm5 : m < 5 * S.n := by omega
  have h5 : m / S.n < 5 := Nat.div_lt_of_lt_mul (by rw [Nat.mul_comm]; exact hm5)
  have hml : m % S.n < S.n := Nat.mod_lt _ hn
  have hq : (m / S.n) * S.n + m % S.n = m := by rw [Nat.mul_comm]; exact Nat.div_add_mod m S.n
  have hc := sc k hk h0
  rw [hm, Int.toNat_natCast] at a3 hc
  refine ⟨m, hm, hm5, a2, hadN_none ok hk hm, hq, h5, hml, hc, inRt_nat h5 hml, ?_⟩
  have hix : ixRt S ((m / S.n : Nat) : Int) ((m % S.n : Nat) : Int) = m := by
    unfold ixRt
    rw [Int.toNat_natCast, Int.toNat_natCast]
    exact hq
  rw [hix]
  exact a3
end Go.Proofs.YtmmegmonmilkcaaGreatDoor
