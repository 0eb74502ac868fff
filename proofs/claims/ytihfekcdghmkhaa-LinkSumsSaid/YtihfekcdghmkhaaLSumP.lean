/-
  Sums are the depth: plain mathematics.
-/
import Derived.Test.YtihfekcdghmkhaaLDrainP
namespace Go.Proofs.Ytihfekcdghmkhaa
open RC (Cl zc)

structure Sm (N D Z : Nat) (S : LS) : Prop extends Dr N D S where
  r : S.r = Z
theorem Sm.step {N D Z : Nat} {S : LS} (h : Sm N D Z S) (kd : Nat) (k x : Int) : Sm N D Z (stepF S kd k x).1 := ⟨h.toDr.step kd k x, (step_n S kd k x).2.2.trans h.r⟩
theorem Sm.new {N D Z : Nat} (h1 : 1 ≤ N) (h2 : N ≤ 8) (h3 : 1 ≤ D) (h4 : D ≤ 64) (h5 : 1 ≤ Z) (h6 : Z ≤ 64) : Sm N D Z (newS N D Z) := ⟨Dr.new h1 h2 h3 h4 Z, cl1_id h5 h6⟩
/-- A word is sent just where it may be. -/
theorem Sm.may {N D Z : Nat} {S : LS} (h : Sm N D Z S) {q : Nat} (hq : q < N) (x : Int) : decide ((sendF S q x).2 = 0) = mayS S q := by
  have hin : inL S (q : Int) = true := inL_mk (by rw [h.n]; exact hq)
  have hs := h.ok.sum q (by rw [h.n]; exact hq)
  unfold sendF mayS
  rw [hin, if_pos rfl, Int.toNat_natCast]
  by_cases hz : S.cr.getD q 0 = 0
  · rw [if_pos hz, decide_eq_false (by omega : ¬ (0 : Int) < S.cr.getD q 0)]
    simp
  · rw [if_neg hz, decide_eq_true (by omega : (0 : Int) < S.cr.getD q 0)]
    by_cases hf : S.r ≤ S.ws.length
    · rw [if_pos hf, decide_eq_false (by omega : ¬ S.ws.length < S.r)]
      simp
    · rw [if_neg hf, decide_eq_true (by omega : S.ws.length < S.r)]
      simp
/-- A lane's four numbers. -/
theorem Sm.four {N D Z : Nat} {S : LS} (h : Sm N D Z S) {k : Nat} (hk : k < N) : ∃ c r : Int, ∃ f m : Nat, hasN S.cr (k : Int) = c ∧ fly S.ws (k : Int) = f ∧ hasN S.far (k : Int) = r ∧ com S.bk (k : Int) = m ∧ 0 ≤ c ∧ 0 ≤ r ∧ c + (f : Int) + r + (m : Int) = (D : Int) ∧ sumS S k = (D : Int) := by
  have hkn : k < S.n := by rw [h.n]; exact hk
  obtain ⟨h1, h2, h3⟩ := h.ok.sum k hkn
  rw [h.d] at h3
  refine ⟨_, _, _, _, hasN_at h.ok.cl hkn, rfl, hasN_at h.ok.fl hkn, rfl, h1, h2, h3, ?_⟩
  unfold sumS
  rw [hasN_at h.ok.cl hkn, hasN_at h.ok.fl hkn]
  exact h3
/-- The words of the lanes ahead of k. -/
def TN (S : LS) (k : Nat) : Nat := ((List.range k).map fun q : Nat => fly S.ws (q : Int)).sum
theorem TN_zero (S : LS) : TN S 0 = 0 := rfl
theorem TN_succ (S : LS) (k : Nat) : TN S (k + 1) = TN S k + fly S.ws (k : Int) := by
  unfold TN
  rw [List.range_succ, List.map_append, List.sum_append]
  simp
theorem fly_com (l : List Cl) (k : Int) : fly l k = com (l.map fun c => c.lane) k := by
  induction l with
  | nil => rfl
  | cons c l ih => rw [List.map_cons, fly_cons, com_cons, ih]
theorem Sm.total {N D Z : Nat} {S : LS} (h : Sm N D Z S) : TN S N ≤ Z := by
  have e : TN S N = S.ws.length := by
    unfold TN
    rw [show (fun q : Nat => fly S.ws (q : Int)) = fun q : Nat => com (S.ws.map fun c => c.lane) (q : Int) from funext fun q => fly_com _ _, com_total N _ fun k hk => ?_, List.length_map]
    obtain ⟨c, hc, rfl⟩ := List.mem_map.1 hk
    have := inL_iff.1 (h.ok.wi c hc)
    rw [h.n] at this
    exact this
  rw [e, ← h.r]
  exact h.ok.wl
theorem Sm.part {N D Z : Nat} {S : LS} (h : Sm N D Z S) {k : Nat} (hk : k ≤ N) : TN S k ≤ k * D := by
  refine sum_le D k _ fun q hq => ?_
  obtain ⟨c, r, f, m, _, h2, _, _, h5, h6, h7, _⟩ := h.four (k := q) (by omega)
  rw [h2]
  omega
end Go.Proofs.Ytihfekcdghmkhaa
