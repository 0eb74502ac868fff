/-
  All credits come back: plain mathematics.
-/
import Derived.Test.YtihfekcdghmkhaaLBackP
namespace Go.Proofs.Ytihfekcdghmkhaa
open RC (Cl zc)

structure Dr (N D : Nat) (S : LS) : Prop where
  ok : Ok S
  n : S.n = N
  d : S.d = D
theorem carry_n (S : LS) : (carryF S).1.n = S.n ∧ (carryF S).1.d = S.d ∧ (carryF S).1.r = S.r := by unfold carryF; cases S.ws <;> exact ⟨rfl, rfl, rfl⟩
theorem credit_n (S : LS) : (creditF S).1.n = S.n ∧ (creditF S).1.d = S.d ∧ (creditF S).1.r = S.r := by unfold creditF; cases S.bk <;> exact ⟨rfl, rfl, rfl⟩
theorem send_n (S : LS) (k x : Int) : (sendF S k x).1.n = S.n ∧ (sendF S k x).1.d = S.d ∧ (sendF S k x).1.r = S.r := by
  unfold sendF
  split
  · split
    · exact ⟨rfl, rfl, rfl⟩
    · split <;> exact ⟨rfl, rfl, rfl⟩
  · exact ⟨rfl, rfl, rfl⟩
theorem taken_n (S : LS) (k : Int) : (takenF S k).1.n = S.n ∧ (takenF S k).1.d = S.d ∧ (takenF S k).1.r = S.r := by
  unfold takenF
  split
  · split <;> exact ⟨rfl, rfl, rfl⟩
  · exact ⟨rfl, rfl, rfl⟩
theorem step_n (S : LS) (kd : Nat) (k x : Int) : (stepF S kd k x).1.n = S.n ∧ (stepF S kd k x).1.d = S.d ∧ (stepF S kd k x).1.r = S.r := by
  unfold stepF
  split
  · exact send_n S k x
  · exact carry_n S
  · exact taken_n S k
  · exact credit_n S
theorem Dr.step {N D : Nat} {S : LS} (h : Dr N D S) (kd : Nat) (k x : Int) : Dr N D (stepF S kd k x).1 := ⟨h.ok.step kd k x, (step_n S kd k x).1.trans h.n, (step_n S kd k x).2.1.trans h.d⟩
theorem Dr.new {N D : Nat} (h1 : 1 ≤ N) (h2 : N ≤ 8) (h3 : 1 ≤ D) (h4 : D ≤ 64) (c : Int) : Dr N D (newS N D c) := ⟨Ok.new _ _ _, cl1_id h1 h2, cl1_id h3 h4⟩
theorem Dr.carry {N D i : Nat} {S : LS} (h : Dr N D S) (hl : S.ws.length ≤ 70 - i) : Dr N D (carryF S).1 ∧ (carryF S).1.ws.length ≤ 70 - (i + 1) := by
  refine ⟨⟨h.ok.carry, (carry_n S).1.trans h.n, (carry_n S).2.1.trans h.d⟩, ?_⟩
  unfold carryF
  cases e : S.ws with
  | nil => simp [e]
  | cons c t =>
    rw [e, List.length_cons] at hl
    show t.length ≤ _
    omega
/-- Lanes ahead of k have no word at the far end; lane k at most so many. -/
structure DrF (N D k m : Nat) (S : LS) : Prop extends Dr N D S where
  ws : S.ws = []
  less : ∀ p, p < k → p < N → S.far.getD p 0 = 0
  most : k < N → S.far.getD k 0 ≤ (m : Int)
theorem DrF.start {N D : Nat} {S : LS} (h : Dr N D S) (hl : S.ws.length ≤ 0) : DrF N D 0 D S := by
  refine ⟨h, List.eq_nil_of_length_eq_zero (Nat.le_zero.1 hl), fun p hp => absurd hp (Nat.not_lt_zero _), fun hk => ?_⟩
  have := h.ok.sum 0 (by rw [h.n]; exact hk)
  rw [h.d] at this
  omega
theorem DrF.next {N D k : Nat} {S : LS} (h : DrF N D k 0 S) (hk : k < N) : DrF N D (k + 1) D S := by
  refine ⟨h.toDr, h.ws, fun p hp hpN => ?_, fun hk1 => ?_⟩
  · rcases (by omega : p < k ∨ p = k) with h1 | rfl
    · exact h.less p h1 hpN
    · have := h.most hk
      have := h.ok.sum p (by rw [h.n]; exact hpN)
      omega
  · have := h.ok.sum (k + 1) (by rw [h.n]; exact hk1)
    rw [h.d] at this
    omega
theorem DrF.taken {N D k m : Nat} {S : LS} (h : DrF N D k (m + 1) S) (hk : k < N) : DrF N D k m (takenF S k).1 := by
  have h1 := h.ok.taken k
  have h2 := taken_n S k
  have hs := h.ok.sum k (by rw [h.n]; exact hk)
  have hm := h.most hk
  have hfl : k < S.far.length := by rw [h.ok.fl, h.n]; exact hk
  have hin : inL S (k : Int) = true := inL_mk (by rw [h.n]; exact hk)
  unfold takenF at h1 h2 ⊢
  rw [if_pos hin, Int.toNat_natCast] at h1 h2 ⊢
  by_cases hz : S.far.getD k 0 = 0
  · rw [if_pos hz] at h1 h2 ⊢
    exact ⟨h.toDr, h.ws, h.less, fun _ => by show S.far.getD k 0 ≤ _; omega⟩
  · rw [if_neg hz] at h1 h2 ⊢
    refine ⟨⟨h1, h2.1.trans h.n, h2.2.1.trans h.d⟩, h.ws, fun p hp hpN => ?_, fun _ => ?_⟩
    · show (S.far.set k _).getD p 0 = 0
      rw [getD_set_if _ _ _ _ hfl, if_neg (by omega)]
      exact h.less p hp hpN
    · show (S.far.set k _).getD k 0 ≤ _
      rw [getD_set_if _ _ _ _ hfl, if_pos rfl]
      omega
/-- Nothing in the ring, nothing at the far end; so many credits come back at most. -/
structure DrB (N D m : Nat) (S : LS) : Prop extends Dr N D S where
  ws : S.ws = []
  far : ∀ p, p < N → S.far.getD p 0 = 0
  most : S.bk.length ≤ m
theorem DrF.back {N D m : Nat} {S : LS} (h : DrF N D N m S) : DrB N D (N * D) S := ⟨h.toDr, h.ws, fun p hp => h.less p hp hp, by have := h.ok.bk_le; rw [h.n, h.d] at this; exact this⟩
theorem DrB.credit {N D m : Nat} {S : LS} (h : DrB N D (m + 1) S) : DrB N D m (creditF S).1 := by
  have h1 := h.ok.credit
  have h2 := credit_n S
  have hm := h.most
  unfold creditF at h1 h2 ⊢
  cases e : S.bk with
  | nil =>
    rw [e] at h1 h2
    exact ⟨h.toDr, h.ws, h.far, by rw [e]; simp⟩
  | cons c t =>
    rw [e] at h1 h2 hm
    exact ⟨⟨h1, h2.1.trans h.n, h2.2.1.trans h.d⟩, h.ws, h.far, by show t.length ≤ m; rw [List.length_cons] at hm; omega⟩
theorem DrB.all {N D : Nat} {S : LS} (h : DrB N D 0 S) {k : Nat} (hk : k < N) : hasN S.cr (k : Int) = D ∧ takenF S k = (S, 13) := by
  have hkn : k < S.n := by rw [h.n]; exact hk
  have hs := h.ok.sum k hkn
  have hb : S.bk = [] := List.eq_nil_of_length_eq_zero (Nat.le_zero.1 h.most)
  rw [h.ws, hb, h.far k hk, h.d, fly_nil, com_nil] at hs
  refine ⟨by rw [hasN_at h.ok.cl hkn]; omega, ?_⟩
  unfold takenF
  rw [if_pos (inL_mk hkn), Int.toNat_natCast, if_pos (h.far k hk)]
theorem DrB.done {N D : Nat} {S : LS} (h : DrB N D 0 S) : creditF S = (S, 8) ∧ idleS S = true := by
  have hb : S.bk = [] := List.eq_nil_of_length_eq_zero (Nat.le_zero.1 h.most)
  constructor
  · unfold creditF
    rw [hb]
  · unfold idleS
    rw [h.ws, hb, far_zero h.ok (fun p hp => h.far p (by rw [← h.n]; exact hp))]
    rfl
end Go.Proofs.Ytihfekcdghmkhaa
