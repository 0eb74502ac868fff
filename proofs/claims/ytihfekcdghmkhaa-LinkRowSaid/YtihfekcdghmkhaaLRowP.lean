/-
  Words in their row: plain mathematics.
-/
import Derived.Test.YtihfekcdghmkhaaLSumP
namespace Go.Proofs.Ytihfekcdghmkhaa
open RC (Cl zc)

/-- The ring holds what was sent and not yet carried. -/
structure RowInv (N : Nat) (S : LS) (sent : List Cl) (nn : Nat) : Prop where
  ok : Ok S
  n : S.n = N
  ws : S.ws = sent.drop nn
  le : nn ≤ sent.length
theorem RowInv.new {N : Nat} (h1 : 1 ≤ N) (h2 : N ≤ 8) (b c : Int) : RowInv N (newS N b c) [] 0 := ⟨Ok.new _ _ _, cl1_id h1 h2, rfl, Nat.le_refl _⟩
theorem RowInv.send {N : Nat} {S : LS} {sent : List Cl} {nn : Nat} (h : RowInv N S sent nn) (q : Nat) (x : Int) :
    ((sendF S q x).2 = 0 ∧ RowInv N (sendF S q x).1 (sent ++ [⟨(q : Int), x⟩]) nn) ∨ ((sendF S q x).2 ≠ 0 ∧ RowInv N (sendF S q x).1 sent nn) := by
  have ho := h.ok.send q x
  have hn := (send_n S q x).1
  unfold sendF at ho hn ⊢
  split
  · split
    · exact Or.inr ⟨by simp, h⟩
    · split
      · exact Or.inr ⟨by simp, h⟩
      · rename_i h1 h2 h3
        rw [if_pos h1, if_neg h2, if_neg h3] at ho hn
        refine Or.inl ⟨rfl, ho, hn.trans h.n, ?_, by simp; have := h.le; omega⟩
        simp only [putS, Int.toNat_natCast]
        rw [h.ws, List.drop_append_of_le_length h.le]
  · exact Or.inr ⟨by simp, h⟩
theorem RowInv.carry {N : Nat} {S : LS} {sent : List Cl} {nn : Nat} (h : RowInv N S sent nn) :
    (∃ S' c, carryF S = (S', c, 0) ∧ nn < sent.length ∧ sent[nn]? = some c ∧ RowInv N S' sent (nn + 1)) ∨ (carryF S = (S, zc, 8) ∧ nn = sent.length) := by
  have ho := h.ok.carry
  have hn := (carry_n S).1
  have hle := h.le
  by_cases hlt : nn < sent.length
  · left
    have e : S.ws = sent[nn] :: sent.drop (nn + 1) := by rw [h.ws, List.drop_eq_getElem_cons hlt]
    unfold carryF at ho hn ⊢
    rw [e] at ho hn ⊢
    exact ⟨_, _, rfl, hlt, List.getElem?_eq_getElem hlt, ho, hn.trans h.n, rfl, by omega⟩
  · right
    have e : S.ws = [] := by rw [h.ws]; exact List.drop_eq_nil_of_le (by omega)
    unfold carryF
    rw [e]
    exact ⟨rfl, by omega⟩
theorem RowInv.taken {N : Nat} {S : LS} {sent : List Cl} {nn : Nat} (h : RowInv N S sent nn) (k : Int) : RowInv N (takenF S k).1 sent nn := by
  refine ⟨h.ok.taken k, (taken_n S k).1.trans h.n, ?_, h.le⟩
  unfold takenF
  split
  · split
    · exact h.ws
    · exact h.ws
  · exact h.ws
theorem RowInv.credit {N : Nat} {S : LS} {sent : List Cl} {nn : Nat} (h : RowInv N S sent nn) : RowInv N (creditF S).1 sent nn := by
  refine ⟨h.ok.credit, (credit_n S).1.trans h.n, ?_, h.le⟩
  unfold creditF
  cases S.bk <;> exact h.ws
/-- One step of the four. -/
theorem RowInv.step {N : Nat} {S : LS} {sent : List Cl} {nn : Nat} (h : RowInv N S sent nn) {kk : Nat} (hk : kk < 4) (q : Nat) (x : Int) {S1 : LS} {c : Cl} {er : Int} (hr : stepF S kk q x = (S1, c, er)) :
    (kk = 0 ∧ er = 0 ∧ RowInv N S1 (sent ++ [⟨(q : Int), x⟩]) nn) ∨ (kk = 0 ∧ er ≠ 0 ∧ RowInv N S1 sent nn) ∨ (kk = 1 ∧ er = 0 ∧ nn < sent.length ∧ sent[nn]? = some c ∧ RowInv N S1 sent (nn + 1)) ∨ (kk = 1 ∧ er = 8 ∧ nn = sent.length ∧ RowInv N S1 sent nn) ∨ (2 ≤ kk ∧ RowInv N S1 sent nn) := by
  rcases (show kk = 0 ∨ kk = 1 ∨ kk = 2 ∨ kk = 3 by omega) with rfl | rfl | rfl | rfl
  · simp only [stepF, Prod.mk.injEq] at hr
    obtain ⟨rfl, -, rfl⟩ := hr
    rcases h.send q x with h1 | h1
    · exact Or.inl ⟨rfl, h1⟩
    · exact Or.inr (Or.inl ⟨rfl, h1⟩)
  · simp only [stepF] at hr
    rcases h.carry with ⟨S', c', e, h1⟩ | ⟨e, h1⟩
    · rw [e] at hr
      simp only [Prod.mk.injEq] at hr
      obtain ⟨rfl, rfl, rfl⟩ := hr
      exact Or.inr (Or.inr (Or.inl ⟨rfl, rfl, h1⟩))
    · rw [e] at hr
      simp only [Prod.mk.injEq] at hr
      obtain ⟨rfl, rfl, rfl⟩ := hr
      exact Or.inr (Or.inr (Or.inr (Or.inl ⟨rfl, rfl, h1, h⟩)))
  · simp only [stepF, Prod.mk.injEq] at hr
    obtain ⟨rfl, -, rfl⟩ := hr
    exact Or.inr (Or.inr (Or.inr (Or.inr ⟨by omega, h.taken q⟩)))
  · simp only [stepF, Prod.mk.injEq] at hr
    obtain ⟨rfl, -, rfl⟩ := hr
    exact Or.inr (Or.inr (Or.inr (Or.inr ⟨by omega, h.credit⟩)))
end Go.Proofs.Ytihfekcdghmkhaa
