/-
  Which lanes are for packets for several; a lane's steps keep Local's lane 0 (plain mathematics).
-/
import Derived.Test.YtmmegmonmilkcaaGreatDoorRtRep
namespace Go.Proofs.YtmmegmonmilkcaaGreatDoor
open Go.RowKit

/-- Is a lane of the class of packets for several? -/
def sevB (c : G.Cf) (l : Int) : Bool := decide ((G.cla c true).1 ≤ l) && decide (l < (G.cla c true).1 + (G.cla c true).2)
theorem sev_class {c : G.Cf} (h : G.chk c = 0) (h1 : 1 ≤ c.l) {n : Nat} (hn : (n : Int) = c.l) {i l : Nat} (hi : i < n) (hl : l < n) :
    (sevB c (i : Int) == sevB c (l : Int)) = decide ((clsR c l).1 ≤ i ∧ i < (clsR c l).1 + (clsR c l).2) := by
  unfold sevB clsR G.cla
  simp only [if_pos h, if_true]
  by_cases ca : c.ca = true
  · simp only [ca, if_true, Bool.true_and]
    by_cases e2 : (l : Int) = c.l - 1
    · rw [decide_eq_true e2]
      simp only [if_true]
      have a1 : (decide (c.l - 1 ≤ (l : Int)) && decide ((l : Int) < c.l - 1 + 1)) = true := by
        rw [decide_eq_true (by omega), decide_eq_true (by omega)]; rfl
      rw [a1]
      by_cases e3 : (i : Int) = c.l - 1
      · rw [decide_eq_true (show c.l - 1 ≤ (i : Int) by omega), decide_eq_true (show (i : Int) < c.l - 1 + 1 by omega), decide_eq_true (by constructor <;> omega)]
        rfl
      · rw [decide_eq_false (show ¬ c.l - 1 ≤ (i : Int) by omega), decide_eq_false (show ¬ ((c.l - 1).toNat ≤ i ∧ i < (c.l - 1).toNat + (1 : Int).toNat) by omega)]
        rfl
    · rw [decide_eq_false e2]
      simp only [Bool.false_eq_true, if_false]
      rw [decide_eq_false (show ¬ c.l - 1 ≤ (l : Int) by omega)]
      by_cases e3 : (i : Int) = c.l - 1
      · rw [decide_eq_true (show c.l - 1 ≤ (i : Int) by omega), decide_eq_true (show (i : Int) < c.l - 1 + 1 by omega), decide_eq_false (show ¬ ((0 : Int).toNat ≤ i ∧ i < (0 : Int).toNat + (c.l - 1).toNat) by omega)]
        rfl
      · rw [decide_eq_false (show ¬ c.l - 1 ≤ (i : Int) by omega), decide_eq_true (show ((0 : Int).toNat ≤ i ∧ i < (0 : Int).toNat + (c.l - 1).toNat) by constructor <;> omega)]
        rfl
  · have cf : c.ca = false := by simpa using ca
    simp only [cf, Bool.false_and, Bool.false_eq_true, if_false]
    rw [decide_eq_true (show ((0 : Int).toNat ≤ i ∧ i < (0 : Int).toNat + c.l.toNat) by constructor <;> omega)]
    rw [decide_eq_false (show ¬ (i : Int) < 0 + 0 by omega), decide_eq_false (show ¬ (l : Int) < 0 + 0 by omega), Bool.and_false, Bool.and_false]
    rfl
theorem cla_in {c : G.Cf} (h : G.chk c = 0) (h1 : 1 ≤ c.l) (h8 : c.l ≤ 8) : 0 ≤ (G.cla c true).1 ∧ (G.cla c true).1 ≤ 8 ∧ 0 ≤ (G.cla c true).2 ∧ (G.cla c true).2 ≤ 8 := by
  unfold G.cla
  rw [if_pos h]
  split <;> simp <;> omega
/-- A lane's step keeps: a given one of Local is lane 0. -/
theorem lz_put {K : KS} {x : Nat} (h : K.ph = 2 → K.port = 0 → K.lane = 0) : (putK K x).1.ph = 2 → (putK K x).1.port = 0 → (putK K x).1.lane = 0 := by
  rw [(putK_sm K x).1, (putK_sm K x).2.1, (putK_sm K x).2.2]
  exact h
theorem lz_find {K : KS} {node P : Int} (h : K.ph = 2 → K.port = 0 → K.lane = 0) : (findK K node P).1.ph = 2 → (findK K node P).1.port = 0 → (findK K node P).1.lane = 0 := by
  unfold findK
  split
  · exact h
  · split
    · split
      · exact fun _ _ => rfl
      · split
        · intro h1
          exact absurd h1 (by simp)
        · exact h
    · exact h
theorem lz_give {K : KS} {k : Int} (hp : K.ph = 1 → 1 ≤ K.port) (h : K.ph = 2 → K.port = 0 → K.lane = 0) : (giveK K k).1.ph = 2 → (giveK K k).1.port = 0 → (giveK K k).1.lane = 0 := by
  unfold giveK
  split
  · rename_i h1
    intro _ h2
    have := hp h1
    have h3 : K.port = 0 := h2
    omega
  · exact h
theorem lz_take {K : KS} (h : K.ph = 2 → K.port = 0 → K.lane = 0) : (takeK K).1.ph = 2 → (takeK K).1.port = 0 → (takeK K).1.lane = 0 := by
  unfold takeK
  split
  · split
    · exact h
    · rename_i x t _
      show (nextK K x t).ph = 2 → (nextK K x t).port = 0 → (nextK K x t).lane = 0
      unfold nextK
      split
      · exact fun _ _ => rfl
      · split
        · exact fun _ _ => rfl
        · exact h
  · exact h
end Go.Proofs.YtmmegmonmilkcaaGreatDoor
