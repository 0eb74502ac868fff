/-
  A config's text, and how a text is read: plain lists of bytes; no program in it.
-/
import Derived.Lib.ItoaNum
import Derived.Lib.Atoi
import Derived.Lib.IndexMore
import Derived.Lib.Join
import Derived.Lib.Strings
namespace Go.Proofs.YtkebplapjkefiaaDoor
open Go.Lib

abbrev L := List UInt8

/-! ### Digits -/
theorem decDigits_digit : ∀ (u : Nat), ∀ b ∈ decDigits u, 48 ≤ b.toNat ∧ b.toNat ≤ 57 := by
  intro u
  induction u using Nat.strongRecOn with
  | ind u ih =>
    intro b hb
    rw [decDigits] at hb
    split at hb
    · simp only [List.mem_singleton] at hb
      subst hb
      rw [UInt8.toNat_ofNat']
      omega
    · rw [List.mem_append] at hb
      rcases hb with hb | hb
      · exact ih (u / 10) (by omega) b hb
      · simp only [List.mem_singleton] at hb
        subst hb
        rw [UInt8.toNat_ofNat']
        omega

theorem decDigits_ne (u : Nat) : decDigits u ≠ [] := by
  intro h
  have := decDigits_length u
  have h2 := nDigits_pos u
  rw [h] at this
  simp at this
  omega

theorem decFrom_app : ∀ (a b : L) (acc : Nat), decFrom acc (a ++ b) = (decFrom acc a).bind fun m => decFrom m b
  | [], b, acc => rfl
  | x :: a, b, acc => by
    simp only [List.cons_append, decFrom]
    cases digitVal x with
    | none => rfl
    | some d => exact decFrom_app a b _

theorem digitVal_ofNat {d : Nat} (h : d < 10) : digitVal (UInt8.ofNat (48 + d)) = some d := by
  unfold digitVal
  rw [UInt8.toNat_ofNat']
  have e : (48 + d) % 2 ^ 8 = 48 + d := by omega
  rw [e, if_pos (by omega)]
  congr 1
  omega

theorem decFrom_decDigits : ∀ (u : Nat), decFrom 0 (decDigits u) = some u := by
  intro u
  induction u using Nat.strongRecOn with
  | ind u ih =>
    rw [decDigits]
    split
    · rename_i h
      simp only [decFrom, digitVal_ofNat h]
      simp
    · rw [decFrom_app, ih (u / 10) (by omega)]
      simp only [Option.bind, decFrom, digitVal_ofNat (show u % 10 < 10 by omega)]
      congr 1
      omega

theorem decNat_decDigits (u : Nat) : decNat (decDigits u) = some u := by
  unfold decNat
  rw [if_neg (by simpa using decDigits_ne u)]
  exact decFrom_decDigits u

theorem itoa_nat (n : Int) (h : 0 ≤ n) : itoa n = decDigits n.toNat := by unfold itoa; rw [if_neg (by omega)]
theorem itoa_min (n : Int) (h : n < 0) : itoa n = 45 :: decDigits (-n).toNat := by
  unfold itoa
  rw [if_pos h, show n.natAbs = (-n).toNat by omega]

theorem atoi_itoa (n : Int) : atoi (itoa n) = some n := by
  by_cases h : n < 0
  · rw [itoa_min n h]
    have e : ((45 : UInt8) == 45) = true := by decide
    simp only [atoi, e, if_true, decNat_decDigits]
    show some (-(((-n).toNat : Nat) : Int)) = some n
    congr 1
    omega
  · rw [itoa_nat n (by omega)]
    have hd := decDigits_digit n.toNat
    have hn := decNat_decDigits n.toNat
    generalize decDigits n.toNat = l at hd hn
    cases l with
    | nil => simp [decNat] at hn
    | cons b r =>
      have hb := hd b (by simp)
      have b1 : (b == 45) = false := by
        rw [beq_eq_false_iff_ne]
        rintro rfl
        simp at hb
      have b2 : (b == 43) = false := by
        rw [beq_eq_false_iff_ne]
        rintro rfl
        simp at hb
      simp only [atoi, b1, b2, hn]
      show some ((n.toNat : Nat) : Int) = some n
      congr 1
      omega

theorem itoa_inj {a b : Int} (h : itoa a = itoa b) : a = b := by
  have := atoi_itoa a
  rw [h, atoi_itoa b] at this
  exact (Option.some.inj this).symm

theorem itoa_ne (n : Int) : itoa n ≠ [] := by
  intro h
  have := atoi_itoa n
  rw [h] at this
  cases this

/-- The bytes of a number's text. -/
def isNum (b : UInt8) : Prop := b = 45 ∨ (48 ≤ b.toNat ∧ b.toNat ≤ 57)
theorem itoa_num (n : Int) : ∀ b ∈ itoa n, isNum b := by
  intro b hb
  by_cases h : n < 0
  · rw [itoa_min n h, List.mem_cons] at hb
    rcases hb with rfl | hb
    · exact Or.inl rfl
    · exact Or.inr (decDigits_digit _ b hb)
  · rw [itoa_nat n (by omega)] at hb
    exact Or.inr (decDigits_digit _ b hb)
theorem isNum_x {b : UInt8} (h : isNum b) : b ≠ 120 ∧ b ≠ 32 := by
  rcases h with rfl | h
  · decide
  · constructor <;> (rintro rfl; simp at h)

/-- Of 9 digits at most. -/
def short (n : Int) : Prop := -999999999 ≤ n ∧ n ≤ 999999999
instance (n : Int) : Decidable (short n) := inferInstanceAs (Decidable (_ ∧ _))

theorem nDigits_le9 {u : Nat} (h : u ≤ 999999999) : nDigits u ≤ 9 := by
  by_cases h0 : nDigits u ≤ 9
  · exact h0
  · exfalso
    have key : ∀ k u, k < nDigits u → 1 ≤ k → 10 ^ k ≤ u := by
      intro k
      induction k with
      | zero => omega
      | succ k ih =>
        intro u hk _
        by_cases hu : u < 10
        · rw [nDigits_small hu] at hk; omega
        · rw [nDigits_big hu] at hk
          by_cases k0 : k = 0
          · subst k0; simp; omega
          · have := ih (u / 10) (by omega) (by omega)
            rw [Nat.pow_succ]
            have := Nat.div_mul_le_self u 10
            omega
    have := key 9 u (by omega) (by omega)
    omega
theorem le9_of {u : Nat} (h : nDigits u ≤ 9) : u ≤ 999999999 := by
  have h1 := lt_pow_nDigits u
  have h2 := Nat.pow_le_pow_right (n := 10) (by decide) h
  have e : (10 : Nat) ^ 9 = 1000000000 := by decide
  omega

/-- A text of digits behind its sign. -/
def bare (s : L) : L := trimPrefix s [45]
theorem bare_min (r : L) : bare (45 :: r) = r := by
  unfold bare trimPrefix hasPrefix
  simp
theorem bare_other (b : UInt8) (r : L) (h : b ≠ 45) : bare (b :: r) = b :: r := by
  unfold bare trimPrefix hasPrefix
  have : List.isPrefixOf [45] (b :: r) = false := by
    simp only [List.isPrefixOf, Bool.and_true, beq_eq_false_iff_ne]
    exact fun e => h e.symm
  rw [this]
  rfl
theorem bare_nil : bare [] = [] := rfl

theorem bare_itoa (n : Int) : (bare (itoa n)).length = nDigits n.natAbs := by
  by_cases h : n < 0
  · rw [itoa_min n h, bare_min, decDigits_length]
    congr 1
    omega
  · rw [itoa_nat n (by omega)]
    have hd := decDigits_digit n.toNat
    have hl := decDigits_length n.toNat
    have hn := decDigits_ne n.toNat
    generalize decDigits n.toNat = l at *
    cases l with
    | nil => exact absurd rfl hn
    | cons b r =>
      have hb := hd b (by simp)
      rw [bare_other b r (by rintro rfl; simp at hb), hl]
      congr 1
      omega

theorem bare_short (n : Int) (h : short n) : (bare (itoa n)).length ≤ 9 := by
  rw [bare_itoa]
  unfold short at h
  exact nDigits_le9 (by omega)
theorem short_of_itoa {n : Int} (h : (bare (itoa n)).length ≤ 9) : short n := by
  rw [bare_itoa] at h
  have := le9_of h
  unfold short
  omega

/-- What is read of a text of 9 digits at most is short. -/
theorem atoi_short {s : L} {n : Int} (h : atoi s = some n) (hb : (bare s).length ≤ 9) : short n := by
  obtain ⟨b0, r, rfl, hc⟩ := atoi_cases h
  have e9 : (10 : Nat) ^ 9 = 1000000000 := by decide
  rcases hc with ⟨rfl, m, -, hm, rfl⟩ | ⟨rfl, m, -, hm, rfl⟩ | ⟨h45, h43, m, hm, rfl⟩
  · rw [bare_min] at hb
    have h1 := decFrom_lt _ _ _ hm
    have h2 := Nat.pow_le_pow_right (n := 10) (by decide) hb
    unfold short
    omega
  · rw [bare_other _ _ (by decide)] at hb
    have h1 := decFrom_lt _ _ _ hm
    have h2 := Nat.pow_le_pow_right (n := 10) (by decide) (show r.length ≤ 9 by simp at hb; omega)
    unfold short
    omega
  · rw [bare_other _ _ h45] at hb
    have h1 := decFrom_lt _ _ _ hm
    have h2 := Nat.pow_le_pow_right (n := 10) (by decide) hb
    unfold short
    omega

/-! ### Cutting at one byte -/
theorem index_app (a r : L) (x : UInt8) (h : x ∉ a) : index (a ++ x :: r) [x] = a.length := by
  induction a with
  | nil => simp [index, List.isPrefixOf]
  | cons b a ih =>
    have hb : (x == b) = false := by
      rw [beq_eq_false_iff_ne]
      rintro rfl
      exact h (by simp)
    have ih := ih (fun hx => h (List.mem_cons_of_mem _ hx))
    simp only [List.cons_append, index, List.isPrefixOf, hb, Bool.false_and, ih]
    rw [if_neg (by decide), if_neg (by simp)]
    simp
theorem index_no (a : L) (x : UInt8) (h : x ∉ a) : index a [x] = -1 := by
  induction a with
  | nil => simp [index]
  | cons b a ih =>
    have hb : (x == b) = false := by
      rw [beq_eq_false_iff_ne]
      rintro rfl
      exact h (by simp)
    have ih := ih (fun hx => h (List.mem_cons_of_mem _ hx))
    simp only [index, List.isPrefixOf, hb, Bool.false_and, ih]
    rw [if_neg (by decide), if_pos (by decide)]
theorem cut_app (a r : L) (x : UInt8) (h : x ∉ a) : cut (a ++ x :: r) [x] = (a, r, true) := by
  unfold cut
  rw [index_app a r x h, if_pos (by omega)]
  simp
theorem cut_no (a : L) (x : UInt8) (h : x ∉ a) : cut a [x] = (a, [], false) := by
  unfold cut
  rw [index_no a x h, if_neg (by decide)]
end Go.Proofs.YtkebplapjkefiaaDoor
