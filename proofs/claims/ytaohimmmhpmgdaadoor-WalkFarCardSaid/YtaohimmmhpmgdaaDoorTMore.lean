/-
  What walks of Choose and Straight ask of the plain mathematics.
-/
import Derived.Test.YtaohimmmhpmgdaaDoorTPlain
namespace Go.Proofs.YtaohimmmhpmgdaaDoor

theorem opt_le2 (c : Cf) (a b : Int) : (opt c a b).length ≤ 2 := by
  cases h : isN c a && isN c b with
  | false => rw [opt_no h]; simp
  | true =>
    simp only [Bool.and_eq_true] at h
    exact (opt_len h.1 h.2).2.1
/-- The list's place that a choice is of. -/
theorem ch_at {l : List Int} (h : l.length ≠ 0) {k : Int} (h1 : -9223372036854775808 ≤ k) (h2 : k ≤ 9223372036854775807) :
    ∃ j : Nat, j < l.length ∧ (chAbs k).tmod (l.length : Int) = (j : Int) ∧ chP l k = l.getD j 0 := by
  have a := chAbs_in h1 h2
  have m0 : 0 ≤ chAbs k % (l.length : Int) := Int.emod_nonneg _ (by omega)
  have m1 : chAbs k % (l.length : Int) < l.length := Int.emod_lt_of_pos _ (by omega)
  refine ⟨(chAbs k % (l.length : Int)).toNat, by omega, ?_, ?_⟩
  · rw [Int.tmod_eq_emod_of_nonneg a.1]; omega
  · unfold chP; rw [if_neg h]
theorem ch_first {p : Int} {l : List Int} : chP (p :: l) 0 = p := by
  unfold chP chAbs
  simp
theorem ch_yes {p : Int} {l : List Int} : chB (p :: l) = true := by
  unfold chB
  simp
theorem str_some {c : Cf} {n b : Int} (h : str c n b ≠ []) : isN c n = true ∧ isN c b = true := by
  cases e : isN c n && isN c b with
  | false => exact absurd (show str c n b = [] by unfold str; rw [e]; rfl) h
  | true => simpa using e
/-- The way's next step. -/
theorem str_go {c : Cf} {n b : Int} (h : str c n b ≠ []) : ∃ p r, chP (opt c n b) 0 = p ∧ chB (opt c n b) = true ∧ str c n b = p :: r ∧ (r ≠ [] → r = str c (bsN c n p) b) := by
  obtain ⟨hn, hb⟩ := str_some h
  obtain ⟨p, l, r, e1, e2, e3, _, _⟩ := ways hn hb
  have eo : ∃ m, opt c n b = p :: m := by
    cases hw : c.we with
    | false => exact ⟨[], by have : { c with we := false } = c := by rw [← hw]
                             rw [this] at e1; exact e1⟩
    | true => exact ⟨l, by have : { c with we := true } = c := by rw [← hw]
                           rw [this] at e2; exact e2⟩
  obtain ⟨m, eo⟩ := eo
  refine ⟨p, r, by rw [eo]; exact ch_first, by rw [eo]; exact ch_yes, e3, fun hr => ?_⟩
  by_cases hne : n = b
  · subst hne
    rw [str_self hn] at e3
    simp at e3
    exact absurd e3.2 hr
  · have := str_step hn hb hne e1
    rw [this] at e3
    simp at e3
    exact e3.symm
/-- The same by the document. -/
theorem rstr_go {c : Cf} {n b : Int} (hn : isN c n = true) (hb : isN c b = true) :
    ∃ p, opt { c with we := false } n b = [p] ∧ ((p = 0 ∧ str c n b = [0]) ∨ (p ≠ 0 ∧ isN c (bsN c n p) = true ∧ str c n b = p :: str c (bsN c n p) b ∧ (fr c (bsN c n p) b).toNat < (fr c n b).toNat)) := by
  obtain ⟨p, l, r, e1, _, e3, _, _⟩ := ways hn hb
  refine ⟨p, e1, ?_⟩
  by_cases hne : n = b
  · subst hne
    have : opt { c with we := false } n n = [0] := opt_self hn
    rw [e1] at this
    simp at this
    exact Or.inl ⟨this, str_self hn⟩
  · obtain ⟨n1, n2, n3⟩ := opt_near (c := { c with we := false }) hn hb hne (p := p) (by rw [e1]; simp)
    have n2 : bsB c n p = true := n2
    have n3 : fr c (bsN c n p) b = fr c n b - 1 := n3
    have hi := (step_ok n2).2.2.2.1
    have := fr_nonneg hi hb
    exact Or.inr ⟨n1, hi, str_step hn hb hne e1, by omega⟩
theorem str_le (c : Cf) (a b : Int) : (str c a b).length ≤ 127 := by
  by_cases h : str c a b = []
  · rw [h]; simp
  · obtain ⟨h1, h2⟩ := str_some h
    have := str_len h1 h2
    have := fr_in c a b
    omega
theorem str_fr (c : Cf) (a b : Int) : fr c a b + 1 = ((str c a b).length : Int) := by
  cases e : isN c a && isN c b with
  | false =>
    rw [show str c a b = [] by unfold str; rw [e]; rfl, show fr c a b = -1 by unfold fr; rw [e]; rfl]
    rfl
  | true =>
    simp only [Bool.and_eq_true] at e
    exact (str_len e.1 e.2).symm
end Go.Proofs.YtaohimmmhpmgdaaDoor
