/-
  A step of a law's: its kind, the first 120 steps. (Written by gen_iopn.py.)
-/
import Derived.Test.YtpmkpjnhdehnhaaILives
import Derived.Test.YtpmkpjnhdehnhaaIRst
namespace Go.Proofs.Ytpmkpjnhdehnhaa
open Go.RowKit

/-- A step: kind, packet. -/
structure IOp where
  kd : Int
  p : Pk
abbrev ioc (o : IOp) : List Value := [.int .i64 o.kd, .int .i64 o.p.s, .int .i64 o.p.d, .int .i64 o.p.q, .string o.p.x]
abbrev iov (o : IOp) : Value := .agg #[.int .i64 o.kd, .int .i64 o.p.s, .int .i64 o.p.d, .int .i64 o.p.q, .string o.p.x]
def IOp.k (o : IOp) : Nat := irst o.kd 4
theorem IOp.k_lt (o : IOp) : o.k < 4 := (irst_eq o.kd (m := 4) (by decide) (by decide)).1
def iops (l : List IOp) : List Value := l.flatMap ioc
theorem iops_len (l : List IOp) : (iops l).length = l.length * 5 := by
  unfold iops
  induction l with
  | nil => rfl
  | cons x l ih => simp [ih]; omega
theorem iops_at : ∀ (l : List IOp) (q : Nat) (x : IOp), l[q]? = some x → (iops l)[q * 5]? = some (.int .i64 x.kd) ∧ (iops l)[q * 5 + 1]? = some (.int .i64 x.p.s) ∧ (iops l)[q * 5 + 2]? = some (.int .i64 x.p.d) ∧ (iops l)[q * 5 + 3]? = some (.int .i64 x.p.q) ∧ (iops l)[q * 5 + 4]? = some (.string x.p.x)
  | [], q, x, h => by simp at h
  | y :: l, 0, x, h => by
    simp at h
    subst h
    simp [iops]
  | y :: l, q + 1, x, h => by
    have := iops_at l q x (by simpa using h)
    rw [show (q + 1) * 5 = q * 5 + 1 + 1 + 1 + 1 + 1 by omega, show q * 5 + 1 + 1 + 1 + 1 + 1 + 1 = (q * 5 + 1) + 1 + 1 + 1 + 1 + 1 by omega, show q * 5 + 1 + 1 + 1 + 1 + 1 + 2 = (q * 5 + 2) + 1 + 1 + 1 + 1 + 1 by omega, show q * 5 + 1 + 1 + 1 + 1 + 1 + 3 = (q * 5 + 3) + 1 + 1 + 1 + 1 + 1 by omega, show q * 5 + 1 + 1 + 1 + 1 + 1 + 4 = (q * 5 + 4) + 1 + 1 + 1 + 1 + 1 by omega]
    simpa [iops] using this
/-- One step of a row that came in. -/
theorem rd_iop {w : World} {a : Option Addr} {l : List IOp} {k : Nat} {x : IOp} (h : Rd w a (iops l)) (hk : l[k]? = some x) : ∃ g o, a = some ⟨g, o, none⟩ ∧ g < w.heap.size ∧ w.cell? ⟨g, o + k * 5, none⟩ = some (.int .i64 x.kd) ∧ w.cell? ⟨g, o + k * 5 + 1, none⟩ = some (.int .i64 x.p.s) ∧ w.cell? ⟨g, o + k * 5 + 2, none⟩ = some (.int .i64 x.p.d) ∧ w.cell? ⟨g, o + k * 5 + 3, none⟩ = some (.int .i64 x.p.q) ∧ w.cell? ⟨g, o + k * 5 + 4, none⟩ = some (.string x.p.x) := by
  obtain ⟨h0, h1, h2, h3, h4⟩ := iops_at l k x hk
  obtain ⟨g, o, rfl, hg, c0⟩ := h _ _ h0
  have key : ∀ j v, (iops l)[k * 5 + j]? = some v → w.cell? ⟨g, o + k * 5 + j, none⟩ = some v := fun j v hv => by
    obtain ⟨g', o', e, _, c⟩ := h _ _ hv
    simp only [Option.some.injEq, Addr.mk.injEq] at e
    obtain ⟨rfl, rfl, _⟩ := e
    rw [Nat.add_assoc]
    exact c
  exact ⟨g, o, rfl, hg, c0, key 1 _ h1, key 2 _ h2, key 3 _ h3, key 4 _ h4⟩
set_option maxRecDepth 100000 in
theorem ikind_any (o : IOp) (w : World) : Calls Try.prog 14 #[iov o] w fun e w' => e = .returned (.int .i64 (o.k : Int)) ∧ Below w.heap.size w w' := by
  have k2 : wrap64 ((IntKind.u64.wrap o.kd).tmod 4) = ((irst o.kd 4 : Nat) : Int) := (irst_eq o.kd (m := 4) (by decide) (by decide)).2
  unfold IOp.k
  generalize irst o.kd 4 = r at *
  obtain ⟨kd, s, d, q, x⟩ := o
  simp only [iov] at *
  have B0 : Hid (Below w.heap.size w (w.alloc (.cells #[.int .i64 kd, .int .i64 s, .int .i64 d, .int .i64 q, .string x] 35))) := (Below.refl _ _).alloc (Nat.le_refl _) _
  have K2 : Hid (wrap64 ((IntKind.u64.wrap kd).tmod 4) = (r : Int)) := k2
  clear k2
  go_enter Try.func14, Try.ntmps14
  go_wp2
  go_ret
  exact ⟨by rw [← K2.out]; rfl, B0.out⟩
theorem iearly_any (a : Option Addr) (n c : Nat) (w : World) (hn : n ≤ c) (hc : c ≤ maxLen) (ha : a = none → c = 0) : Calls Try.prog 13 #[.slice a n c] w fun e w' => e = .returned (.slice a (min n 120) c) ∧ w = w' := by
  unfold maxLen at hc
  by_cases h : n ≤ 120
  · rw [Nat.min_eq_left h]
    have e1 : (n : Int) ≤ 120 := by omega
    have e2 : (n : Int) ≤ (c : Int) := by omega
    cases a with
    | none =>
      obtain rfl := ha rfl
      obtain rfl : n = 0 := by omega
      go_enter Try.func13, Try.ntmps13
      go_wp2
      go_ret
      exact ⟨rfl, rfl⟩
    | some ad =>
      clear ha
      go_enter Try.func13, Try.ntmps13
      go_wp2
      go_ret
      exact ⟨by simp, rfl⟩
  · rw [Nat.min_eq_right (by omega)]
    have e1 : ¬ (n : Int) ≤ 120 := by omega
    have e2 : (120 : Int) ≤ (c : Int) := by omega
    cases a with
    | none =>
      have := ha rfl
      omega
    | some ad =>
      clear ha
      go_enter Try.func13, Try.ntmps13
      go_wp2
      go_ret
      exact ⟨by simp, rfl⟩
end Go.Proofs.Ytpmkpjnhdehnhaa
