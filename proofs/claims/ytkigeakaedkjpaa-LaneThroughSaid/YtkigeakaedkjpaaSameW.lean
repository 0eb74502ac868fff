/-
  The walk of SameWords.
-/
import Derived.Test.YtkigeakaedkjpaaVw
namespace Go.Proofs.Ytkigeakaedkjpaa
open Go.RowKit

set_option maxRecDepth 100000 in
theorem samew_any (l m : List Nat) (a b : Option Addr) (x y : Nat) (w : World) (hl : l.length ≤ 1000000) (hm : m.length ≤ 1000000) (ha : Rd w a (vw l)) (hb : Rd w b (vw m)) :
    Calls Try.prog 20 #[.slice a l.length x, .slice b m.length y] w fun e w' => e = .returned (.bool (decide (l = m))) ∧ ∃ n, w' = w.drewN n := by
  obtain ⟨r, hr⟩ : ∃ r, decide (l = m) = r := ⟨_, rfl⟩
  obtain ⟨n, hn⟩ : ∃ n, l.length = n := ⟨_, rfl⟩
  obtain ⟨n', hn'⟩ : ∃ n', m.length = n' := ⟨_, rfl⟩
  have HN : Hid (l.length = n) := hn
  have HM : Hid (m.length = n') := hn'
  have HR : Hid (decide (l = m) = r) := hr
  rw [hr]
  rw [hn] at hl ⊢
  rw [hn'] at hm ⊢
  clear hn hn' hr
  have HA : Hid (Rd w a (vw l)) := ha
  have HB : Hid (Rd w b (vw m)) := hb
  clear ha hb
  by_cases hnn : n = n'
  case neg =>
    have e1 : ¬ (n : Int) = (n' : Int) := by omega
    have e2 : r = false := by
      rw [← HR.out, decide_eq_false_iff_not]
      intro e
      exact hnn (by rw [← HN.out, ← HM.out, e])
    subst e2
    go_enter Try.func20, Try.ntmps20
    go_wp2
    go_ret
    exact ⟨rfl, 0, rfl⟩
  subst hnn
  go_enter Try.func20, Try.ntmps20
  go_wp2_with fail
  go_loopw [5] (fun i wr => ∃ k u : Nat, k ≤ n ∧ i = .int .i64 k ∧ (∀ j, j < k → l.getD j 0 = m.getD j 0) ∧ wr = w.drewN u) (fun i _ => n - (RowKit.intOf i).toNat)
  case atStart => exact ⟨0, 0, Nat.zero_le _, rfl, fun j hj => absurd hj (Nat.not_lt_zero _), rfl⟩
  case round =>
    obtain ⟨k, u, hk, rfl, hs, rfl⟩ := hrel
    have HS : Hid (∀ j, j < k → l.getD j 0 = m.getD j 0) := hs
    clear hs
    by_cases hlt : k < n
    · have hltz : (k : Int) < n := by omega
      have hk0 : (0 : Int) ≤ k := by omega
      obtain ⟨g, o, e1, hg, c1⟩ := HA.out k _ (vw_at (l := l) (k := k) (by rw [HN.out]; exact hlt))
      obtain ⟨g', o', e2, hg', c2⟩ := HB.out k _ (vw_at (l := m) (k := k) (by rw [HM.out]; exact hlt))
      by_cases hpq : l.getD k 0 = m.getD k 0
      · have HP : Hid (∀ j, j < k + 1 → l.getD j 0 = m.getD j 0) := show ∀ j, j < k + 1 → l.getD j 0 = m.getD j 0 from fun j hj => by
          rcases Nat.lt_or_ge j k with h | h
          · exact HS.out j h
          · obtain rfl : j = k := by omega
            exact hpq
        rw [← hpq] at c2
        clear hpq hg hg'
        generalize l.getD k 0 = z at *
        subst e1 e2
        go_wp2_with fail
        go_quiet (fail)
        go_wp2
        go_roundw
        case rel =>
          exact ⟨k + 1, _, by omega, by go_num, HP.out, rfl⟩
        case measure => simp [RowKit.intOf]; omega
      · have hpz : ¬ ((l.getD k 0 : Nat) : Int) = ((m.getD k 0 : Nat) : Int) := by omega
        have e3 : r = false := by
          rw [← HR.out, decide_eq_false_iff_not]
          intro e
          exact hpq (by rw [e])
        subst e3
        clear hpq hg hg'
        generalize l.getD k 0 = z at *
        generalize m.getD k 0 = z' at *
        subst e1 e2
        go_wp2_with fail
        go_quiet (fail)
        go_wp2
        go_ret
        exact ⟨rfl, _, World.drewN_drewN _ _ _⟩
    · have hltz : ¬ (k : Int) < n := by omega
      have e2 : r = true := by
        rw [← HR.out, decide_eq_true_eq]
        exact same_upto (by rw [HN.out, HM.out]) fun j hj => HS.out j (by rw [HN.out] at hj; omega)
      subst e2
      go_wp2
      go_ret
      exact ⟨rfl, _, rfl⟩
end Go.Proofs.Ytkigeakaedkjpaa
