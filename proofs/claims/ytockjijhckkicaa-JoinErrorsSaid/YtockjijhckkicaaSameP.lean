/-
  The walk of same: the same packets.
-/
import Derived.Test.YtockjijhckkicaaPk
namespace Go.Proofs.Ytockjijhckkicaa
open Go.RowKit

theorem pk_ext {p q : Pk} (h1 : p.s = q.s) (h2 : p.d = q.d) (h3 : p.q = q.q) (h4 : p.x = q.x) : p = q := by
  obtain ⟨⟩ := p
  obtain ⟨⟩ := q
  simp only at h1 h2 h3 h4
  subst h1 h2 h3 h4
  rfl

set_option maxRecDepth 100000 in
set_option maxHeartbeats 8000000 in
theorem samep_any (r : Bool) (l m : List Pk) (a b : Option Addr) (x y : Nat) (w : World) (hl : l.length ≤ 1000000) (hm : m.length ≤ 1000000) (hr : r = true ↔ l = m) (ha : Rd w a (kcs l)) (hb : Rd w b (kcs m)) :
    Calls Try.prog 16 #[.slice a l.length x, .slice b m.length y] w fun e w' => e = .returned (.bool r) ∧ ∃ n, w' = w.drewN n := by
  obtain ⟨n, hn⟩ : ∃ n, l.length = n := ⟨_, rfl⟩
  obtain ⟨n', hn'⟩ : ∃ n', m.length = n' := ⟨_, rfl⟩
  have HN : Hid (l.length = n) := hn
  have HM : Hid (m.length = n') := hn'
  have HR : Hid (r = true ↔ l = m) := hr
  rw [hn] at hl ⊢
  rw [hn'] at hm ⊢
  clear hn hn' hr
  have HA : Hid (Rd w a (kcs l)) := ha
  have HB : Hid (Rd w b (kcs m)) := hb
  clear ha hb
  have HF : Hid (¬ l = m → r = false) := show _ from fun h => by
    cases r
    · rfl
    · exact absurd (HR.out.1 rfl) h
  by_cases hnn : n = n'
  case neg =>
    have e1 : ¬ (n : Int) = (n' : Int) := by omega
    have e2 : r = false := HF.out fun e => hnn (by rw [← HN.out, ← HM.out, e])
    subst e2
    go_enter Try.func16, Try.ntmps16
    go_wp2
    go_ret
    exact ⟨rfl, 0, rfl⟩
  subst hnn
  go_enter Try.func16, Try.ntmps16
  go_wp2_with fail
  go_loopw [5] (fun i wr => ∃ k u : Nat, k ≤ n ∧ i = .int .i64 k ∧ (∀ j, j < k → l[j]? = m[j]?) ∧ wr = w.drewN u) (fun i _ => n - (RowKit.intOf i).toNat)
  case atStart => exact ⟨0, 0, Nat.zero_le _, rfl, fun j hj => absurd hj (Nat.not_lt_zero _), rfl⟩
  case round =>
    obtain ⟨k, u, hk, rfl, hs, rfl⟩ := hrel
    have HS : Hid (∀ j, j < k → l[j]? = m[j]?) := hs
    clear hs
    by_cases hlt : k < n
    · have hltz : (k : Int) < n := by omega
      have hk0 : (0 : Int) ≤ k := by omega
      obtain ⟨P, hP⟩ : ∃ P, l[k]? = some P := ⟨_, List.getElem?_eq_getElem (by rw [HN.out]; exact hlt)⟩
      obtain ⟨Q, hQ⟩ : ∃ P, m[k]? = some P := ⟨_, List.getElem?_eq_getElem (by rw [HM.out]; exact hlt)⟩
      obtain ⟨g, o, rfl, hg, c0, c1, c2, c3⟩ := HA.out.pk hP
      obtain ⟨g', o', rfl, hg', d0, d1, d2, d3⟩ := HB.out.pk hQ
      have HE : Hid (P = Q → ∀ j, j < k + 1 → l[j]? = m[j]?) := show _ from fun e j hj => by
        rcases Nat.lt_or_ge j k with h | h
        · exact HS.out j h
        · obtain rfl : j = k := by omega
          rw [hP, hQ, e]
      have HX : Hid (¬ P = Q → r = false) := show _ from fun h => HF.out fun e => h (by
        rw [e, hQ] at hP
        exact (Option.some.inj hP).symm)
      clear hg hg' hP hQ
      obtain ⟨Ps, Pd, Pq, Px⟩ := P
      obtain ⟨Qs, Qd, Qq, Qx⟩ := Q
      simp only at c0 c1 c2 c3 d0 d1 d2 d3
      by_cases a0 : Ps = Qs
      case neg =>
        have e3 : r = false := HX.out fun e => a0 (congrArg Pk.s e)
        subst e3
        have b0 : (Ps == Qs) = false := by simp [a0]
        go_wp2_with fail
        go_quiet (fail)
        go_wp2
        go_ret
        exact ⟨rfl, _, World.drewN_drewN _ _ _⟩
      subst a0
      by_cases a1 : Pd = Qd
      case neg =>
        have e3 : r = false := HX.out fun e => a1 (congrArg Pk.d e)
        subst e3
        have b0 : (Pd == Qd) = false := by simp [a1]
        go_wp2_with fail
        go_quiet (fail)
        go_wp2
        go_ret
        exact ⟨rfl, _, World.drewN_drewN _ _ _⟩
      subst a1
      by_cases a2 : Pq = Qq
      case neg =>
        have e3 : r = false := HX.out fun e => a2 (congrArg Pk.q e)
        subst e3
        have b0 : (Pq == Qq) = false := by simp [a2]
        go_wp2_with fail
        go_quiet (fail)
        go_wp2
        go_ret
        exact ⟨rfl, _, World.drewN_drewN _ _ _⟩
      subst a2
      by_cases a3 : Px = Qx
      case neg =>
        have e3 : r = false := HX.out fun e => a3 (congrArg Pk.x e)
        subst e3
        have a4 : ¬ Px.toList = Qx.toList := fun e => a3 (toList_inj e)
        have b0 : (Px.toList == Qx.toList) = false := by simp [a4]
        clear a3
        go_wp2_with fail
        go_quiet (fail)
        go_wp2
        go_ret
        exact ⟨rfl, _, World.drewN_drewN _ _ _⟩
      subst a3
      have HP : Hid (∀ j, j < k + 1 → l[j]? = m[j]?) := HE.out rfl
      clear HE HX
      go_wp2_with fail
      go_quiet (fail)
      go_wp2
      go_roundw
      case rel => exact ⟨k + 1, _, by omega, by go_num, HP.out, by first | rfl | trivial⟩
      case measure => simp [RowKit.intOf]; omega
    · have hltz : ¬ (k : Int) < n := by omega
      obtain rfl : k = n := by omega
      have e2 : r = true := HR.out.2 (List.ext_getElem? fun j => by
        rcases Nat.lt_or_ge j k with h | h
        · exact HS.out j h
        · rw [List.getElem?_eq_none (by rw [HN.out]; exact h), List.getElem?_eq_none (by rw [HM.out]; exact h)])
      subst e2
      go_wp2
      go_ret
      exact ⟨rfl, _, rfl⟩
end Go.Proofs.Ytockjijhckkicaa
