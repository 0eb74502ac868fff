/-
  Same over two slices; kind of a step; early.
-/
import Derived.Test.YtfphelhgfjdjoaaMany
namespace Go.Proofs.Ytfphelhgfjdjoaa
open Go.RowKit

theorem eq_of_getD {l k : List Int} (h : l.length = k.length) (g : ∀ j, j < l.length → l.getD j 0 = k.getD j 0) : l = k := by
  apply List.ext_getElem h
  intro j h1 h2
  have := g j h1
  simpa [h1, h2] using this

set_option maxHeartbeats 400000 in
theorem same_any (w : World) (a1 a2 : Option Addr) (c1 c2 : Nat) (l1 l2 : List Int) (G1 G2 : Nat → Prop) (h1 : Rd w a1 l1 G1) (h2 : Rd w a2 l2 G2) (b1 : l1.length ≤ 1000000) (b2 : l2.length ≤ 1000000) :
    Calls Try.prog 17 #[.slice a1 l1.length c1, .slice a2 l2.length c2] w fun e w' => e = .returned (.bool (decide (l1 = l2))) ∧ ∃ n, w' = w.drewN n := by
  obtain ⟨n1, hn1⟩ : ∃ n : Nat, n = l1.length := ⟨_, rfl⟩
  obtain ⟨n2, hn2⟩ : ∃ n : Nat, n = l2.length := ⟨_, rfl⟩
  rw [← hn1, ← hn2]
  rw [← hn1] at b1
  rw [← hn2] at b2
  have HN1 : Hid (n1 = l1.length) := hn1
  have HN2 : Hid (n2 = l2.length) := hn2
  clear hn1 hn2
  have R1 : Hid (Rd w a1 l1 G1) := h1
  have R2 : Hid (Rd w a2 l2 G2) := h2
  clear h1 h2
  by_cases hne : n1 = n2
  · subst hne
    go_enter Try.func17, Try.ntmps17
    go_wp2
    go_loopw [5] (fun i wr => ∃ (k n : Nat), k ≤ n1 ∧ i = .int .i64 k ∧ (∀ j, j < k → l1.getD j 0 = l2.getD j 0) ∧ wr = w.drewN n) (fun i _ => n1 - (intOf i).toNat)
    case atStart => exact ⟨0, 0, Nat.zero_le _, rfl, fun j hj => absurd hj (Nat.not_lt_zero j), rfl⟩
    case round =>
      obtain ⟨k, nq, hk, rfl, hE, rfl⟩ := hrel
      have HE : Hid (∀ j, j < k → l1.getD j 0 = l2.getD j 0) := hE
      clear hE
      by_cases hlt : k < n1
      · obtain ⟨g1, o1, rfl, _, _, x1⟩ := R1.out k (by have := HN1.out; omega)
        obtain ⟨g2, o2, rfl, _, _, x2⟩ := R2.out k (by have := HN2.out; omega)
        obtain ⟨v1, hv1⟩ : ∃ x, x = l1.getD k 0 := ⟨_, rfl⟩
        obtain ⟨v2, hv2⟩ : ∃ x, x = l2.getD k 0 := ⟨_, rfl⟩
        rw [← hv1] at x1
        rw [← hv2] at x2
        have H1 : Hid (v1 = l1.getD k 0) := hv1
        have H2 : Hid (v2 = l2.getD k 0) := hv2
        clear hv1 hv2
        by_cases hv : v1 = v2
        · subst hv
          go_wp2_with fail
          go_quiet (fail)
          go_wp2
          go_roundw
          case rel => exact ⟨k + 1, _, by omega, by go_num, fun j hj => by
            rcases Nat.lt_or_ge j k with c | c
            · exact HE.out j c
            · obtain rfl : j = k := by omega
              rw [← H1.out, ← H2.out], rfl⟩
          case measure => simp [intOf]; omega
        · have hd : decide (l1 = l2) = false := by
            apply decide_eq_false; intro c; apply hv; rw [H1.out, H2.out, c]
          have HD : Hid (decide (l1 = l2) = false) := hd
          have h8 : (v1 == v2) = false := by simpa using hv
          have h9 : (v1 != v2) = true := by simpa using hv
          clear hd hv
          go_wp2_with fail
          go_quiet (fail)
          go_wp2
          go_ret
          exact ⟨by rw [HD.out]; rfl, _, World.drewN_drewN _ _ _⟩
      · obtain rfl : k = n1 := by omega
        have HD : Hid (decide (l1 = l2) = true) := by
          show _ = _
          apply decide_eq_true
          exact eq_of_getD (by rw [← HN1.out, ← HN2.out]) (fun j hj => HE.out j (by have := HN1.out; omega))
        go_wp2
        go_ret
        exact ⟨by rw [HD.out]; rfl, _, rfl⟩
  · have HD : Hid (decide (l1 = l2) = false) := by
      show _ = _
      apply decide_eq_false; intro c; apply hne; rw [HN1.out, HN2.out, c]
    go_enter Try.func17, Try.ntmps17
    go_wp2
    go_ret
    exact ⟨by rw [HD.out]; rfl, 0, rfl⟩

theorem kind_eq (k : Int) : wrap64 ((IntKind.u64.wrap k).tmod 8) = k % 8 := by
  have e1 : IntKind.u64.wrap k = k % 18446744073709551616 := by simp [IntKind.wrap, IntKind.bits, IntKind.signed]
  rw [e1, Int.tmod_eq_emod_of_nonneg (by omega)]
  unfold wrap64
  omega

theorem kind_any (k v : Int) (L : Value) (w : World) :
    Calls Try.prog 22 #[.agg #[.int .i64 k, .int .i64 v, L]] w fun e w' => e = .returned (.int .i64 (k % 8)) ∧ w' = w.alloc (.cells #[.int .i64 k, .int .i64 v, L] 35) := by
  go_enter Try.func22, Try.ntmps22
  go_wp2
  go_ret
  exact ⟨ret_int (kind_eq k), rfl⟩

theorem early_any (a : Option Addr) (n cap : Nat) (w : World) (ha : n ≤ cap) (hc : cap ≤ maxLen) :
    Calls Try.prog 13 #[.slice a n cap] w fun e w' => e = .returned (.slice a (min n 150) cap) ∧ w = w' := by
  unfold maxLen at hc
  go_enter Try.func13, Try.ntmps13
  go_wp2
  · go_ret
    exact ⟨by rw [show min n 150 = 150 by omega]; rfl, rfl⟩
  · go_ret
    exact ⟨by rw [show min n 150 = n by omega]; rfl, rfl⟩

end Go.Proofs.Ytfphelhgfjdjoaa
