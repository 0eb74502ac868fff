/-
  The walk of the document's Same.
-/
import Derived.Test.YtnhfoojnokiboaaCBase
namespace Go.Proofs.Ytnhfoojnokiboaa
open Go.RowKit

theorem dn {B : Nat} {a w : World} (h : Below B a w) (n : Nat) : Below B a (w.drewN n) := h.trans ⟨rfl, rfl, rfl, Nat.le_refl _, fun _ _ => rfl⟩
/-- Alike in all. -/
def Pc.sameB (p q : Pc) : Bool := decide (p.s = q.s ∧ p.c = q.c ∧ p.x = q.x ∧ p.hs = q.hs)
theorem pairs_upto {l m : List (Int × Int)} (h : l.length = m.length) (h2 : ∀ j, j < l.length → l.getD j (0, 0) = m.getD j (0, 0)) : l = m := by
  refine List.ext_getElem h fun j h3 h4 => ?_
  have := h2 j h3
  rw [List.getD_eq_getElem?_getD, List.getD_eq_getElem?_getD, List.getElem?_eq_getElem h3, List.getElem?_eq_getElem h4] at this
  exact this

set_option maxRecDepth 100000 in
set_option maxHeartbeats 8000000 in
theorem rsame_any (s s' : Int) (c c' : Bool) (a a' : Option Addr) (cap cap' : Nat) (x x' : ByteArray) (hs hs' : List (Int × Int)) (w : World) (hl : hs.length ≤ 1000000) (hl' : hs'.length ≤ 1000000) (hr : Rd w a (pc hs)) (hr' : Rd w a' (pc hs')) :
    Calls Try.prog 19 #[pcv s c (.slice a hs.length cap) x, pcv s' c' (.slice a' hs'.length cap') x'] w fun e w' => e = .returned (.bool (Pc.sameB ⟨s, c, hs, x⟩ ⟨s', c', hs', x'⟩)) ∧ Below w.heap.size w w' := by
  obtain ⟨r, hk⟩ : ∃ r, Pc.sameB ⟨s, c, hs, x⟩ ⟨s', c', hs', x'⟩ = r := ⟨_, rfl⟩
  have HK : Hid (decide (s = s' ∧ c = c' ∧ x = x' ∧ hs = hs') = r) := hk
  rw [hk]
  clear hk
  have HR : Hid (Rd w a (pc hs)) := hr
  have HR' : Hid (Rd w a' (pc hs')) := hr'
  obtain ⟨n, hn⟩ : ∃ n, hs.length = n := ⟨_, rfl⟩
  obtain ⟨n', hn'⟩ : ∃ n', hs'.length = n' := ⟨_, rfl⟩
  have HN : Hid (hs.length = n) := hn
  have HN' : Hid (hs'.length = n') := hn'
  rw [hn] at hl ⊢
  rw [hn'] at hl' ⊢
  clear hr hn hr' hn'
  simp only [pcv] at *
  have e1 : (w.alloc (.cells (pcc s c (.slice a n cap) x) 24)).heap.size = w.heap.size + 1 := by simp
  have HB : Hid (Below w.heap.size w ((w.alloc (.cells (pcc s c (.slice a n cap) x) 24)).alloc (.cells (pcc s' c' (.slice a' n' cap') x') 24))) := ((Below.refl _ _).alloc (Nat.le_refl _) _).alloc (by simp) _
  have H0 : Hid (Bk ((w.alloc (.cells (pcc s c (.slice a n cap) x) 24)).alloc (.cells (pcc s' c' (.slice a' n' cap') x') 24)) w.heap.size (pcc s c (.slice a n cap) x) 24) := (Bk.new _ _ _).alloc _
  have H1 : Hid (Bk ((w.alloc (.cells (pcc s c (.slice a n cap) x) 24)).alloc (.cells (pcc s' c' (.slice a' n' cap') x') 24)) (w.heap.size + 1) (pcc s' c' (.slice a' n' cap') x') 24) := by
    have := Bk.new (w.alloc (.cells (pcc s c (.slice a n cap) x) 24)) (pcc s' c' (.slice a' n' cap') x') 24
    rw [e1] at this
    exact this
  clear e1
  have D0 : ((w.alloc (.cells (pcc s c (.slice a n cap) x) 24)).alloc (.cells (pcc s' c' (.slice a' n' cap') x') 24)).cell? ⟨w.heap.size, 0, none⟩ = some (.int .i64 s) := H0.out.cell 0
  have D1 : ((w.alloc (.cells (pcc s c (.slice a n cap) x) 24)).alloc (.cells (pcc s' c' (.slice a' n' cap') x') 24)).cell? ⟨w.heap.size, 1, none⟩ = some (.bool c) := H0.out.cell 1
  have D2 : ((w.alloc (.cells (pcc s c (.slice a n cap) x) 24)).alloc (.cells (pcc s' c' (.slice a' n' cap') x') 24)).cell? ⟨w.heap.size, 2, none⟩ = some (.slice a n cap) := H0.out.cell 2
  have D3 : ((w.alloc (.cells (pcc s c (.slice a n cap) x) 24)).alloc (.cells (pcc s' c' (.slice a' n' cap') x') 24)).cell? ⟨w.heap.size, 3, none⟩ = some (.string x) := H0.out.cell 3
  have D4 : ((w.alloc (.cells (pcc s c (.slice a n cap) x) 24)).alloc (.cells (pcc s' c' (.slice a' n' cap') x') 24)).cell? ⟨w.heap.size + 1, 0, none⟩ = some (.int .i64 s') := H1.out.cell 0
  have D5 : ((w.alloc (.cells (pcc s c (.slice a n cap) x) 24)).alloc (.cells (pcc s' c' (.slice a' n' cap') x') 24)).cell? ⟨w.heap.size + 1, 1, none⟩ = some (.bool c') := H1.out.cell 1
  have D6 : ((w.alloc (.cells (pcc s c (.slice a n cap) x) 24)).alloc (.cells (pcc s' c' (.slice a' n' cap') x') 24)).cell? ⟨w.heap.size + 1, 2, none⟩ = some (.slice a' n' cap') := H1.out.cell 2
  have D7 : ((w.alloc (.cells (pcc s c (.slice a n cap) x) 24)).alloc (.cells (pcc s' c' (.slice a' n' cap') x') 24)).cell? ⟨w.heap.size + 1, 3, none⟩ = some (.string x') := H1.out.cell 3
  have HX0 : ∀ (k : Nat), k < n → ∃ g o, a = some ⟨g, o, none⟩ ∧ ((w.alloc (.cells (pcc s c (.slice a n cap) x) 24)).alloc (.cells (pcc s' c' (.slice a' n' cap') x') 24)).cell? ⟨g, o + k * 2, none⟩ = some (.int .i64 (hs.getD k (0, 0)).1) ∧ ((w.alloc (.cells (pcc s c (.slice a n cap) x) 24)).alloc (.cells (pcc s' c' (.slice a' n' cap') x') 24)).cell? ⟨g, o + k * 2 + 1, none⟩ = some (.int .i64 (hs.getD k (0, 0)).2) := fun k hk => by
    obtain ⟨g, o, e, hg, c3, c4⟩ := HR.out.pair (k := k) (by rw [HN.out]; exact hk)
    exact ⟨g, o, e, (HB.out.cell (p := ⟨g, o + k * 2, none⟩) hg).trans c3, (HB.out.cell (p := ⟨g, o + k * 2 + 1, none⟩) hg).trans c4⟩
  have HX : Hid (∀ (k : Nat), k < n → ∃ g o, a = some ⟨g, o, none⟩ ∧ ((w.alloc (.cells (pcc s c (.slice a n cap) x) 24)).alloc (.cells (pcc s' c' (.slice a' n' cap') x') 24)).cell? ⟨g, o + k * 2, none⟩ = some (.int .i64 (hs.getD k (0, 0)).1) ∧ ((w.alloc (.cells (pcc s c (.slice a n cap) x) 24)).alloc (.cells (pcc s' c' (.slice a' n' cap') x') 24)).cell? ⟨g, o + k * 2 + 1, none⟩ = some (.int .i64 (hs.getD k (0, 0)).2)) := HX0
  clear HX0
  have HY0 : ∀ (k : Nat), k < n' → ∃ g o, a' = some ⟨g, o, none⟩ ∧ ((w.alloc (.cells (pcc s c (.slice a n cap) x) 24)).alloc (.cells (pcc s' c' (.slice a' n' cap') x') 24)).cell? ⟨g, o + k * 2, none⟩ = some (.int .i64 (hs'.getD k (0, 0)).1) ∧ ((w.alloc (.cells (pcc s c (.slice a n cap) x) 24)).alloc (.cells (pcc s' c' (.slice a' n' cap') x') 24)).cell? ⟨g, o + k * 2 + 1, none⟩ = some (.int .i64 (hs'.getD k (0, 0)).2) := fun k hk => by
    obtain ⟨g, o, e, hg, c3, c4⟩ := HR'.out.pair (k := k) (by rw [HN'.out]; exact hk)
    exact ⟨g, o, e, (HB.out.cell (p := ⟨g, o + k * 2, none⟩) hg).trans c3, (HB.out.cell (p := ⟨g, o + k * 2 + 1, none⟩) hg).trans c4⟩
  have HY : Hid (∀ (k : Nat), k < n' → ∃ g o, a' = some ⟨g, o, none⟩ ∧ ((w.alloc (.cells (pcc s c (.slice a n cap) x) 24)).alloc (.cells (pcc s' c' (.slice a' n' cap') x') 24)).cell? ⟨g, o + k * 2, none⟩ = some (.int .i64 (hs'.getD k (0, 0)).1) ∧ ((w.alloc (.cells (pcc s c (.slice a n cap) x) 24)).alloc (.cells (pcc s' c' (.slice a' n' cap') x') 24)).cell? ⟨g, o + k * 2 + 1, none⟩ = some (.int .i64 (hs'.getD k (0, 0)).2)) := HY0
  clear HY0
  clear H0 H1 HR HR'
  simp only [pcc] at *
  go_enter Try.func19, Try.ntmps19
  go_upto_region 1 with fail
  generalize hW1 : (w.alloc (.cells #[.int .i64 s, .bool c, .slice a n cap, .string x] 24)).alloc (.cells #[.int .i64 s', .bool c', .slice a' n' cap', .string x'] 24) = w1 at *
  by_cases a0 : s = s'
  case neg =>
    have e9 : r = false := by
      rw [← HK.out]
      exact decide_eq_false fun h => a0 h.1
    subst e9
    go_wp2
    go_ret
    exact ⟨rfl, HB.out⟩
  subst a0
  by_cases a1 : c = c'
  case neg =>
    have e9 : r = false := by
      rw [← HK.out]
      exact decide_eq_false fun h => a1 h.2.1
    subst e9
    go_wp2
    go_ret
    exact ⟨rfl, HB.out⟩
  subst a1
  by_cases a2 : x = x'
  case neg =>
    have e9 : r = false := by
      rw [← HK.out]
      exact decide_eq_false fun h => a2 h.2.2.1
    subst e9
    replace a2 : ¬ x.toList = x'.toList := fun h => a2 (toList_inj h)
    cases c
    all_goals
      go_wp2
      go_ret
      exact ⟨rfl, HB.out⟩
  subst a2
  by_cases a3 : (n : Int) = (n' : Int)
  case neg =>
    have e9 : r = false := by
      rw [← HK.out]
      exact decide_eq_false fun h => a3 (by rw [← HN.out, ← HN'.out, h.2.2.2])
    subst e9
    cases c
    all_goals
      go_wp2
      go_ret
      exact ⟨rfl, HB.out⟩
  obtain rfl : n = n' := by omega
  clear a3
  go_wp2_with fail
  go_loopw [5] (fun i wr => ∃ k u : Nat, k ≤ n ∧ i = .int .i64 k ∧ (∀ j, j < k → hs.getD j (0, 0) = hs'.getD j (0, 0)) ∧ wr = w1.drewN u) (fun i _ => n - (RowKit.intOf i).toNat)
  case atStart => exact ⟨0, 0, Nat.zero_le _, rfl, fun j hj => absurd hj (Nat.not_lt_zero _), rfl⟩
  case round =>
    obtain ⟨k, u, hk, rfl, hs1, rfl⟩ := hrel
    have HS : Hid (∀ j, j < k → hs.getD j (0, 0) = hs'.getD j (0, 0)) := hs1
    clear hs1
    by_cases hlt : k < n
    · have e1 : (k : Int) < n := by omega
      have e0 : (0 : Int) ≤ k := by omega
      obtain ⟨g, o, rfl, c3, c4⟩ := HX.out k hlt
      obtain ⟨g', o', rfl, c5, c6⟩ := HY.out k hlt
      by_cases hpq : hs.getD k (0, 0) = hs'.getD k (0, 0)
      · have HP : Hid (∀ j, j < k + 1 → hs.getD j (0, 0) = hs'.getD j (0, 0)) := show ∀ j, j < k + 1 → hs.getD j (0, 0) = hs'.getD j (0, 0) from fun j hj => by
          rcases Nat.lt_or_ge j k with h | h
          · exact HS.out j h
          · obtain rfl : j = k := by omega
            exact hpq
        rw [← hpq] at c5 c6
        clear hpq
        generalize (hs.getD k (0, 0)).1 = p at *
        generalize (hs.getD k (0, 0)).2 = q at *
        go_wp2_with fail
        go_quiet (fail)
        go_wp2
        go_roundw
        case rel => exact ⟨k + 1, _, by omega, by go_num, HP.out, by first | rfl | trivial⟩
        case measure => simp [RowKit.intOf]; omega
      · have e9 : r = false := by
          rw [← HK.out]
          exact decide_eq_false fun h => hpq (by rw [h.2.2.2])
        subst e9
        have hpz : ¬ ((hs.getD k (0, 0)).1 = (hs'.getD k (0, 0)).1 ∧ (hs.getD k (0, 0)).2 = (hs'.getD k (0, 0)).2) := fun h => hpq (Prod.ext h.1 h.2)
        clear hpq
        generalize (hs.getD k (0, 0)).1 = p at *
        generalize (hs.getD k (0, 0)).2 = q at *
        generalize (hs'.getD k (0, 0)).1 = p' at *
        generalize (hs'.getD k (0, 0)).2 = q' at *
        by_cases hp : p = p'
        · subst hp
          have hq : ¬ q = q' := fun h => hpz ⟨rfl, h⟩
          clear hpz
          go_wp2_with fail
          go_quiet (fail)
          go_wp2
          go_ret
          exact ⟨rfl, dn (dn HB.out u) _⟩
        · clear hpz
          go_wp2_with fail
          go_quiet (fail)
          go_wp2
          go_ret
          exact ⟨rfl, dn (dn HB.out u) _⟩
    · obtain rfl : k = n := by omega
      have e1 : ¬ (k : Int) < (k : Int) := by omega
      have e9 : r = true := by
        rw [← HK.out]
        exact decide_eq_true ⟨by first | rfl | trivial, by first | rfl | trivial, by first | rfl | trivial, pairs_upto (by rw [HN.out, HN'.out]) fun j hj => HS.out j (by rw [HN.out] at hj; exact hj)⟩
      subst e9
      go_wp2
      go_ret
      exact ⟨rfl, dn HB.out u⟩
end Go.Proofs.Ytnhfoojnokiboaa
