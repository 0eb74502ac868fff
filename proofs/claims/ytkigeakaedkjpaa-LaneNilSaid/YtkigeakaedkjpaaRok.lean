/-
  The walk of the document's Right.
-/
import Derived.Test.YtkigeakaedkjpaaCBase
namespace Go.Proofs.Ytkigeakaedkjpaa
open Go.RowKit

theorem no_ok {p : Pc} (h : ¬ ((0 ≤ p.s ∧ p.s ≤ 4095) ∧ (1 ≤ p.hs.length ∧ p.hs.length ≤ 4096 ∧ (p.c = true ∨ p.hs.length = 1)) ∧ p.x.size ≤ 64 ∧ ∀ h ∈ p.hs, headOk h = true)) : p.okB = false := by
  rw [← Bool.not_eq_true, ok_iff]
  exact h
theorem head_bad {hs : List (Int × Int)} {k : Nat} (hk : k < hs.length) (h : ¬ (0 ≤ (hs.getD k (0, 0)).1 ∧ (hs.getD k (0, 0)).1 ≤ 4095 ∧ 0 ≤ (hs.getD k (0, 0)).2 ∧ (hs.getD k (0, 0)).2 ≤ 65535)) : ¬ ∀ h ∈ hs, headOk h = true := by
  intro hall
  have hm : hs.getD k (0, 0) ∈ hs := by rw [List.getD_eq_getElem?_getD, List.getElem?_eq_getElem hk]; exact List.getElem_mem _
  exact h ((headOk_iff _).1 (hall _ hm))
theorem all_heads {hs : List (Int × Int)} (h : ∀ j, j < hs.length → headOk (hs.getD j (0, 0)) = true) : ∀ h ∈ hs, headOk h = true := by
  intro g hg
  obtain ⟨j, hj, rfl⟩ := List.getElem_of_mem hg
  have := h j hj
  rw [List.getD_eq_getElem?_getD, List.getElem?_eq_getElem hj] at this
  exact this

set_option maxRecDepth 100000 in
set_option maxHeartbeats 4000000 in
theorem rok_any (s : Int) (c : Bool) (a : Option Addr) (cap : Nat) (x : ByteArray) (hs : List (Int × Int)) (w : World) (hl : hs.length ≤ 1000000) (hx : x.size ≤ maxLen) (hr : Rd w a (pc hs)) :
    Calls Try.prog 45 #[pcv s c (.slice a hs.length cap) x] w fun e w' => e = .returned (.bool (Pc.okB ⟨s, c, hs, x⟩)) ∧ Below w.heap.size w w' := by
  obtain ⟨r, hk⟩ : ∃ r, Pc.okB ⟨s, c, hs, x⟩ = r := ⟨_, rfl⟩
  have HK : Hid (Pc.okB ⟨s, c, hs, x⟩ = r) := hk
  rw [hk]
  clear hk
  have HR : Hid (Rd w a (pc hs)) := hr
  unfold maxLen at hx
  obtain ⟨n, hn⟩ : ∃ n, hs.length = n := ⟨_, rfl⟩
  have HN : Hid (hs.length = n) := hn
  rw [hn] at hl ⊢
  clear hr hn
  simp only [pcv] at *
  have HB : Hid (Below w.heap.size w (w.alloc (.cells (pcc s c (.slice a n cap) x) 24))) := (Below.refl _ _).alloc (Nat.le_refl _) _
  have H0 : Hid (Bk (w.alloc (.cells (pcc s c (.slice a n cap) x) 24)) w.heap.size (pcc s c (.slice a n cap) x) 24) := Bk.new _ _ _
  have D0 : (w.alloc (.cells (pcc s c (.slice a n cap) x) 24)).cell? ⟨w.heap.size, 0, none⟩ = some (.int .i64 s) := H0.out.cell 0
  have D1 : (w.alloc (.cells (pcc s c (.slice a n cap) x) 24)).cell? ⟨w.heap.size, 1, none⟩ = some (.bool c) := H0.out.cell 1
  have D2 : (w.alloc (.cells (pcc s c (.slice a n cap) x) 24)).cell? ⟨w.heap.size, 2, none⟩ = some (.slice a n cap) := H0.out.cell 2
  have D3 : (w.alloc (.cells (pcc s c (.slice a n cap) x) 24)).cell? ⟨w.heap.size, 3, none⟩ = some (.string x) := H0.out.cell 3
  have XS : ∀ (k : Nat), k < n → ∃ g o, a = some ⟨g, o, none⟩ ∧ (w.alloc (.cells (pcc s c (.slice a n cap) x) 24)).cell? ⟨g, o + k * 2, none⟩ = some (.int .i64 (hs.getD k (0, 0)).1) ∧ (w.alloc (.cells (pcc s c (.slice a n cap) x) 24)).cell? ⟨g, o + k * 2 + 1, none⟩ = some (.int .i64 (hs.getD k (0, 0)).2) := fun k hk => by
    obtain ⟨g, o, e, hg, c3, c4⟩ := HR.out.pair (k := k) (by rw [HN.out]; exact hk)
    exact ⟨g, o, e, (HB.out.cell (p := ⟨g, o + k * 2, none⟩) hg).trans c3, (HB.out.cell (p := ⟨g, o + k * 2 + 1, none⟩) hg).trans c4⟩
  have HX : Hid (∀ (k : Nat), k < n → ∃ g o, a = some ⟨g, o, none⟩ ∧ (w.alloc (.cells (pcc s c (.slice a n cap) x) 24)).cell? ⟨g, o + k * 2, none⟩ = some (.int .i64 (hs.getD k (0, 0)).1) ∧ (w.alloc (.cells (pcc s c (.slice a n cap) x) 24)).cell? ⟨g, o + k * 2 + 1, none⟩ = some (.int .i64 (hs.getD k (0, 0)).2)) := XS
  clear XS H0 HR
  simp only [pcc] at *
  go_enter Try.func45, Try.ntmps45
  go_wp2_with fail
  generalize hW1 : w.alloc (.cells #[.int .i64 s, .bool c, .slice a n cap, .string x] 24) = w1 at *
  go_loopw [3] (fun i wr => ∃ k : Nat, k ≤ n ∧ i = .int .i64 k ∧ (∀ j, j < k → headOk (hs.getD j (0, 0)) = true) ∧ wr = w1) (fun i _ => n - (RowKit.intOf i).toNat)
  case atStart => exact ⟨0, Nat.zero_le _, rfl, fun j hj => absurd hj (Nat.not_lt_zero _), rfl⟩
  case round =>
    obtain ⟨k, hk, rfl, hs1, rfl⟩ := hrel
    have HS : Hid (∀ j, j < k → headOk (hs.getD j (0, 0)) = true) := hs1
    clear hs1
    by_cases hlt : k < n
    · have e1 : (k : Int) < n := by omega
      have e0 : (0 : Int) ≤ k := by omega
      obtain ⟨g, o, rfl, c3, c4⟩ := HX.out k hlt
      have HBAD : Hid (¬ (0 ≤ (hs.getD k (0, 0)).1 ∧ (hs.getD k (0, 0)).1 ≤ 4095 ∧ 0 ≤ (hs.getD k (0, 0)).2 ∧ (hs.getD k (0, 0)).2 ≤ 65535) → ¬ ∀ h ∈ hs, headOk h = true) := head_bad (by rw [HN.out]; exact hlt)
      have HGOOD : Hid (0 ≤ (hs.getD k (0, 0)).1 ∧ (hs.getD k (0, 0)).1 ≤ 4095 ∧ 0 ≤ (hs.getD k (0, 0)).2 ∧ (hs.getD k (0, 0)).2 ≤ 65535 → headOk (hs.getD k (0, 0)) = true) := (headOk_iff _).2
      obtain ⟨z, hz⟩ : ∃ z, hs.getD k (0, 0) = z := ⟨_, rfl⟩
      have HZ : Hid (hs.getD k (0, 0) = z) := hz
      rw [hz] at c3 c4 HBAD HGOOD
      clear hz
      obtain ⟨p, q⟩ := z
      simp only at c3 c4 HBAD HGOOD
      by_cases b0 : 0 ≤ p
      case neg =>
        have e9 : r = false := by
          rw [← HK.out]
          exact no_ok fun h => HBAD.out (fun e => by omega) h.2.2.2
        subst e9
        go_wp2
        go_ret
        exact ⟨rfl, HB.out⟩
      by_cases b1 : p ≤ 4095
      case neg =>
        have e9 : r = false := by
          rw [← HK.out]
          exact no_ok fun h => HBAD.out (fun e => by omega) h.2.2.2
        subst e9
        go_wp2
        go_ret
        exact ⟨rfl, HB.out⟩
      by_cases b2 : 0 ≤ q
      case neg =>
        have e9 : r = false := by
          rw [← HK.out]
          exact no_ok fun h => HBAD.out (fun e => by omega) h.2.2.2
        subst e9
        go_wp2
        go_ret
        exact ⟨rfl, HB.out⟩
      by_cases b3 : q ≤ 65535
      case neg =>
        have e9 : r = false := by
          rw [← HK.out]
          exact no_ok fun h => HBAD.out (fun e => by omega) h.2.2.2
        subst e9
        go_wp2
        go_ret
        exact ⟨rfl, HB.out⟩
      go_wp2
      go_roundw
      case rel =>
        refine ⟨k + 1, by omega, by go_num, ?_, by first | rfl | trivial⟩
        intro j hj
        rcases Nat.lt_or_ge j k with h | h
        · exact HS.out j h
        · obtain rfl : j = k := by omega
          rw [HZ.out]
          exact HGOOD.out ⟨b0, b1, b2, b3⟩
      case measure => simp [RowKit.intOf]; omega
    · obtain rfl : k = n := by omega
      have e1 : ¬ (k : Int) < (k : Int) := by omega
      have HA : Hid (∀ h ∈ hs, headOk h = true) := all_heads fun j hj => HS.out j (by rw [HN.out] at hj; exact hj)
      clear HX HS
      by_cases a0 : 0 ≤ s
      case neg =>
        have e9 : r = false := by
          rw [← HK.out]
          exact no_ok fun h => (show False by have := h.1.1; simp only at this; omega)
        subst e9
        go_wp2
        go_ret
        exact ⟨rfl, HB.out⟩
      by_cases a1 : s ≤ 4095
      case neg =>
        have e9 : r = false := by
          rw [← HK.out]
          exact no_ok fun h => (show False by have := h.1.2; simp only at this; omega)
        subst e9
        go_wp2
        go_ret
        exact ⟨rfl, HB.out⟩
      by_cases a2 : (1 : Int) ≤ (k : Int)
      case neg =>
        have e9 : r = false := by
          rw [← HK.out]
          exact no_ok fun h => (show False by have := h.2.1.1; simp only [HN.out] at this; omega)
        subst e9
        go_wp2
        go_ret
        exact ⟨rfl, HB.out⟩
      by_cases a3 : (k : Int) ≤ 4096
      case neg =>
        have e9 : r = false := by
          rw [← HK.out]
          exact no_ok fun h => (show False by have := h.2.1.2.1; simp only [HN.out] at this; omega)
        subst e9
        go_wp2
        go_ret
        exact ⟨rfl, HB.out⟩
      by_cases a5 : (x.size : Int) ≤ 64
      case neg =>
        have e9 : r = false := by
          rw [← HK.out]
          exact no_ok fun h => (show False by have := h.2.2.1; simp only at this; omega)
        subst e9
        cases c <;> by_cases a4 : (k : Int) = 1
        all_goals
          go_wp2
          go_ret
          exact ⟨rfl, HB.out⟩
      have HT : Hid ((c = true ∨ k = 1) → r = true) := show (c = true ∨ k = 1) → r = true from fun h => by
        rw [← HK.out, ok_iff]
        exact ⟨⟨a0, a1⟩, ⟨by simp only [HN.out]; omega, by simp only [HN.out]; omega, by simp only [HN.out]; exact h⟩, by simp only; omega, HA.out⟩
      cases c with
      | true =>
        have e9 : r = true := HT.out (Or.inl rfl)
        subst e9
        go_wp2
        go_ret
        exact ⟨rfl, HB.out⟩
      | false =>
        by_cases a4 : (k : Int) = 1
        case neg =>
          have e9 : r = false := by
            rw [← HK.out]
            exact no_ok fun h => (show False by have := h.2.1.2.2; simp only [HN.out] at this; rcases this with h | h; cases h; omega)
          subst e9
          go_wp2
          go_ret
          exact ⟨rfl, HB.out⟩
        have e9 : r = true := HT.out (Or.inr (by omega))
        subst e9
        go_wp2
        go_ret
        exact ⟨rfl, HB.out⟩
end Go.Proofs.Ytkigeakaedkjpaa
