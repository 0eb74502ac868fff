/-
  The walk of the program's Same.
-/
import Derived.Test.YtnhfoojnokiboaaEqT
import Derived.Test.YtnhfoojnokiboaaBack
namespace Go.Proofs.Ytnhfoojnokiboaa
open Go.RowKit

set_option maxRecDepth 100000 in
set_option maxHeartbeats 8000000 in
theorem csame_any (s s' : Int) (c c' : Bool) (a a' : Option Addr) (cap cap' : Nat) (x x' : ByteArray) (hs hs' : List (Int × Int)) (w : World) (hl : hs.length ≤ 1000000) (hl' : hs'.length ≤ 1000000) (hr : Rd w a (pc hs)) (hr' : Rd w a' (pc hs')) :
    Calls Try.prog 18 #[pcv s c (.slice a hs.length cap) x, pcv s' c' (.slice a' hs'.length cap') x'] w fun e w' => e = .returned (.bool (Pc.sameB ⟨s, c, hs, x⟩ ⟨s', c', hs', x'⟩)) ∧ Below w.heap.size w w' := by
  obtain ⟨r, hk⟩ : ∃ r, Pc.sameB ⟨s, c, hs, x⟩ ⟨s', c', hs', x'⟩ = r := ⟨_, rfl⟩
  have HK : Hid (decide (s = s' ∧ c = c' ∧ x = x' ∧ hs = hs') = r) := hk
  rw [hk]
  clear hk
  have B0 := two_blocks w #[.int .i64 s, .bool c, .slice a hs.length cap, .string x] #[.int .i64 s', .bool c', .slice a' hs'.length cap', .string x'] 28 28
  have HE0 := eqt_any hs hs' a a' cap cap' ((w.alloc (.cells #[.int .i64 s, .bool c, .slice a hs.length cap, .string x] 28)).alloc (.cells #[.int .i64 s', .bool c', .slice a' hs'.length cap', .string x'] 28)) hl hl' ((hr.alloc _).alloc _) ((hr'.alloc _).alloc _)
  obtain ⟨q, hq⟩ : ∃ q, decide (hs = hs') = q := ⟨_, rfl⟩
  have HQ : Hid (q = true ↔ hs = hs') := by rw [← hq]; exact decide_eq_true_iff
  rw [hq] at HE0
  obtain ⟨n, hn⟩ : ∃ n, hs.length = n := ⟨_, rfl⟩
  obtain ⟨n', hn'⟩ : ∃ n', hs'.length = n' := ⟨_, rfl⟩
  rw [hn] at hl HE0 B0 ⊢
  rw [hn'] at hl' HE0 B0 ⊢
  clear hr hn hr' hn' hq
  simp only [pcv, pcc] at *
  have HB : Hid (Below w.heap.size w ((w.alloc (.cells #[.int .i64 s, .bool c, .slice a n cap, .string x] 28)).alloc (.cells #[.int .i64 s', .bool c', .slice a' n' cap', .string x'] 28))) := B0.out.2.2.1
  have D0 := B0.out.1.cell 0
  have D1 := B0.out.1.cell 1
  have D2 := B0.out.1.cell 2
  have D3 := B0.out.1.cell 3
  have D4 := B0.out.2.1.cell 0
  have D5 := B0.out.2.1.cell 1
  have D6 := B0.out.2.1.cell 2
  have D7 := B0.out.2.1.cell 3
  clear B0
  go_enter Try.func18, Try.ntmps18
  go_upto_region 1 with fail
  generalize hW1 : (w.alloc (.cells #[.int .i64 s, .bool c, .slice a n cap, .string x] 28)).alloc (.cells #[.int .i64 s', .bool c', .slice a' n' cap', .string x'] 28) = w1 at *
  clear hW1
  simp at D0 D1 D2 D3 D4 D5 D6 D7
  by_cases a0 : s = s'
  case neg =>
    have e9 : r = false := by
      rw [← HK.out]
      exact decide_eq_false fun h => a0 h.1
    subst e9
    have b0 : (s == s') = false := by simp [a0]
    go_wp2
    go_ret
    exact ⟨rfl, HB.out⟩
  subst a0
  by_cases a1 : c = c'
  case neg =>
    have e9 : r = false := by
      rw [← HK.out]
      exact decide_eq_false fun h => a1 h.2.1
    subst e9
    have b0 : (c == c') = false := by simp [a1]
    go_wp2
    go_ret
    exact ⟨rfl, HB.out⟩
  subst a1
  cases q with
  | false =>
    have e9 : r = false := by
      rw [← HK.out]
      exact decide_eq_false fun h => by simpa using HQ.out.2 h.2.2.2
    subst e9
    cases c
    all_goals
      go_wp2_with fail
      go_at_call 32
      with_reducible refine HE0.mono ?_
      rintro e w2 ⟨rfl, m, rfl⟩
      go_wp2
      go_ret
      exact ⟨rfl, dn HB.out _⟩
  | true =>
    have hh : hs = hs' := HQ.out.1 rfl
    by_cases a2 : x = x'
    case neg =>
      have e9 : r = false := by
        rw [← HK.out]
        exact decide_eq_false fun h => a2 h.2.2.1
      subst e9
      replace a2 : ¬ x.toList = x'.toList := fun h => a2 (toList_inj h)
      have b2 : (x.toList == x'.toList) = false := by simp [a2]
      cases c
      all_goals
        go_wp2_with fail
        go_at_call 32
        with_reducible refine HE0.mono ?_
        rintro e w2 ⟨rfl, m, rfl⟩
        go_wp2
        go_ret
        exact ⟨rfl, dn HB.out _⟩
    subst a2
    have e9 : r = true := by
      rw [← HK.out]
      exact decide_eq_true ⟨by first | rfl | trivial, by first | rfl | trivial, by first | rfl | trivial, hh⟩
    subst e9
    cases c
    all_goals
      go_wp2_with fail
      go_at_call 32
      with_reducible refine HE0.mono ?_
      rintro e w2 ⟨rfl, m, rfl⟩
      go_wp2
      go_ret
      exact ⟨rfl, dn HB.out _⟩
end Go.Proofs.Ytnhfoojnokiboaa
