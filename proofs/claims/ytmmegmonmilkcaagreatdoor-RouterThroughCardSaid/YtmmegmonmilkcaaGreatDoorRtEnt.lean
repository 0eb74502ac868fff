/-
  The program's router: is there such a port, such a lane; the lane by which words come in.
-/
import Derived.Test.YtmmegmonmilkcaaGreatDoorRtSev
import Derived.Test.YtmmegmonmilkcaaGreatDoorKn
namespace Go.Proofs.YtmmegmonmilkcaaGreatDoor
open Go.RowKit

theorem hasPort_any (b : Nat) (p : Int) (w : World) : Calls Tryz.prog 66 #[.pointer (some ⟨b, 0, none⟩), .int .i64 p] w fun e w' => e = .returned (.bool (decide (0 ≤ p ∧ p < 5))) ∧ Below w.heap.size w w' := by
  by_cases h0 : 0 ≤ p
  · by_cases h1 : p < 5
    · rw [decide_eq_true ⟨h0, h1⟩]
      go_enter Tryz.func66, Tryz.ntmps66
      go_wp2
      go_ret
      exact ⟨rfl, Below.refl _ _⟩
    · rw [decide_eq_false (fun c => h1 c.2)]
      go_enter Tryz.func66, Tryz.ntmps66
      go_wp2
      go_ret
      exact ⟨rfl, Below.refl _ _⟩
  · rw [decide_eq_false (fun c => h0 c.1)]
    go_enter Tryz.func66, Tryz.ntmps66
    go_wp2
    go_ret
    exact ⟨rfl, Below.refl _ _⟩
section
variable {w : World} {b : Nat} {c : G.Cf} {S : RS} {Y : Lay}
theorem has_any (h : RtAt w b c S Y) (_hn : S.n ≤ 8) (p l : Int) : Calls Tryz.prog 52 #[.pointer (some ⟨b, 0, none⟩), .int .i64 p, .int .i64 l] w fun e w' => e = .returned (.bool (inRt S p l)) ∧ Below w.heap.size w w' := by
  have HP := hasPort_any b p w
  by_cases hp : 0 ≤ p ∧ p < 5
  · rw [decide_eq_true hp] at HP
    obtain ⟨P, rfl⟩ : ∃ P : Nat, p = (P : Int) := ⟨p.toNat, by omega⟩
    have hP : P < 5 := by omega
    have hP5 : (P : Int) < 5 := by omega
    have hP0 : (0 : Int) ≤ (P : Int) := by omega
    have c0 : Hid (∀ v, Below w.heap.size w v → v.cell? ⟨b, 10 + P * 4, none⟩ = some (.slice (some ⟨Y.lb P, 0, none⟩) S.n (Y.lc P))) := show _ from fun v hv => ((h.next hv).port hP).1
    by_cases h2 : 0 ≤ l
    · by_cases h3 : l < (S.n : Int)
      · have e : inRt S (P : Int) l = true := inRt_iff.2 ⟨hp.1, hp.2, h2, h3⟩
        rw [e]
        generalize S.n = n at *
        clear e h hp
        go_enter Tryz.func52, Tryz.ntmps52
        go_wp2_with (go_at_call 66; with_reducible refine HP.mono ?_; rintro e w1 ⟨rfl, b1⟩; have c1 := c0.out w1 b1; clear HP)
        go_ret
        exact ⟨rfl, b1⟩
      · have e : inRt S (P : Int) l = false := by
          rw [Bool.eq_false_iff]
          exact fun c => h3 (inRt_iff.1 c).2.2.2
        rw [e]
        generalize S.n = n at *
        clear e h hp
        go_enter Tryz.func52, Tryz.ntmps52
        go_wp2_with (go_at_call 66; with_reducible refine HP.mono ?_; rintro e w1 ⟨rfl, b1⟩; have c1 := c0.out w1 b1; clear HP)
        go_ret
        exact ⟨by simp [h3], b1⟩
    · have e : inRt S (P : Int) l = false := by
        rw [Bool.eq_false_iff]
        exact fun c => h2 (inRt_iff.1 c).2.2.1
      rw [e]
      clear e h hp c0
      go_enter Tryz.func52, Tryz.ntmps52
      go_wp2_with (go_at_call 66; with_reducible refine HP.mono ?_; rintro e w1 ⟨rfl, b1⟩)
      go_ret
      exact ⟨rfl, b1⟩
  · rw [decide_eq_false hp] at HP
    have e : inRt S p l = false := by
      rw [Bool.eq_false_iff]
      exact fun c => hp ⟨(inRt_iff.1 c).1, (inRt_iff.1 c).2.1⟩
    rw [e]
    clear e h hp
    go_enter Tryz.func52, Tryz.ntmps52
    go_wp2_with (go_at_call 66; with_reducible refine HP.mono ?_; rintro e w1 ⟨rfl, b1⟩)
    go_ret
    exact ⟨rfl, b1⟩
theorem entry_any (h : RtAt w b c S Y) (hn : S.n ≤ 8) (p l : Int) : Calls Tryz.prog 46 #[.pointer (some ⟨b, 0, none⟩), .int .i64 p, .int .i64 l] w fun e w' => e = .returned (.pointer (if inRt S p l = true then some ⟨Y.kb (ixRt S p l), 0, none⟩ else none)) ∧ Below w.heap.size w w' := by
  have HC := has_any h hn p l
  by_cases hin : inRt S p l = true
  · rw [if_pos hin]
    rw [hin] at HC
    obtain ⟨P, L, rfl, rfl, hP, hL, hix⟩ := in_nat hin
    rw [hix]
    have hP5 : (P : Int) < 5 := by omega
    have hP0 : (0 : Int) ≤ (P : Int) := by omega
    have hL0 : (0 : Int) ≤ (L : Int) := by omega
    have hLn : (L : Int) < (S.n : Int) := by omega
    have c0 : Hid (∀ v, Below w.heap.size w v → v.cell? ⟨b, 10 + P * 4, none⟩ = some (.slice (some ⟨Y.lb P, 0, none⟩) S.n (Y.lc P)) ∧ v.cell? ⟨Y.lb P, L, none⟩ = some (.pointer (some ⟨Y.kb (P * S.n + L), 0, none⟩))) := show _ from fun v hv => ⟨((h.next hv).port hP).1, ((h.next hv).at_.lr P hP).1.cell hL⟩
    generalize Y.kb (P * S.n + L) = kb at *
    generalize S.n = n at *
    clear h hin hix
    go_enter Tryz.func46, Tryz.ntmps46
    go_wp2_with (go_at_call 52; with_reducible refine HC.mono ?_; rintro e w1 ⟨rfl, b1⟩; obtain ⟨c1, c2⟩ := c0.out w1 b1; clear HC)
    go_ret
    exact ⟨rfl, b1⟩
  · rw [if_neg hin]
    rw [show inRt S p l = false by simpa using hin] at HC
    clear h hin
    go_enter Tryz.func46, Tryz.ntmps46
    go_wp2_with (go_at_call 52; with_reducible refine HC.mono ?_; rintro e w1 ⟨rfl, b1⟩)
    go_ret
    exact ⟨rfl, b1⟩
end
end Go.Proofs.YtmmegmonmilkcaaGreatDoor
