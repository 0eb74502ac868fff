/-
  The walk of BitsPacks.
-/
import Derived.Test.YtknmloompmnmnaaLaws
namespace Go.Proofs.Ytknmloompmnmnaa
open Go.RowKit

set_option maxHeartbeats 1600000 in
/-- BitsPacks, where the first twenty of each are known. -/
theorem packs_tail (w : World) (a1 a2 : Option Addr) (n m N M c1 c2 : Nat) (l : List Int) (vs : List Nat) (W : Nat) (hW : W < 18446744073709551616) (HN : Hid (N = l.length)) (HM : Hid (M = vs.length))
    (h1 : n ≤ c1) (h2 : c1 ≤ 2 ^ 63 - 1) (h3 : m ≤ c2) (h4 : c2 ≤ 2 ^ 63 - 1) (hN : N ≤ 20) (hM : M ≤ 20) (hn : (n ≤ 20 ∧ N = n) ∨ (20 < n ∧ N = 20)) (hm : (m ≤ 20 ∧ M = m) ∨ (20 < m ∧ M = 20))
    (R1 : Hid (Rd w a1 (vi l))) (R2 : Hid (Rd w a2 (vu vs))) (SM : Hid (small vs)) :
    Calls Try.prog 4 #[.slice a1 n c1, .slice a2 m c2, .int .u64 W] w fun e w' => e = .returned (.bool true) ∧ Below w.heap.size w w' := by
  have V := lives_any w
  obtain ⟨B, hB⟩ : ∃ B, B = w.heap.size := ⟨_, rfl⟩
  rw [← hB] at V ⊢
  have HB : Hid (B = w.heap.size) := hB
  clear hB
  have hK := fun (w' : World) (h : Below B w w') => pack_any w' a1 a2 N M c1 c2 l vs HN.out HM.out (by omega) (by omega) (R1.out.below (by rw [← HB.out]; exact h)) (R2.out.below (by rw [← HB.out]; exact h)) SM.out
  have hL := fun (w' : World) (h : Below B w w') => rpack_any w' a1 a2 N M c1 c2 l vs HN.out HM.out (by omega) (by omega) (R1.out.below (by rw [← HB.out]; exact h)) (R2.out.below (by rw [← HB.out]; exact h)) SM.out
  have hU := fun (w' : World) (h : Below B w w') => unpack_any W hW w' a1 N c1 l HN.out (by omega) (R1.out.below (by rw [← HB.out]; exact h))
  have hX := fun (w' : World) (h : Below B w w') => runpack_any W hW w' a1 N c1 l HN.out (by omega) (R1.out.below (by rw [← HB.out]; exact h))
  have hul : (unpackR W l).1.length ≤ 1000000 := by
    unfold unpackR
    split
    · rw [vals_len]; have := HN.out; omega
    · simp
  generalize packR l vs = p at *
  generalize unpackR W l = u at *
  obtain ⟨p1, p2⟩ := p
  obtain ⟨u1, u2⟩ := u
  simp only at hK hL hU hX hul
  obtain ⟨un, hun⟩ : ∃ un, un = u1.length := ⟨_, rfl⟩
  have HUN : Hid (un = u1.length) := hun
  rw [← hun] at hul
  clear hun
  rcases hn with ⟨hn, rfl⟩ | ⟨hn, rfl⟩
  all_goals
    rcases hm with ⟨hm, rfl⟩ | ⟨hm, rfl⟩
    all_goals
      go_enter Try.func4, Try.ntmps4
      go_wp2_with (go_at_call 9; (with_reducible refine V.mono ?_); rintro e w1 ⟨rfl, hb1⟩)
      go_quiet (fail)
      go_wp2_with fail
      have B1 : Hid (Below B w (w1.drewN nq)) := below_drewN hb1 _
      go_at_call 14
      refine (hK _ B1.out).mono ?_
      rintro e w2 ⟨rfl, hD2⟩
      have B2 : Hid (Below B w w2) := B1.out.trans (hD2.below B)
      clear hb1 hD2 B1
      go_wp2_with fail
      go_at_call 15
      refine (hL _ B2.out).mono ?_
      rintro e w3 ⟨rfl, hD3⟩
      have B3 : Hid (Below B w w3) := B2.out.trans (hD3.below B)
      clear hD3 B2
      go_wp2_with fail
      go_at_call 16
      refine (hU _ B3.out).mono ?_
      rintro e w4 ⟨v4, rfl, hU4, hb4⟩
      obtain ⟨a4, cap4, rfl, _, _, hR4⟩ := hU4.rd
      have hs3 : B ≤ w3.heap.size := by have := B3.out.size; have := HB.out; omega
      have B4 : Hid (Below B w w4) := B3.out.trans (hb4.mono hs3)
      have R4 : Hid (Rd w4 a4 (vu u1)) := hR4
      have HS4 : Hid (B ≤ w4.heap.size) := by have := hb4.size; show _ ≤ _; omega
      clear hU4 hb4 hR4 B3 hs3
      rw [← HUN.out]
      go_wp2_with fail
      go_at_call 17
      refine (hX _ B4.out).mono ?_
      rintro e w5 ⟨v5, rfl, hU5, hb5⟩
      obtain ⟨a5, cap5, rfl, _, _, hR5⟩ := hU5.rd
      have B5 : Hid (Below B w w5) := B4.out.trans (hb5.mono HS4.out)
      have R5 : Hid (Rd w5 a5 (vu u1)) := hR5
      have R4' : Hid (Rd w5 a4 (vu u1)) := R4.out.below hb5
      clear hU5 hb5 hR5 B4 R4
      rw [← HUN.out]
      have S := same_any w5 a4 a5 un cap4 cap5 u1 HUN.out hul R4'.out R5.out
      go_wp2_with (go_at_call 18; (with_reducible refine S.mono ?_); rintro e w6 ⟨rfl, hD6⟩)
      go_ret
      exact ⟨rfl, B5.out.trans (hD6.below B)⟩

set_option maxHeartbeats 800000 in
theorem bitsPacks_any (w : World) (a1 a2 : Option Addr) (n m c1 c2 : Nat) (l : List Int) (vs : List Nat) (W : Nat) (hW : W < 18446744073709551616) (hn : n = l.length) (hm : m = vs.length)
    (h1 : n ≤ c1) (h2 : c1 ≤ maxLen) (h3 : m ≤ c2) (h4 : c2 ≤ maxLen) (hr : Rd w a1 (vi l)) (hv : Rd w a2 (vu vs)) (hsm : small vs) :
    Calls Try.prog 4 #[.slice a1 n c1, .slice a2 m c2, .int .u64 W] w fun e w' => e = .returned (.bool true) ∧ Below w.heap.size w w' := by
  unfold maxLen at h2 h4
  have V := lives_any w
  have R1 : Hid (Rd w a1 (vi (l.take 20))) := by have := hr.take 20; rw [vi_take] at this; exact this
  have R2 : Hid (Rd w a2 (vu (vs.take 20))) := by have := hv.take 20; rw [vu_take] at this; exact this
  have SM : Hid (small (vs.take 20)) := fun v hv => hsm v (List.mem_of_mem_take hv)
  clear hr hv hsm
  obtain ⟨l', hl'⟩ : ∃ l', l' = l.take 20 := ⟨_, rfl⟩
  obtain ⟨vs', hvs'⟩ : ∃ vs', vs' = vs.take 20 := ⟨_, rfl⟩
  have e1 : l'.length = min 20 n := by rw [hl', List.length_take, hn]
  have e2 : vs'.length = min 20 m := by rw [hvs', List.length_take, hm]
  rw [← hl'] at R1
  rw [← hvs'] at R2 SM
  clear hl' hvs' hn hm
  rcases (by omega : n ≤ 20 ∨ 20 < n) with hn2 | hn2
  · have HN : Hid (n = l'.length) := by show _ = _; omega
    rcases (by omega : m ≤ 20 ∨ 20 < m) with hm2 | hm2
    · have HM : Hid (m = vs'.length) := by show _ = _; omega
      clear e1 e2
      exact packs_tail w a1 a2 n m n m c1 c2 l' vs' W hW HN HM h1 h2 h3 h4 hn2 hm2 (by omega) (by omega) R1 R2 SM
    · have HM : Hid (20 = vs'.length) := by show _ = _; omega
      clear e1 e2
      exact packs_tail w a1 a2 n m n 20 c1 c2 l' vs' W hW HN HM h1 h2 h3 h4 hn2 (by omega) (by omega) (by omega) R1 R2 SM
  · have HN : Hid (20 = l'.length) := by show _ = _; omega
    rcases (by omega : m ≤ 20 ∨ 20 < m) with hm2 | hm2
    · have HM : Hid (m = vs'.length) := by show _ = _; omega
      clear e1 e2
      exact packs_tail w a1 a2 n m 20 m c1 c2 l' vs' W hW HN HM h1 h2 h3 h4 (by omega) hm2 (by omega) (by omega) R1 R2 SM
    · have HM : Hid (20 = vs'.length) := by show _ = _; omega
      clear e1 e2
      exact packs_tail w a1 a2 n m 20 20 c1 c2 l' vs' W hW HN HM h1 h2 h3 h4 (by omega) (by omega) (by omega) (by omega) R1 R2 SM
end Go.Proofs.Ytknmloompmnmnaa
