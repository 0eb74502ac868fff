/-
  The walk of the document's own Right.
-/
import Derived.Test.YtkigeakaedkjpaaRight2
namespace Go.Proofs.Ytkigeakaedkjpaa
open Go.RowKit

theorem head_iff (s d q l : Int) (x : ByteArray) : headB s d q l x = (decide (0 ≤ s ∧ s ≤ 4095 ∧ 0 ≤ d ∧ d ≤ 4095 ∧ 0 ≤ q ∧ q ≤ 65535 ∧ 0 ≤ l ∧ l ≤ 64) && x.toList.isEmpty) := by
  unfold headB belowB
  generalize x.toList.isEmpty = b
  by_cases h : 0 ≤ s ∧ s ≤ 4095 ∧ 0 ≤ d ∧ d ≤ 4095 ∧ 0 ≤ q ∧ q ≤ 65535 ∧ 0 ≤ l ∧ l ≤ 64
  · rw [decide_eq_true h, decide_eq_true (by omega), decide_eq_true (by omega), decide_eq_true (by omega), decide_eq_true (by omega)]
    rfl
  · rw [decide_eq_false h, Bool.false_and]
    by_cases h1 : 0 ≤ s ∧ s < 4096
    · by_cases h2 : 0 ≤ d ∧ d < 4096
      · by_cases h3 : 0 ≤ q ∧ q < 65536
        · rw [decide_eq_false (show ¬ (0 ≤ l ∧ l < 65) by omega)]; simp
        · rw [decide_eq_false h3]; simp
      · rw [decide_eq_false h2]; simp
    · rw [decide_eq_false h1]; simp

theorem fl_only_iff (f : Fl) : f.onlyB = (decide (f.s = 0 ∧ f.d = 0 ∧ f.q = 0 ∧ f.l = 0) && (!f.m && !f.c)) := by
  unfold Fl.onlyB Fl.eqB
  rw [Bool.eq_iff_iff]
  simp [and_assoc]

theorem fl_right_one {f : Fl} (h : f.k = 1) : f.rightB = headB f.s f.d f.q f.l f.x := by unfold Fl.rightB Fl.headB; rw [if_pos h]
theorem fl_right_two {f : Fl} (h : f.k = 2) : f.rightB = (f.onlyB && decide (f.x.size = 6)) := by unfold Fl.rightB; rw [if_neg (by omega), if_pos h]
theorem fl_right_three {f : Fl} (h : f.k = 3) : f.rightB = (f.onlyB && decide (f.x.size ≤ 6)) := by unfold Fl.rightB; rw [if_neg (by omega), if_neg (by omega), if_pos h]
theorem fl_right_none {f : Fl} (h1 : f.k ≠ 1) (h2 : f.k ≠ 2) (h3 : f.k ≠ 3) : f.rightB = false := by unfold Fl.rightB; rw [if_neg h1, if_neg h2, if_neg h3]
theorem fl_right_bare {f : Fl} (h1 : f.k ≠ 1) (h : f.onlyB = false) : f.rightB = false := by unfold Fl.rightB; rw [if_neg h1, h]; simp

set_option maxRecDepth 100000 in
set_option maxHeartbeats 1600000 in
theorem rright_head (f : Fl) (w : World) (h1 : f.k = 1) : Calls Try.prog 56 #[flv f] w fun e w' => e = .returned (.bool f.rightB) ∧ Below w.heap.size w w' := by
  rw [fl_right_one h1, head_iff]
  obtain ⟨b5, h5⟩ : ∃ b, b = f.x.toList.isEmpty := ⟨_, rfl⟩
  rw [← h5]
  replace h5 := h5.symm
  simp only [flv, flc, h1] at *
  clear h1
  by_cases a0 : 0 ≤ f.s
  case neg =>
    rw [decide_eq_false (by omega), Bool.false_and]
    go_enter Try.func56, Try.ntmps56
    go_wp2
    go_ret
    exact ⟨rfl, (Below.refl _ _).alloc (Nat.le_refl _) _⟩
  by_cases a1 : f.s ≤ 4095
  case neg =>
    rw [decide_eq_false (by omega), Bool.false_and]
    go_enter Try.func56, Try.ntmps56
    go_wp2
    go_ret
    exact ⟨rfl, (Below.refl _ _).alloc (Nat.le_refl _) _⟩
  by_cases a2 : 0 ≤ f.d
  case neg =>
    rw [decide_eq_false (by omega), Bool.false_and]
    go_enter Try.func56, Try.ntmps56
    go_wp2
    go_ret
    exact ⟨rfl, (Below.refl _ _).alloc (Nat.le_refl _) _⟩
  by_cases a3 : f.d ≤ 4095
  case neg =>
    rw [decide_eq_false (by omega), Bool.false_and]
    go_enter Try.func56, Try.ntmps56
    go_wp2
    go_ret
    exact ⟨rfl, (Below.refl _ _).alloc (Nat.le_refl _) _⟩
  by_cases a4 : 0 ≤ f.q
  case neg =>
    rw [decide_eq_false (by omega), Bool.false_and]
    go_enter Try.func56, Try.ntmps56
    go_wp2
    go_ret
    exact ⟨rfl, (Below.refl _ _).alloc (Nat.le_refl _) _⟩
  by_cases a5 : f.q ≤ 65535
  case neg =>
    rw [decide_eq_false (by omega), Bool.false_and]
    go_enter Try.func56, Try.ntmps56
    go_wp2
    go_ret
    exact ⟨rfl, (Below.refl _ _).alloc (Nat.le_refl _) _⟩
  by_cases a6 : 0 ≤ f.l
  case neg =>
    rw [decide_eq_false (by omega), Bool.false_and]
    go_enter Try.func56, Try.ntmps56
    go_wp2
    go_ret
    exact ⟨rfl, (Below.refl _ _).alloc (Nat.le_refl _) _⟩
  by_cases a7 : f.l ≤ 64
  case neg =>
    rw [decide_eq_false (by omega), Bool.false_and]
    go_enter Try.func56, Try.ntmps56
    go_wp2
    go_ret
    exact ⟨rfl, (Below.refl _ _).alloc (Nat.le_refl _) _⟩
  rw [decide_eq_true (by omega), Bool.true_and]
  cases b5
  all_goals
    go_enter Try.func56, Try.ntmps56
    go_wp2
    go_ret
    exact ⟨rfl, (Below.refl _ _).alloc (Nat.le_refl _) _⟩

set_option maxRecDepth 100000 in
set_option maxHeartbeats 1600000 in
theorem rright_data (f : Fl) (w : World) (h1 : f.k ≠ 1) : Calls Try.prog 56 #[flv f] w fun e w' => e = .returned (.bool f.rightB) ∧ Below w.heap.size w w' := by
  have hr := fl_right_bare h1
  rw [fl_only_iff] at hr
  have t1 : (f.k == 1) = false := by simpa using h1
  obtain ⟨R, hR⟩ : ∃ R, R = f.rightB := ⟨_, rfl⟩
  rw [← hR] at hr ⊢
  have HR : Hid (R = f.rightB) := hR
  clear hR
  by_cases a0 : f.s = 0
  case neg =>
    have hz := hr (by rw [decide_eq_false (by omega), Bool.false_and])
    have u0 : (f.s == 0) = false := by simpa using a0
    subst hz
    clear hr h1 HR a0
    simp only [flv, flc] at *
    go_enter Try.func56, Try.ntmps56
    go_wp2
    go_ret
    exact ⟨rfl, (Below.refl _ _).alloc (Nat.le_refl _) _⟩
  by_cases a1 : f.d = 0
  case neg =>
    have hz := hr (by rw [decide_eq_false (by omega), Bool.false_and])
    have u1 : (f.d == 0) = false := by simpa using a1
    subst hz
    clear hr h1 HR a1
    simp only [flv, flc] at *
    go_enter Try.func56, Try.ntmps56
    go_wp2
    go_ret
    exact ⟨rfl, (Below.refl _ _).alloc (Nat.le_refl _) _⟩
  by_cases a2 : f.q = 0
  case neg =>
    have hz := hr (by rw [decide_eq_false (by omega), Bool.false_and])
    have u2 : (f.q == 0) = false := by simpa using a2
    subst hz
    clear hr h1 HR a2
    simp only [flv, flc] at *
    go_enter Try.func56, Try.ntmps56
    go_wp2
    go_ret
    exact ⟨rfl, (Below.refl _ _).alloc (Nat.le_refl _) _⟩
  by_cases a3 : f.l = 0
  case neg =>
    have hz := hr (by rw [decide_eq_false (by omega), Bool.false_and])
    have u3 : (f.l == 0) = false := by simpa using a3
    subst hz
    clear hr h1 HR a3
    simp only [flv, flc] at *
    go_enter Try.func56, Try.ntmps56
    go_wp2
    go_ret
    exact ⟨rfl, (Below.refl _ _).alloc (Nat.le_refl _) _⟩
  obtain ⟨bm, hm⟩ : ∃ b, b = f.m := ⟨_, rfl⟩
  obtain ⟨bc, hc⟩ : ∃ b, b = f.c := ⟨_, rfl⟩
  rw [← hm, ← hc] at hr
  replace hm := hm.symm
  replace hc := hc.symm
  have HM : Hid (f.m = bm) := hm
  have HC : Hid (f.c = bc) := hc
  cases bm
  case true =>
    have hz := hr (by simp)
    subst hz
    clear hr h1 HR HM HC
    simp only [flv, flc, a0, a1, a2, a3, hm] at *
    go_enter Try.func56, Try.ntmps56
    go_wp2
    go_ret
    exact ⟨rfl, (Below.refl _ _).alloc (Nat.le_refl _) _⟩
  cases bc
  case true =>
    have hz := hr (by simp)
    subst hz
    clear hr h1 HR HM HC
    simp only [flv, flc, a0, a1, a2, a3, hm, hc] at *
    go_enter Try.func56, Try.ntmps56
    go_wp2
    go_ret
    exact ⟨rfl, (Below.refl _ _).alloc (Nat.le_refl _) _⟩
  have ho : f.onlyB = true := by rw [fl_only_iff, HM.out, HC.out, decide_eq_true ⟨a0, a1, a2, a3⟩]; rfl
  clear hr HM HC
  by_cases h2 : f.k = 2
  · have hz := HR.out
    rw [fl_right_two h2, ho, Bool.true_and] at hz
    subst hz
    clear HR ho h1 t1
    by_cases h6 : f.x.size = 6
    · rw [decide_eq_true h6]
      have t1 : ((f.x.size : Int) == 6) = true := by simp; omega
      clear h6
      simp only [flv, flc, a0, a1, a2, a3, hm, hc, h2] at *
      go_enter Try.func56, Try.ntmps56
      go_wp2
      go_ret
      exact ⟨rfl, (Below.refl _ _).alloc (Nat.le_refl _) _⟩
    · rw [decide_eq_false h6]
      have t1 : ((f.x.size : Int) == 6) = false := by simp; omega
      clear h6
      simp only [flv, flc, a0, a1, a2, a3, hm, hc, h2] at *
      go_enter Try.func56, Try.ntmps56
      go_wp2
      go_ret
      exact ⟨rfl, (Below.refl _ _).alloc (Nat.le_refl _) _⟩
  have t2 : (f.k == 2) = false := by simpa using h2
  by_cases h3 : f.k = 3
  · have hz := HR.out
    rw [fl_right_three h3, ho, Bool.true_and] at hz
    subst hz
    clear HR ho h1 t1 h2 t2
    by_cases h6 : f.x.size ≤ 6
    · rw [decide_eq_true h6]
      have t1 : decide ((f.x.size : Int) ≤ 6) = true := by simp; omega
      clear h6
      simp only [flv, flc, a0, a1, a2, a3, hm, hc, h3] at *
      go_enter Try.func56, Try.ntmps56
      go_wp2
      go_ret
      exact ⟨rfl, (Below.refl _ _).alloc (Nat.le_refl _) _⟩
    · rw [decide_eq_false h6]
      have t1 : decide ((f.x.size : Int) ≤ 6) = false := by simp; omega
      clear h6
      simp only [flv, flc, a0, a1, a2, a3, hm, hc, h3] at *
      go_enter Try.func56, Try.ntmps56
      go_wp2
      go_ret
      exact ⟨rfl, (Below.refl _ _).alloc (Nat.le_refl _) _⟩
  · have t3 : (f.k == 3) = false := by simpa using h3
    have hz := HR.out
    rw [fl_right_none h1 h2 h3] at hz
    subst hz
    clear HR ho h1 h2 h3
    simp only [flv, flc, a0, a1, a2, a3, hm, hc] at *
    go_enter Try.func56, Try.ntmps56
    go_wp2
    go_ret
    exact ⟨rfl, (Below.refl _ _).alloc (Nat.le_refl _) _⟩

theorem rfright_any (f : Fl) (w : World) : Calls Try.prog 56 #[flv f] w fun e w' => e = .returned (.bool f.rightB) ∧ Below w.heap.size w w' := by
  by_cases h : f.k = 1
  · exact rright_head f w h
  · exact rright_data f w h
end Go.Proofs.Ytkigeakaedkjpaa
