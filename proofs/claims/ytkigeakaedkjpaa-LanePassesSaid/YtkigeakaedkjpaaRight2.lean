/-
  The walks of isOnlyData, flit.Right and flit.Same.
-/
import Derived.Test.YtkigeakaedkjpaaHead
namespace Go.Proofs.Ytkigeakaedkjpaa
open Go.RowKit

def Fl.onlyB (f : Fl) : Bool := f.eqB ⟨f.k, 0, 0, 0, 0, false, false, f.x⟩
def Fl.headB (f : Fl) : Bool := Go.Proofs.Ytkigeakaedkjpaa.headB f.s f.d f.q f.l f.x
def Fl.rightB (f : Fl) : Bool :=
  if f.k = 1 then f.headB else if f.k = 2 then f.onlyB && decide (f.x.size = 6) else if f.k = 3 then f.onlyB && decide (f.x.size ≤ 6) else false

theorem only_any (f : Fl) (w : World) : Calls Try.prog 81 #[flv f] w fun e w' => e = .returned (.bool f.onlyB) ∧ Below w.heap.size w w' := by
  have b0 : Hid (Below w.heap.size w (w.alloc (.cells (flc f) 49))) := (Below.refl _ _).alloc (Nat.le_refl _) _
  have E := run_eq_flit f ⟨f.k, 0, 0, 0, 0, false, false, f.x⟩
  have G := Try.flitGuard
  unfold Fl.onlyB
  generalize f.eqB ⟨f.k, 0, 0, 0, 0, false, false, f.x⟩ = b at *
  simp only [flv, flc] at *
  go_enter Try.func81, Try.ntmps81
  go_wp2
  go_ret
  exact ⟨rfl, b0.out⟩

/-- The cells of a flit that has been boxed. -/
theorem flit_cells {w w1 : World} (f : Fl) (hb : Below (w.heap.size + 1) (w.alloc (.cells (flc f) 49)) w1) (j : Nat) : w1.cell? ⟨w.heap.size, j, none⟩ = (flc f)[j]? := by
  rw [hb.cell (p := ⟨w.heap.size, j, none⟩) (by simp), World.cell?_alloc_at _ _ _ _ rfl]

theorem below_box {w w1 : World} (A : Array Value) (t : TypeId) (hb : Below (w.heap.size + 1) (w.alloc (.cells A t)) w1) : Below w.heap.size w w1 :=
  ((Below.refl _ _).alloc (Nat.le_refl _) _).trans (hb.mono (by omega))

set_option maxHeartbeats 800000 in
theorem fright_any (f : Fl) (w : World) : Calls Try.prog 72 #[flv f] w fun e w' => e = .returned (.bool f.rightB) ∧ Below w.heap.size w w' := by
  have H := head_any f.k f.s f.d f.q f.l f.m f.c f.x (w.alloc (.cells (flc f) 49))
  have O := only_any f (w.alloc (.cells (flc f) 49))
  rw [show (w.alloc (.cells (flc f) 49)).heap.size = w.heap.size + 1 by simp] at H O
  have HC : Hid (∀ w1, Below (w.heap.size + 1) (w.alloc (.cells (flc f) 49)) w1 → w1.cell? ⟨w.heap.size, 7, none⟩ = some (.string f.x)) := fun w1 h => flit_cells f h 7
  have b0 : Hid (Below w.heap.size w (w.alloc (.cells (flc f) 49))) := (Below.refl _ _).alloc (Nat.le_refl _) _
  have B0 : Hid (∀ w1, Below (w.heap.size + 1) (w.alloc (.cells (flc f) 49)) w1 → Below w.heap.size w w1) := fun w1 h => below_box _ _ h
  by_cases h1 : f.k = 1
  · have e : f.rightB = headB f.s f.d f.q f.l f.x := by unfold Fl.rightB Fl.headB; rw [if_pos h1]
    rw [e]
    clear e
    generalize headB f.s f.d f.q f.l f.x = b at *
    simp only [flv, flc, h1] at *
    clear h1 O
    go_enter Try.func72, Try.ntmps72
    go_wp2_with (go_at_call 80; (with_reducible refine H.mono ?_); rintro e w1 ⟨rfl, hb⟩)
    go_ret
    exact ⟨rfl, B0.out _ hb⟩
  by_cases h2 : f.k = 2
  · have e : f.rightB = (f.onlyB && decide (f.x.size = 6)) := by unfold Fl.rightB; rw [if_neg h1, if_pos h2]
    rw [e]
    clear e
    generalize f.onlyB = b at *
    by_cases h6 : f.x.size = 6
    · have t1 : ((f.x.size : Int) == 6) = true := by simp; omega
      simp only [flv, flc, h2, decide_eq_true h6, Bool.and_true] at *
      clear h1 h2 H h6
      cases b
      all_goals
        go_enter Try.func72, Try.ntmps72
        go_wp2_with fail
        go_at_call 81
        refine O.mono ?_
        rintro e w1 ⟨rfl, hb⟩
        have c7 := HC.out _ hb
        have hB := B0.out _ hb
        have HB : Hid (Below w.heap.size w w1) := hB
        clear hb hB
        go_wp2
        go_ret
        exact ⟨rfl, HB.out⟩
    · have t1 : ((f.x.size : Int) == 6) = false := by simp; omega
      simp only [flv, flc, h2, decide_eq_false h6, Bool.and_false] at *
      clear h1 h2 H h6
      cases b
      all_goals
        go_enter Try.func72, Try.ntmps72
        go_wp2_with fail
        go_at_call 81
        refine O.mono ?_
        rintro e w1 ⟨rfl, hb⟩
        have c7 := HC.out _ hb
        have hB := B0.out _ hb
        have HB : Hid (Below w.heap.size w w1) := hB
        clear hb hB
        go_wp2
        go_ret
        exact ⟨rfl, HB.out⟩
  by_cases h3 : f.k = 3
  · have e : f.rightB = (f.onlyB && decide (f.x.size ≤ 6)) := by unfold Fl.rightB; rw [if_neg h1, if_neg h2, if_pos h3]
    rw [e]
    clear e
    generalize f.onlyB = b at *
    by_cases h6 : f.x.size ≤ 6
    · have t1 : decide ((f.x.size : Int) ≤ 6) = true := by simp; omega
      simp only [flv, flc, h3, decide_eq_true h6, Bool.and_true] at *
      clear h1 h2 h3 H h6
      cases b
      all_goals
        go_enter Try.func72, Try.ntmps72
        go_wp2_with fail
        go_at_call 81
        refine O.mono ?_
        rintro e w1 ⟨rfl, hb⟩
        have c7 := HC.out _ hb
        have hB := B0.out _ hb
        have HB : Hid (Below w.heap.size w w1) := hB
        clear hb hB
        go_wp2
        go_ret
        exact ⟨rfl, HB.out⟩
    · have t1 : decide ((f.x.size : Int) ≤ 6) = false := by simp; omega
      simp only [flv, flc, h3, decide_eq_false h6, Bool.and_false] at *
      clear h1 h2 h3 H h6
      cases b
      all_goals
        go_enter Try.func72, Try.ntmps72
        go_wp2_with fail
        go_at_call 81
        refine O.mono ?_
        rintro e w1 ⟨rfl, hb⟩
        have c7 := HC.out _ hb
        have hB := B0.out _ hb
        have HB : Hid (Below w.heap.size w w1) := hB
        clear hb hB
        go_wp2
        go_ret
        exact ⟨rfl, HB.out⟩
  · have e : f.rightB = false := by unfold Fl.rightB; rw [if_neg h1, if_neg h2, if_neg h3]
    rw [e]
    clear e O H
    have t1 : (f.k == 1) = false := by simpa using h1
    have t2 : (f.k == 2) = false := by simpa using h2
    have t3 : (f.k == 3) = false := by simpa using h3
    simp only [flv, flc] at *
    clear h1 h2 h3
    go_enter Try.func72, Try.ntmps72
    go_wp2
    go_ret
    exact ⟨rfl, b0.out⟩
end Go.Proofs.Ytkigeakaedkjpaa
