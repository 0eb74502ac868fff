/-
  The document's example holds: the walk of lives; a row that is answered, as a slice.
-/
import Derived.Test.YtdphimggmjhlaaaDoorRstraight
import Derived.Test.YtdphimggmjhlaaaDoorStraight
import Derived.Test.YtdphimggmjhlaaaDoorRallow
import Derived.Test.YtdphimggmjhlaaaDoorNodeS
namespace Go.Proofs.YtdphimggmjhlaaaDoor
open Go.RowKit

def ex6 : Cf := ⟨4, 4, 1, 1, 1, 1, 1, true, false⟩
theorem ex6_opt : opt ex6 0 5 = [1, 3] := by decide +kernel
theorem ex6_ch : chP (opt ex6 0 5) 3 = 3 ∧ chB (opt ex6 0 5) = true := by decide +kernel
theorem ex6_al : alw 2 3 = true ∧ alw 3 2 = false := by decide +kernel

/-- A row that is answered, as a slice. -/
theorem Row.rd {w w' : World} {l : List Int} {e : Ending} (h : Row w l e w') : ∃ a cap, e = .returned (.slice a l.length cap) ∧ l.length ≤ cap ∧ Rd w' a (vi l) ∧ Below w.heap.size w w' := by
  obtain ⟨v, rfl, own, hb⟩ := h
  obtain ⟨a, cap, rfl, h1, _, h2⟩ := own.rd
  rw [vi_len] at h1 ⊢
  exact ⟨a, cap, rfl, h1, h2, hb⟩
theorem Wk.tabs {w v : World} {c : Cf} {A : Array Value} {t : TypeId} (h : Wk w c A t v) (hS : Tabs w) : Tabs v := hS.next h.2.2
theorem W1.tabs {w v : World} {c : Cf} (h : W1 w c v) (hS : Tabs w) : Tabs v := hS.next h.2

set_option maxRecDepth 100000 in
set_option maxHeartbeats 1000000 in
theorem lives_any (w : World) (hT : Tabs w) : Calls Tryd.prog 9 #[] w fun e w' => e = .returned (.bool true) ∧ Below w.heap.size w w' := by
  have A0 : Hid (W1 w ex6 (w.alloc (.cells (cfc ex6) 23))) := W1.start w ex6
  have K1 := fun v h => options_any ex6 0 5 v h
  rw [ex6_opt] at K1
  have K2 := fun v h => choose_any ex6 0 5 3 (by decide) (by decide) v h
  rw [ex6_ch.1, ex6_ch.2] at K2
  have K3 := fun v h => allowed_any 2 3 v h
  have K4 := fun v h => allowed_any 3 2 v h
  rw [ex6_al.1] at K3
  rw [ex6_al.2] at K4
  have HT : Hid (Tabs w) := hT
  clear hT
  unfold ex6 at *
  simp only [cfv, cfc] at *
  go_enter Tryd.func9, Tryd.ntmps9
  go_wp2_with fail
  go_at_call 13
  refine (K1 _ (A0.out.tabs HT.out)).mono ?_
  rintro e v1 h1
  obtain ⟨a, cap, rfl, _, r1, hb⟩ := h1.rd
  have A1 : Hid (W1 w _ v1) := A0.out.next hb
  clear hb K1 A0 h1
  obtain ⟨x0, x1, x2, x3, x4, x5, x6, x7, x8⟩ := A1.out.cells
  simp only at x0 x1 x2 x3 x4 x5 x6 x7 x8
  go_wp2_with fail
  go_at_call 10
  refine (K2 _ (A1.out.tabs HT.out)).mono ?_
  rintro e v2 ⟨rfl, hb⟩
  have A2 : Hid (W1 w _ v2) := A1.out.next hb
  have r2 := r1.below hb
  obtain ⟨g, rfl, _, c0⟩ := r2 0 _ rfl
  obtain ⟨g', e', _, c1⟩ := r2 1 _ rfl
  obtain rfl : g = g' := by simpa using e'
  have ht := A2.out.tabs HT.out
  clear hb K2 A1 r1 r2 e' x0 x1 x2 x3 x4 x5 x6 x7 x8
  go_wp2_with fail
  go_at_call 15
  refine (K3 _ ht).mono ?_
  rintro e v3 ⟨rfl, rfl⟩
  go_wp2_with fail
  go_at_call 15
  refine (K4 _ ht).mono ?_
  rintro e v3 ⟨rfl, rfl⟩
  clear ht K3 K4
  go_wp2
  go_ret
  exact ⟨rfl, A2.out.below⟩
end Go.Proofs.YtdphimggmjhlaaaDoor
