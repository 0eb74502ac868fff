/-
  What WalkChoices asks of ways: choices behind a way's end, and none along x first. No function in it but Same.
-/
import Derived.Test.YtaohimmmhpmgdaaDoorLM
namespace Go.Proofs.YtaohimmmhpmgdaaDoor
open Go.RowKit

theorem Wk.way {w v : World} {c : Cf} {A : Array Value} {t : TypeId} (h : Wk w c A t v) (b : Bool) : Wk w { c with we := b } A t (v.setCell ⟨w.heap.size, 7, none⟩ (.bool b)) := by
  refine ⟨?_, ?_, h.2.2.setCell (Nat.le_refl _) _⟩
  · have hb := h.1
    unfold Blk at hb ⊢
    simp [World.setCell, Array.getElem?_modify, hb]
  · rw [Below.heap_setCell v ⟨w.heap.size, 7, none⟩ _ (w.heap.size + 1) (by show w.heap.size + 1 ≠ w.heap.size; omega)]
    exact h.2.1
theorem sameK_any (f : Nat → Int) (m : Nat) (a b : Option Addr) (x y : Nat) (w : World) (hl : m ≤ 1000) (ha : Rd w a (vi (wyK f m))) (hb : Rd w b (vi (wyK f m))) :
    Calls Tryd.prog 21 #[.slice a m x, .slice b m y] w fun e w' => e = .returned (.bool true) ∧ ∃ n, w' = w.drewN n := by
  have := same_any (wyK f m) a b x y w (by rw [wyK_len]; exact hl) ha hb
  rw [wyK_len] at this
  exact this
theorem getD_take (cs : List Int) (n i : Nat) (h : i < n ∨ cs.length ≤ n) : (cs.take n).getD i 0 = cs.getD i 0 := by
  rw [List.getD_eq_getElem?_getD, List.getD_eq_getElem?_getD]
  rcases h with h | h
  · rw [List.getElem?_take_of_lt h]
  · rw [List.take_of_length_le h]
theorem choices_inv {c : Cf} {a b : Int} (ha : isN c a = true) (hb : isN c b = true) (cs : List Int) : ∃ (m : Nat) (N N0 N1 : Nat → Int), m ≤ 127 ∧ way c a b cs = wyK N m ∧ (∀ n, n = m ∨ cs.length ≤ n → way c a b (cs.take n) = wyK N m) ∧ way c a b [] = wyK N0 m ∧ way { c with we := false } a b cs = wyK N1 m ∧ way { c with we := false } a b [] = wyK N1 m := by
  have hl := fr_in c a b
  refine ⟨(fr c a b).toNat + 1, nd c b cs a, nd c b [] a, nd { c with we := false } b cs a, by omega, way_yes ha hb cs, fun n hn => ?_, way_yes ha hb [], way_yes (c := { c with we := false }) ha hb cs, ?_⟩
  · rw [← way_yes ha hb cs]
    exact way_take fun i hi => getD_take cs n i (by omega)
  · rw [way_first (c := { c with we := false }) rfl [] cs]
    exact way_yes (c := { c with we := false }) ha hb cs
theorem RdA.none (w : World) : RdA w none (vi []) := fun j v hj => by cases hj
end Go.Proofs.YtaohimmmhpmgdaaDoor
