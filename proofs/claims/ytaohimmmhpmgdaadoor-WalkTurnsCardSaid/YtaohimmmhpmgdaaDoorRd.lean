/-
  Numbers that came in, or that are the call's own, read as a list.
-/
import Derived.Test.YtaohimmmhpmgdaaDoorPlain
import Derived.Test.YtaohimmmhpmgdaaDoorVi
namespace Go.Proofs.YtaohimmmhpmgdaaDoor
open Go.RowKit

/-- A slice that reads as these values: in one block, at an offset. -/
def RdA (w : World) (a : Option Addr) (vs : List Value) : Prop :=
  ∀ (j : Nat) (v : Value), vs[j]? = some v → ∃ g o, a = some ⟨g, o, none⟩ ∧ g < w.heap.size ∧ w.cell? ⟨g, o + j, none⟩ = some v
theorem RdA.of {w : World} {a : Option Addr} {vs : List Value} (h : Rd w a vs) : RdA w a vs := fun j v hj => by
  obtain ⟨g, h1, h2, h3⟩ := h j v hj
  exact ⟨g, 0, h1, h2, by rw [Nat.zero_add]; exact h3⟩
theorem RdA.keep {w w' : World} {a : Option Addr} {vs : List Value} (h : RdA w a vs) (hs : w.heap.size ≤ w'.heap.size) (hk : ∀ g, g < w.heap.size → w'.heap[g]? = w.heap[g]?) : RdA w' a vs := fun j v hj => by
  obtain ⟨g, o, h1, h2, h3⟩ := h j v hj
  exact ⟨g, o, h1, by omega, by rw [World.cell?_of_block (hk g h2)]; exact h3⟩
theorem RdA.below {w w' : World} {a : Option Addr} {vs : List Value} (h : RdA w a vs) (b : Below w.heap.size w w') : RdA w' a vs := h.keep b.size (fun g hg => b.block g hg)
theorem RdA.alloc {w : World} {a : Option Addr} {vs : List Value} (h : RdA w a vs) (o : Obj) : RdA (w.alloc o) a vs := h.keep (by simp) (fun g hg => Below.heap_alloc _ _ _ hg)
theorem RdA.nil (w : World) (a : Option Addr) : RdA w a (vi []) := fun j v hj => by cases hj
theorem RdA.take {w : World} {a : Option Addr} {l : List Int} (h : RdA w a (vi l)) (k : Nat) : RdA w a (vi (l.take k)) := fun j v hj => by
  refine h j v ?_
  unfold vi at hj ⊢
  rw [List.map_take] at hj
  rw [List.getElem?_take] at hj
  split at hj
  · exact hj
  · cases hj
/-- Numbers that a machine's words hold. -/
def inI (n : Int) : Prop := -9223372036854775808 ≤ n ∧ n ≤ 9223372036854775807
theorem isN_inI {c : Cf} {n : Int} (h : isN c n = true) : inI n := by
  have := isN_lt h
  unfold inI
  omega
theorem getD_mem {l : List Int} {k : Nat} (h : k < l.length) : l.getD k 0 ∈ l := by
  rw [List.getD_eq_getElem?_getD, List.getElem?_eq_getElem h]
  exact List.getElem_mem _
theorem getD_at {l : List Int} {k : Nat} (h : k < l.length) : l.getD k 0 = l[k] := by
  rw [List.getD_eq_getElem?_getD, List.getElem?_eq_getElem h]
  rfl
end Go.Proofs.YtaohimmmhpmgdaaDoor
