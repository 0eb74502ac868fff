/-
  A row of words. No function in it.
-/
import Derived.Test.YtkigeakaedkjpaaCBase
namespace Go.Proofs.Ytkigeakaedkjpaa
open Go.RowKit

/-- A row of words. -/
def vw (l : List Nat) : List Value := l.map fun (n : Nat) => .int .u64 (n : Int)
theorem vw_at {l : List Nat} {k : Nat} (h : k < l.length) : (vw l)[k]? = some (.int .u64 ((l.getD k 0 : Nat) : Int)) := by
  unfold vw
  rw [List.getElem?_map, List.getD_eq_getElem?_getD, List.getElem?_eq_getElem h]
  rfl
theorem same_upto {l m : List Nat} (h : l.length = m.length) (h2 : ∀ j, j < l.length → l.getD j 0 = m.getD j 0) : l = m := by
  refine List.ext_getElem h fun j h3 h4 => ?_
  have := h2 j h3
  rw [List.getD_eq_getElem?_getD, List.getD_eq_getElem?_getD, List.getElem?_eq_getElem h3, List.getElem?_eq_getElem h4] at this
  exact this

end Go.Proofs.Ytkigeakaedkjpaa
