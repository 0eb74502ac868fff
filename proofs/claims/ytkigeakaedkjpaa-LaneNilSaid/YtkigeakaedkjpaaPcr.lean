/-
  A parcel answered, and blocks one behind the other. No function in it.
-/
import Derived.Test.YtkigeakaedkjpaaCBase
import Derived.Test.YtkigeakaedkjpaaStage
namespace Go.Proofs.Ytkigeakaedkjpaa
open Go.RowKit

theorem Try.info31 : (Try.prog.info? 31).map (fun i => (i.zero, i.size, i.bytes)) = some (some (.agg #[.int .i64 0, .int .i64 0]), 2, 16) := by kernel_rfl

/-- A parcel is answered, its Heads in new memory. -/
def PcR (w : World) (p : Pc) (e : Ending) (w' : World) : Prop := ∃ a cap, e = .returned (pcv p.s p.c (.slice a p.hs.length cap) p.x) ∧ p.hs.length ≤ cap ∧ Rd w' a (pc p.hs) ∧ Below w.heap.size w w'
/-- .. and they lie in a block that is new, and may be written. -/
def PcN (w : World) (p : Pc) (e : Ending) (w' : World) : Prop := ∃ a cap, e = .returned (pcv p.s p.c (.slice a p.hs.length cap) p.x) ∧ p.hs.length ≤ cap ∧ Rd w' a (pc p.hs) ∧ Below w.heap.size w w' ∧ ∀ x, a = some x → w.heap.size ≤ x.block ∧ ∃ cs t, Bk w' x.block cs t
theorem PcN.pcr {w : World} {p : Pc} {e : Ending} {w' : World} (h : PcN w p e w') : PcR w p e w' := by
  obtain ⟨a, cap, h1, h2, h3, h4, _⟩ := h
  exact ⟨a, cap, h1, h2, h3, h4⟩
theorem pc_take (l : List (Int × Int)) (k : Nat) (h : k < l.length) : pc (l.take k) ++ [.int .i64 (l.getD k (0, 0)).1, .int .i64 (l.getD k (0, 0)).2] = pc (l.take (k + 1)) := by
  have e : l.take (k + 1) = l.take k ++ [((l.getD k (0, 0)).1, (l.getD k (0, 0)).2)] := by
    rw [List.take_add_one, List.getElem?_eq_getElem h, List.getD_eq_getElem?_getD, List.getElem?_eq_getElem h]
    rfl
  rw [e, pc_snoc]

/-- Three blocks, one behind the other. -/
theorem three_blocks (w : World) (A B C : Array Value) (t u r : TypeId) :
    Hid (Bk (((w.alloc (.cells A t)).alloc (.cells B u)).alloc (.cells C r)) w.heap.size A t ∧ Bk (((w.alloc (.cells A t)).alloc (.cells B u)).alloc (.cells C r)) (w.heap.size + 1) B u ∧ Bk (((w.alloc (.cells A t)).alloc (.cells B u)).alloc (.cells C r)) (w.heap.size + 1 + 1) C r ∧
      Below w.heap.size w (((w.alloc (.cells A t)).alloc (.cells B u)).alloc (.cells C r)) ∧ w.heap.size + 3 ≤ (((w.alloc (.cells A t)).alloc (.cells B u)).alloc (.cells C r)).heap.size) := by
  have e1 : (w.alloc (.cells A t)).heap.size = w.heap.size + 1 := by simp
  have e2 : ((w.alloc (.cells A t)).alloc (.cells B u)).heap.size = w.heap.size + 1 + 1 := by simp
  refine ⟨((Bk.new w A t).alloc _).alloc _, ?_, ?_, (((Below.refl _ _).alloc (Nat.le_refl _) _).alloc (by simp) _).alloc (by simp; omega) _, by simp⟩
  · have := (Bk.new (w.alloc (.cells A t)) B u).alloc (.cells C r)
    rw [e1] at this
    exact this
  · have := Bk.new ((w.alloc (.cells A t)).alloc (.cells B u)) C r
    rw [e2] at this
    exact this

theorem two_blocks (w : World) (A B : Array Value) (t u : TypeId) :
    Hid (Bk ((w.alloc (.cells A t)).alloc (.cells B u)) w.heap.size A t ∧ Bk ((w.alloc (.cells A t)).alloc (.cells B u)) (w.heap.size + 1) B u ∧ Below w.heap.size w ((w.alloc (.cells A t)).alloc (.cells B u)) ∧ ((w.alloc (.cells A t)).alloc (.cells B u)).heap.size = w.heap.size + 1 + 1) := by
  have e1 : (w.alloc (.cells A t)).heap.size = w.heap.size + 1 := by simp
  refine ⟨(Bk.new w A t).alloc _, ?_, ((Below.refl _ _).alloc (Nat.le_refl _) _).alloc (by simp) _, by simp⟩
  have := Bk.new (w.alloc (.cells A t)) B u
  rw [e1] at this
  exact this

end Go.Proofs.Ytkigeakaedkjpaa
