/-
  Parcels answered and blocks laid, as facts for a region walked by an invariant. No function in it.
-/
import Derived.Test.YtnhfoojnokiboaaInv
import Derived.Test.YtnhfoojnokiboaaLB
namespace Go.Proofs.Ytnhfoojnokiboaa
open Go.RowKit

/-- A parcel was answered. -/
def PcV (v : World) (P : Pc) (s : Value) : Prop := ∃ g z, s = .agg #[.int .i64 P.s, .bool P.c, .slice g P.hs.length z, .string P.x] ∧ P.hs.length ≤ z ∧ Rd v g (pc P.hs)
/-- A parcel's block was laid. -/
def PtZ (B : Nat) (v : World) (s : Value) : Prop := ∃ b, s = .pointer (some ⟨b, 0, none⟩) ∧ B ≤ b ∧ Bk v b #[.int .i64 0, .bool false, .slice none 0 0, .string ⟨#[]⟩] 28
theorem PcV.next {v v' : World} {P : Pc} {s : Value} (h : PcV v P s) (hb : Below v.heap.size v v') : PcV v' P s := by
  obtain ⟨g, z, e, q, r⟩ := h
  exact ⟨g, z, e, q, r.below hb⟩
theorem PtZ.next {B : Nat} {v v' : World} {s : Value} (h : PtZ B v s) (hb : Below v.heap.size v v') : PtZ B v' s := by
  obtain ⟨b, e, l, k⟩ := h
  exact ⟨b, e, l, k.next hb⟩
theorem PtZ.ne_new {B : Nat} {v : World} {s : Value} (h : PtZ B v s) : .pointer (some ⟨v.heap.size, 0, none⟩) ≠ s := by
  obtain ⟨b, rfl, _, k⟩ := h
  intro e
  simp only [Value.pointer.injEq, Option.some.injEq, Addr.mk.injEq, and_true] at e
  exact absurd k.lt (by omega)
theorem four_at {v : World} {b : Nat} {s : Int} {c : Bool} {u : Value} {x : ByteArray} {t : TypeId} {x0 x1 x2 x3 : Value} (h : Bk v b (pcc s c u x) t) : Bk ((((v.setCell ⟨b, 0, none⟩ x0).setCell ⟨b, 1, none⟩ x1).setCell ⟨b, 2, none⟩ x2).setCell ⟨b, 3, none⟩ x3) b #[x0, x1, x2, x3] t := by
  have := (((h.set 0 x0).set 1 x1).set 2 x2).set 3 x3
  simpa using this
theorem four_far {v : World} {b b' : Nat} {cs : Array Value} {t : TypeId} {x0 x1 x2 x3 : Value} (h : Bk v b' cs t) (hne : b' ≠ b) : Bk ((((v.setCell ⟨b, 0, none⟩ x0).setCell ⟨b, 1, none⟩ x1).setCell ⟨b, 2, none⟩ x2).setCell ⟨b, 3, none⟩ x3) b' cs t := (((h.far hne).far hne).far hne).far hne
theorem four_rd {v : World} {b : Nat} {s : Int} {c : Bool} {p : Option Addr} {m k : Nat} {x : ByteArray} {t : TypeId} {a : Option Addr} {l : List (Int × Int)} {x0 x1 x2 x3 : Value} (h : Rd v a (pc l)) (hb : Bk v b (pcc s c (.slice p m k) x) t) : Rd ((((v.setCell ⟨b, 0, none⟩ x0).setCell ⟨b, 1, none⟩ x1).setCell ⟨b, 2, none⟩ x2).setCell ⟨b, 3, none⟩ x3) a (pc l) :=
  Rd.off h hb _ (by simp) fun g hg => by
    rw [Below.heap_setCell _ _ _ g hg, Below.heap_setCell _ _ _ g hg, Below.heap_setCell _ _ _ g hg, Below.heap_setCell _ _ _ g hg]
end Go.Proofs.Ytnhfoojnokiboaa
