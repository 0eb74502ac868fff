/-
  A config's block, and an array's behind it, through a law's walk: no function in it.
-/
import Derived.Test.YtaohimmmhpmgdaaDoorOwn
import Derived.Test.YtaohimmmhpmgdaaDoorCheck
namespace Go.Proofs.YtaohimmmhpmgdaaDoor
open Go.RowKit

theorem nxt {w v v' : World} (h : Below w.heap.size w v) (hb : Below v.heap.size v v') : Below w.heap.size w v' := h.trans (hb.mono h.size)

/-- Block b holds this config. -/
def Blk (v : World) (b : Nat) (c : Cf) : Prop := v.heap[b]? = some (.cells (cfc c) 29 (0, 0))
theorem Blk.cell {v : World} {b : Nat} {c : Cf} (h : Blk v b c) (j : Nat) : v.cell? ⟨b, j, none⟩ = (cfc c)[j]? := cell_of h j
theorem Blk.free {v : World} {b : Nat} {c : Cf} (h : Blk v b c) (j : Nat) : v.frozen? ⟨b, j, none⟩ = false := by
  unfold Blk at h
  simp [World.frozen?, h]
theorem Blk.lt {v : World} {b : Nat} {c : Cf} (h : Blk v b c) : b < v.heap.size := lt_of_heap h
theorem Blk.below {v v' : World} {b : Nat} {c : Cf} (h : Blk v b c) (hb : Below v.heap.size v v') : Blk v' b c := by
  unfold Blk
  rw [hb.block b h.lt]
  exact h
theorem Blk.new (w : World) (c : Cf) : Blk (w.alloc (.cells (cfc c) 29)) w.heap.size c := heap_alloc_new w _
theorem Blk.alloc {v : World} {b : Nat} {c : Cf} (h : Blk v b c) (o : Obj) : Blk (v.alloc o) b c := h.below ((Below.refl _ _).alloc (Nat.le_refl _) o)
theorem Blk.all {v : World} {b : Nat} {c : Cf} (h : Blk v b c) (d : Cf) :
    Blk (((((((((v.setCell ⟨b, 0, none⟩ (.int .i64 d.w)).setCell ⟨b, 1, none⟩ (.int .i64 d.h)).setCell ⟨b, 2, none⟩ (.int .i64 d.l)).setCell ⟨b, 3, none⟩ (.int .i64 d.d)).setCell ⟨b, 4, none⟩ (.int .i64 d.r)).setCell ⟨b, 5, none⟩ (.int .i64 d.i)).setCell ⟨b, 6, none⟩ (.int .i64 d.b)).setCell ⟨b, 7, none⟩ (.bool d.we)).setCell ⟨b, 8, none⟩ (.bool d.ca)) b d := by
  unfold Blk at h ⊢
  simp [World.setCell, Array.getElem?_modify, h]
theorem below_nine {w v : World} {B b : Nat} (h : Below B w v) (hb : B ≤ b) (x0 x1 x2 x3 x4 x5 x6 x7 x8 : Value) :
    Below B w (((((((((v.setCell ⟨b, 0, none⟩ x0).setCell ⟨b, 1, none⟩ x1).setCell ⟨b, 2, none⟩ x2).setCell ⟨b, 3, none⟩ x3).setCell ⟨b, 4, none⟩ x4).setCell ⟨b, 5, none⟩ x5).setCell ⟨b, 6, none⟩ x6).setCell ⟨b, 7, none⟩ x7).setCell ⟨b, 8, none⟩ x8) :=
  ((((((((h.setCell hb _).setCell hb _).setCell hb _).setCell hb _).setCell hb _).setCell hb _).setCell hb _).setCell hb _).setCell hb _
theorem nine_far {v : World} {b k : Nat} (h : k ≠ b) (x0 x1 x2 x3 x4 x5 x6 x7 x8 : Value) :
    (((((((((v.setCell ⟨b, 0, none⟩ x0).setCell ⟨b, 1, none⟩ x1).setCell ⟨b, 2, none⟩ x2).setCell ⟨b, 3, none⟩ x3).setCell ⟨b, 4, none⟩ x4).setCell ⟨b, 5, none⟩ x5).setCell ⟨b, 6, none⟩ x6).setCell ⟨b, 7, none⟩ x7).setCell ⟨b, 8, none⟩ x8).heap[k]? = v.heap[k]? := by
  have f : ∀ (u : World) j x, (u.setCell ⟨b, j, none⟩ x).heap[k]? = u.heap[k]? := fun u j x => Below.heap_setCell u ⟨b, j, none⟩ x k h
  rw [f, f, f, f, f, f, f, f, f]

/-- A law's world: the config in the first block of the call's own, and an array in the one behind it. -/
def Wk (w : World) (c : Cf) (A : Array Value) (t : TypeId) (v : World) : Prop := Blk v w.heap.size c ∧ v.heap[w.heap.size + 1]? = some (.cells A t (0, 0)) ∧ Below w.heap.size w v
theorem Wk.start (w : World) (c : Cf) (A : Array Value) (t : TypeId) : Wk w c A t ((w.alloc (.cells (cfc c) 29)).alloc (.cells A t)) :=
  ⟨(Blk.new w c).alloc _, by
    have h := heap_alloc_new (w.alloc (.cells (cfc c) 29)) (.cells A t)
    rw [show (w.alloc (.cells (cfc c) 29)).heap.size = w.heap.size + 1 by simp] at h
    exact h, ((Below.refl _ _).alloc (Nat.le_refl _) _).alloc (by simp) _⟩
theorem Wk.next {w v v' : World} {c : Cf} {A : Array Value} {t : TypeId} (h : Wk w c A t v) (hb : Below v.heap.size v v') : Wk w c A t v' :=
  ⟨h.1.below hb, by rw [hb.block _ (lt_of_heap h.2.1)]; exact h.2.1, nxt h.2.2 hb⟩
theorem Wk.drewN {w v : World} {c : Cf} {A : Array Value} {t : TypeId} (h : Wk w c A t v) (n : Nat) : Wk w c A t (v.drewN n) := h.next ⟨rfl, rfl, rfl, Nat.le_refl _, fun _ _ => rfl⟩
theorem Wk.drew {w v : World} {c : Cf} {A : Array Value} {t : TypeId} (h : Wk w c A t v) : Wk w c A t v.drew := h.next ⟨rfl, rfl, rfl, Nat.le_refl _, fun _ _ => rfl⟩
theorem Wk.below {w v : World} {c : Cf} {A : Array Value} {t : TypeId} (h : Wk w c A t v) : Below w.heap.size w v := h.2.2
theorem Wk.lt {w v : World} {c : Cf} {A : Array Value} {t : TypeId} (h : Wk w c A t v) : w.heap.size + 1 < v.heap.size := lt_of_heap h.2.1
theorem Wk.arr {w v : World} {c : Cf} {A : Array Value} {t : TypeId} (h : Wk w c A t v) (j : Nat) : v.cell? ⟨w.heap.size + 1, j, none⟩ = A[j]? := cell_of h.2.1 j
theorem Wk.cells {w v : World} {c : Cf} {A : Array Value} {t : TypeId} (h : Wk w c A t v) :
    v.cell? ⟨w.heap.size, 0, none⟩ = some (.int .i64 c.w) ∧ v.cell? ⟨w.heap.size, 1, none⟩ = some (.int .i64 c.h) ∧ v.cell? ⟨w.heap.size, 2, none⟩ = some (.int .i64 c.l) ∧
    v.cell? ⟨w.heap.size, 3, none⟩ = some (.int .i64 c.d) ∧ v.cell? ⟨w.heap.size, 4, none⟩ = some (.int .i64 c.r) ∧ v.cell? ⟨w.heap.size, 5, none⟩ = some (.int .i64 c.i) ∧
    v.cell? ⟨w.heap.size, 6, none⟩ = some (.int .i64 c.b) ∧ v.cell? ⟨w.heap.size, 7, none⟩ = some (.bool c.we) ∧ v.cell? ⟨w.heap.size, 8, none⟩ = some (.bool c.ca) :=
  ⟨h.1.cell 0, h.1.cell 1, h.1.cell 2, h.1.cell 3, h.1.cell 4, h.1.cell 5, h.1.cell 6, h.1.cell 7, h.1.cell 8⟩
theorem Wk.free {w v : World} {c : Cf} {A : Array Value} {t : TypeId} (h : Wk w c A t v) :
    v.frozen? ⟨w.heap.size, 0, none⟩ = false ∧ v.frozen? ⟨w.heap.size, 1, none⟩ = false ∧ v.frozen? ⟨w.heap.size, 2, none⟩ = false ∧ v.frozen? ⟨w.heap.size, 3, none⟩ = false ∧ v.frozen? ⟨w.heap.size, 4, none⟩ = false ∧
    v.frozen? ⟨w.heap.size, 5, none⟩ = false ∧ v.frozen? ⟨w.heap.size, 6, none⟩ = false ∧ v.frozen? ⟨w.heap.size, 7, none⟩ = false ∧ v.frozen? ⟨w.heap.size, 8, none⟩ = false :=
  ⟨h.1.free 0, h.1.free 1, h.1.free 2, h.1.free 3, h.1.free 4, h.1.free 5, h.1.free 6, h.1.free 7, h.1.free 8⟩
/-- Another config is stored. -/
theorem Wk.all {w v : World} {c : Cf} {A : Array Value} {t : TypeId} (h : Wk w c A t v) (d : Cf) :
    Wk w d A t (((((((((v.setCell ⟨w.heap.size, 0, none⟩ (.int .i64 d.w)).setCell ⟨w.heap.size, 1, none⟩ (.int .i64 d.h)).setCell ⟨w.heap.size, 2, none⟩ (.int .i64 d.l)).setCell ⟨w.heap.size, 3, none⟩ (.int .i64 d.d)).setCell ⟨w.heap.size, 4, none⟩ (.int .i64 d.r)).setCell ⟨w.heap.size, 5, none⟩ (.int .i64 d.i)).setCell ⟨w.heap.size, 6, none⟩ (.int .i64 d.b)).setCell ⟨w.heap.size, 7, none⟩ (.bool d.we)).setCell ⟨w.heap.size, 8, none⟩ (.bool d.ca)) :=
  ⟨h.1.all d, (nine_far (by omega) _ _ _ _ _ _ _ _ _).trans h.2.1, below_nine h.2.2 (Nat.le_refl _) _ _ _ _ _ _ _ _ _⟩

/-- The same without an array. -/
def W1 (w : World) (c : Cf) (v : World) : Prop := Blk v w.heap.size c ∧ Below w.heap.size w v
theorem W1.start (w : World) (c : Cf) : W1 w c (w.alloc (.cells (cfc c) 29)) := ⟨Blk.new w c, (Below.refl _ _).alloc (Nat.le_refl _) _⟩
theorem W1.next {w v v' : World} {c : Cf} (h : W1 w c v) (hb : Below v.heap.size v v') : W1 w c v' := ⟨h.1.below hb, nxt h.2 hb⟩
theorem W1.drewN {w v : World} {c : Cf} (h : W1 w c v) (n : Nat) : W1 w c (v.drewN n) := h.next ⟨rfl, rfl, rfl, Nat.le_refl _, fun _ _ => rfl⟩
theorem W1.drew {w v : World} {c : Cf} (h : W1 w c v) : W1 w c v.drew := h.next ⟨rfl, rfl, rfl, Nat.le_refl _, fun _ _ => rfl⟩
theorem W1.below {w v : World} {c : Cf} (h : W1 w c v) : Below w.heap.size w v := h.2
theorem W1.lt {w v : World} {c : Cf} (h : W1 w c v) : w.heap.size < v.heap.size := lt_of_heap h.1
theorem W1.cells {w v : World} {c : Cf} (h : W1 w c v) :
    v.cell? ⟨w.heap.size, 0, none⟩ = some (.int .i64 c.w) ∧ v.cell? ⟨w.heap.size, 1, none⟩ = some (.int .i64 c.h) ∧ v.cell? ⟨w.heap.size, 2, none⟩ = some (.int .i64 c.l) ∧
    v.cell? ⟨w.heap.size, 3, none⟩ = some (.int .i64 c.d) ∧ v.cell? ⟨w.heap.size, 4, none⟩ = some (.int .i64 c.r) ∧ v.cell? ⟨w.heap.size, 5, none⟩ = some (.int .i64 c.i) ∧
    v.cell? ⟨w.heap.size, 6, none⟩ = some (.int .i64 c.b) ∧ v.cell? ⟨w.heap.size, 7, none⟩ = some (.bool c.we) ∧ v.cell? ⟨w.heap.size, 8, none⟩ = some (.bool c.ca) :=
  ⟨h.1.cell 0, h.1.cell 1, h.1.cell 2, h.1.cell 3, h.1.cell 4, h.1.cell 5, h.1.cell 6, h.1.cell 7, h.1.cell 8⟩
theorem W1.free {w v : World} {c : Cf} (h : W1 w c v) :
    v.frozen? ⟨w.heap.size, 0, none⟩ = false ∧ v.frozen? ⟨w.heap.size, 1, none⟩ = false ∧ v.frozen? ⟨w.heap.size, 2, none⟩ = false ∧ v.frozen? ⟨w.heap.size, 3, none⟩ = false ∧ v.frozen? ⟨w.heap.size, 4, none⟩ = false ∧
    v.frozen? ⟨w.heap.size, 5, none⟩ = false ∧ v.frozen? ⟨w.heap.size, 6, none⟩ = false ∧ v.frozen? ⟨w.heap.size, 7, none⟩ = false ∧ v.frozen? ⟨w.heap.size, 8, none⟩ = false :=
  ⟨h.1.free 0, h.1.free 1, h.1.free 2, h.1.free 3, h.1.free 4, h.1.free 5, h.1.free 6, h.1.free 7, h.1.free 8⟩
theorem W1.all {w v : World} {c : Cf} (h : W1 w c v) (d : Cf) :
    W1 w d (((((((((v.setCell ⟨w.heap.size, 0, none⟩ (.int .i64 d.w)).setCell ⟨w.heap.size, 1, none⟩ (.int .i64 d.h)).setCell ⟨w.heap.size, 2, none⟩ (.int .i64 d.l)).setCell ⟨w.heap.size, 3, none⟩ (.int .i64 d.d)).setCell ⟨w.heap.size, 4, none⟩ (.int .i64 d.r)).setCell ⟨w.heap.size, 5, none⟩ (.int .i64 d.i)).setCell ⟨w.heap.size, 6, none⟩ (.int .i64 d.b)).setCell ⟨w.heap.size, 7, none⟩ (.bool d.we)).setCell ⟨w.heap.size, 8, none⟩ (.bool d.ca)) :=
  ⟨h.1.all d, below_nine h.2 (Nat.le_refl _) _ _ _ _ _ _ _ _ _⟩
end Go.Proofs.YtaohimmmhpmgdaaDoor
