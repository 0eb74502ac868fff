/-
  A region that draws its order, whose operations only read and whose callees read and may lay blocks of their own, walked once: the class of all worlds in which the old blocks are as they were. No function in it.
-/
import Derived.Test.YtaohimmmhpmgdaaDoorBlk
import Derived.Deep.QuietTactic
import Derived.BigQuiet
namespace Go.Proofs.YtaohimmmhpmgdaaDoor
open Go.RowKit

/-- A world in which the old blocks are as they were (a structure of its own: the walk's simp keeps it whole). -/
structure Gw (w : World) where
  v : World
  le : Below w.heap.size w v
instance (w : World) : Nonempty (Gw w) := ⟨⟨w, Below.refl _ _⟩⟩
theorem quiet_below {P : Program} {f : FuncId} {args : Array Value} {w : World} {p : Gw w} {v : Value}
    (h : Calls P f args p.v fun e w' => e = .returned v ∧ Below p.v.heap.size p.v w') : Calls P f args p.v fun e w'' => e = .returned v ∧ ∃ q : Gw w, w'' = q.v :=
  h.mono fun _ _ ⟨he, hb⟩ => ⟨he, ⟨_, nxt p.le hb⟩, rfl⟩
theorem region_gw {P : Program} {id : Nat} {Q : Exit → Act → World → Prop} {a : Act} {w : World} {l : List Oper} (hm : P.follows .mixedOrders = true) (hB : Region.lexB .any l.toArray = true)
    (h : wpQuiet P l.toArray (fun w' => ∃ p : Gw w, w' = p.v) (fun a' => ∀ w', (∃ p : Gw w, w' = p.v) → Q .normal a' w') l a) : (Code.region id l.toArray true).wp P Q a w :=
  wp_region_quiet (C := fun w' => ∃ p : Gw w, w' = p.v) hm hB ⟨⟨w.drew, (Below.refl _ _).drew⟩, rfl⟩ (by simpa using h)
theorem Gw.cell {w : World} (p : Gw w) {a : Addr} {x : Value} (hb : a.block < w.heap.size) (h : w.cell? a = some x) : p.v.cell? a = some x := (p.le.cell (p := a) hb).trans h
/-- The config's nine cells, in each of them. -/
theorem W1.gw {w u : World} {c : Cf} (h : W1 w c u) : (∀ p : Gw u, p.v.cell? ⟨w.heap.size, 0, none⟩ = some (.int .i64 c.w)) ∧ (∀ p : Gw u, p.v.cell? ⟨w.heap.size, 1, none⟩ = some (.int .i64 c.h)) ∧ (∀ p : Gw u, p.v.cell? ⟨w.heap.size, 2, none⟩ = some (.int .i64 c.l)) ∧
    (∀ p : Gw u, p.v.cell? ⟨w.heap.size, 3, none⟩ = some (.int .i64 c.d)) ∧ (∀ p : Gw u, p.v.cell? ⟨w.heap.size, 4, none⟩ = some (.int .i64 c.r)) ∧ (∀ p : Gw u, p.v.cell? ⟨w.heap.size, 5, none⟩ = some (.int .i64 c.i)) ∧
    (∀ p : Gw u, p.v.cell? ⟨w.heap.size, 6, none⟩ = some (.int .i64 c.b)) ∧ (∀ p : Gw u, p.v.cell? ⟨w.heap.size, 7, none⟩ = some (.bool c.we)) ∧ (∀ p : Gw u, p.v.cell? ⟨w.heap.size, 8, none⟩ = some (.bool c.ca)) := by
  obtain ⟨x0, x1, x2, x3, x4, x5, x6, x7, x8⟩ := h.cells
  have hl := h.lt
  exact ⟨fun p => p.cell hl x0, fun p => p.cell hl x1, fun p => p.cell hl x2, fun p => p.cell hl x3, fun p => p.cell hl x4, fun p => p.cell hl x5, fun p => p.cell hl x6, fun p => p.cell hl x7, fun p => p.cell hl x8⟩
end Go.Proofs.YtaohimmmhpmgdaaDoor
