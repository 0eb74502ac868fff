/-
  Regions that draw their order: whichever of several comes up; one whose callees lay blocks of their own, walked once (the class of all worlds in which the old blocks are as they were). No function in it.
-/
import Derived.Test.YtpmkpjnhdehnhaaStage
import Derived.Test.YtpmkpjnhdehnhaaFBase
namespace Go.Proofs.Ytpmkpjnhdehnhaa
open Go.RowKit

section
variable {P : Program} {ops : Array Oper} {Q : Exit → Act → World → Prop} {md : Region.Mode} {S : World → Prop} {st : Nat}
theorem wpAnyG_any {fuel : Nat} {listed : Array Bool} {a : Act} {w : World} (l : List Nat) (hr : Region.ready md ops listed = l) (hl : l.isEmpty = false)
    (h : ∀ i ∈ l, wpOp P ops Q i (fun a' w' => ((listed.setIfInBounds i true).getD st true = true ∨ S w') ∧ wpAnyG P md ops Q S st fuel (listed.setIfInBounds i true) a' w') a w) : wpAnyG P md ops Q S st (fuel + 1) listed a w := by
  subst hr
  exact ⟨fun h0 => (by rw [h0] at hl; cases hl), h⟩
theorem wpOpG {i : Nat} {o : Oper} {fuel : Nat} {listed : Array Bool} {a : Act} {w : World} (ho : ops[i]? = some o)
    (h : ∀ K' : Act → World → Prop, Shut (∀ a w, ((listed.setIfInBounds i true).getD st true = true ∨ S w) → wpAnyG P md ops Q S st fuel (listed.setIfInBounds i true) a w → K' a w) → if Region.wanted o (yielded ops a.tmps) = true then Oper.wp P o a w K' Q else K' (a.put o.dst undef) w) :
    wpOp P ops Q i (fun a' w' => ((listed.setIfInBounds i true).getD st true = true ∨ S w') ∧ wpAnyG P md ops Q S st fuel (listed.setIfInBounds i true) a' w') a w :=
  wpOp_step ho (fun K' hK => h K' (fun a w hS hW => hK a w ⟨hS, hW⟩))
end
theorem mem2 {i a b : Nat} (h : i ∈ [a, b]) : i = a ∨ i = b := by simpa using h
theorem mem3 {i a b c : Nat} (h : i ∈ [a, b, c]) : i = a ∨ i = b ∨ i = c := by simpa using h
/-- A world in which the old blocks are as they were (a structure of its own: the walk's simp keeps it whole). -/
structure Gw (w : World) where
  v : World
  le : Below w.heap.size w v
instance (w : World) : Nonempty (Gw w) := ⟨⟨w, Below.refl _ _⟩⟩
theorem quiet_below {P : Program} {f : FuncId} {args : Array Value} {w : World} {p : Gw w} {v : Value}
    (h : Calls P f args p.v fun e w' => e = .returned v ∧ Below p.v.heap.size p.v w') : Calls P f args p.v fun e w'' => e = .returned v ∧ ∃ q : Gw w, w'' = q.v :=
  h.mono fun _ _ ⟨he, hb⟩ => ⟨he, ⟨_, p.le.trans (hb.mono p.le.size)⟩, rfl⟩
theorem region_gw {P : Program} {id : Nat} {Q : Exit → Act → World → Prop} {a : Act} {w : World} {l : List Oper} (hm : P.follows .mixedOrders = true) (hB : Region.lexB .any l.toArray = true)
    (h : wpQuiet P l.toArray (fun w' => ∃ p : Gw w, w' = p.v) (fun a' => ∀ w', (∃ p : Gw w, w' = p.v) → Q .normal a' w') l a) : (Code.region id l.toArray true).wp P Q a w :=
  wp_region_quiet (C := fun w' => ∃ p : Gw w, w' = p.v) hm hB ⟨⟨w.drew, (Below.refl _ _).drew⟩, rfl⟩ (by simpa using h)
theorem Gw.cell {w : World} (p : Gw w) {a : Addr} {x : Value} (hb : a.block < w.heap.size) (h : w.cell? a = some x) : p.v.cell? a = some x := (p.le.cell (p := a) hb).trans h
end Go.Proofs.Ytpmkpjnhdehnhaa
