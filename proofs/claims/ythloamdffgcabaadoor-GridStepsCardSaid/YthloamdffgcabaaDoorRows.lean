/-
  NARROWER THAN 'FOR EVERY INPUT', by the rows' own cells (each row's printed sentence says how): GridPlaces: laid · GridLinks: laid · GridBack: laid · GridFar: laid · GridSteps: laid.
  DERIVED. THE GIVEN ROWS OF THIS SEAT. 5 by the template 'for every input the law returns true; each argument reads behind the call as it read before'; 0 by the template 'total and deterministic' (their statements: YthloamdffgcabaaDoorTotals.lean).
  GIVEN WITH THE SEED: the statements are not yours to turn. If you find one false, say at which input.
  Laid BY PROGRAM, IN A SANDBOX (cutbox-rows.mjs): the forced cells as the released guide's own fill.sh prints them over the translation ad0d6d796160aa80… (all of the seat's roots in one cut). By AI agents, Wed Nov 11 2026. No macro, syntax, notation, axiom, sorry.
-/
import Derived.Test.YthloamdffgcabaaDoorChecked
import GoSem.Claim
import GoSem.ClaimJoined
import GoSem.ClaimMapViews
import Derived.JoinedTies
import Derived.KernelRfl
namespace Go.Proofs.YthloamdffgcabaaDoor
/- THE CELL 'sum', in the pinned program and in every row, IS THE sha256 OF THE DUMP (.gsa) THAT YthloamdffgcabaaDoorProg.lean LOADS. Nothing in Lean hashes anything: it is a label: what it is worth is what the hold of that sum in a sandbox is worth. -/
noncomputable def Tryd.pinned : Pinned := { name := "ythloamdffgcabaadoor", sum := "ad0d6d796160aa802e74234e6f8466f91c92683c6a331c1e9af68639be536fc5", checked := Tryd.checked }
namespace Rows
def none {H : Type} : Left H := { results := [], args := [] }

/- WHAT THE LISTED PACKAGE-LEVEL VARIABLES READ AS WHEN THE CALL BEGINS. Each datum BY PROGRAM (the guide's laid-datum.mjs) off the statement by which the dump's own 'gosem.cut.vars' lays the variable. In a bare row this is a premise. The card (YthloamdffgcabaaDoorCards.lean) ties it to the program's text. -/
def laid_reticule_grid_steps {H : Type} : DataW H := .agg [.agg [.lit (.int .i64 0), .lit (.int .i64 0)], .agg [.lit (.int .i64 1), .lit (.int .i64 0)], .agg [.lit (.int .i64 (-1)), .lit (.int .i64 0)], .agg [.lit (.int .i64 0), .lit (.int .i64 1)], .agg [.lit (.int .i64 0), .lit (.int .i64 (-1))]]
def laid_reticule_grid_backs {H : Type} : DataW H := .agg [.lit (.int .i64 0), .lit (.int .i64 2), .lit (.int .i64 1), .lit (.int .i64 4), .lit (.int .i64 3)]

/-- 'reticulelaw05.GridPlaces': WHATEVER THE INPUT: true; the input reads as it did. -/
def gridPlacesSpec : ChangeSpec := { name := "gridPlaces", fn := fun _ => fun
  | [d1, d2] => { results := [.lit (.bool true)], args := [d1, d2] }
  | _ => none }
def gridPlacesRow : OpenClaim := { program := "ythloamdffgcabaadoor", sum := "ad0d6d796160aa802e74234e6f8466f91c92683c6a331c1e9af68639be536fc5", func := "reticule/reticulelaw05.GridPlaces", spec := "gridPlaces", unfollowed := true, recurses := true, named := ["reticule/grid.steps", "reticule/grid.backs"], apart := false, laid := [("reticule/grid.steps", laid_reticule_grid_steps), ("reticule/grid.backs", laid_reticule_grid_backs)] }
def GridPlacesSaid : Prop := gridPlacesRow.holds Tryd.pinned (OpenSpec.ofChange gridPlacesSpec)

/-- ITS FALSE NEIGHBOUR: 'it returns false'. Refute it at one input. -/
def gridPlacesWrong : ChangeSpec := { name := "gridPlaces", fn := fun _ => fun
  | [d1, d2] => { results := [.lit (.bool false)], args := [d1, d2] }
  | _ => none }
def GridPlacesWrongFalsely : Prop := gridPlacesRow.holds Tryd.pinned (OpenSpec.ofChange gridPlacesWrong)

/-- 'reticulelaw05.GridLinks': WHATEVER THE INPUT: true; the input reads as it did. -/
def gridLinksSpec : ChangeSpec := { name := "gridLinks", fn := fun _ => fun
  | [d1, d2] => { results := [.lit (.bool true)], args := [d1, d2] }
  | _ => none }
def gridLinksRow : OpenClaim := { program := "ythloamdffgcabaadoor", sum := "ad0d6d796160aa802e74234e6f8466f91c92683c6a331c1e9af68639be536fc5", func := "reticule/reticulelaw05.GridLinks", spec := "gridLinks", unfollowed := true, recurses := true, named := ["reticule/grid.steps"], apart := false, laid := [("reticule/grid.steps", laid_reticule_grid_steps)] }
def GridLinksSaid : Prop := gridLinksRow.holds Tryd.pinned (OpenSpec.ofChange gridLinksSpec)

/-- ITS FALSE NEIGHBOUR: 'it returns false'. Refute it at one input. -/
def gridLinksWrong : ChangeSpec := { name := "gridLinks", fn := fun _ => fun
  | [d1, d2] => { results := [.lit (.bool false)], args := [d1, d2] }
  | _ => none }
def GridLinksWrongFalsely : Prop := gridLinksRow.holds Tryd.pinned (OpenSpec.ofChange gridLinksWrong)

/-- 'reticulelaw05.GridBack': WHATEVER THE INPUT: true; the input reads as it did. -/
def gridBackSpec : ChangeSpec := { name := "gridBack", fn := fun _ => fun
  | [d1, d2, d3] => { results := [.lit (.bool true)], args := [d1, d2, d3] }
  | _ => none }
def gridBackRow : OpenClaim := { program := "ythloamdffgcabaadoor", sum := "ad0d6d796160aa802e74234e6f8466f91c92683c6a331c1e9af68639be536fc5", func := "reticule/reticulelaw05.GridBack", spec := "gridBack", unfollowed := true, recurses := true, named := ["reticule/grid.steps", "reticule/grid.backs"], apart := false, laid := [("reticule/grid.steps", laid_reticule_grid_steps), ("reticule/grid.backs", laid_reticule_grid_backs)] }
def GridBackSaid : Prop := gridBackRow.holds Tryd.pinned (OpenSpec.ofChange gridBackSpec)

/-- ITS FALSE NEIGHBOUR: 'it returns false'. Refute it at one input. -/
def gridBackWrong : ChangeSpec := { name := "gridBack", fn := fun _ => fun
  | [d1, d2, d3] => { results := [.lit (.bool false)], args := [d1, d2, d3] }
  | _ => none }
def GridBackWrongFalsely : Prop := gridBackRow.holds Tryd.pinned (OpenSpec.ofChange gridBackWrong)

/-- 'reticulelaw05.GridFar': WHATEVER THE INPUT: true; the input reads as it did. -/
def gridFarSpec : ChangeSpec := { name := "gridFar", fn := fun _ => fun
  | [d1, d2, d3] => { results := [.lit (.bool true)], args := [d1, d2, d3] }
  | _ => none }
def gridFarRow : OpenClaim := { program := "ythloamdffgcabaadoor", sum := "ad0d6d796160aa802e74234e6f8466f91c92683c6a331c1e9af68639be536fc5", func := "reticule/reticulelaw05.GridFar", spec := "gridFar", unfollowed := true, recurses := true, named := ["reticule/grid.steps"], apart := false, laid := [("reticule/grid.steps", laid_reticule_grid_steps)] }
def GridFarSaid : Prop := gridFarRow.holds Tryd.pinned (OpenSpec.ofChange gridFarSpec)

/-- ITS FALSE NEIGHBOUR: 'it returns false'. Refute it at one input. -/
def gridFarWrong : ChangeSpec := { name := "gridFar", fn := fun _ => fun
  | [d1, d2, d3] => { results := [.lit (.bool false)], args := [d1, d2, d3] }
  | _ => none }
def GridFarWrongFalsely : Prop := gridFarRow.holds Tryd.pinned (OpenSpec.ofChange gridFarWrong)

/-- 'reticulelaw05.GridSteps': WHATEVER THE INPUT: true; the input reads as it did. -/
def gridStepsSpec : ChangeSpec := { name := "gridSteps", fn := fun _ => fun
  | [d1, d2, d3] => { results := [.lit (.bool true)], args := [d1, d2, d3] }
  | _ => none }
def gridStepsRow : OpenClaim := { program := "ythloamdffgcabaadoor", sum := "ad0d6d796160aa802e74234e6f8466f91c92683c6a331c1e9af68639be536fc5", func := "reticule/reticulelaw05.GridSteps", spec := "gridSteps", unfollowed := true, recurses := true, named := ["reticule/grid.steps", "reticule/grid.backs"], apart := false, laid := [("reticule/grid.steps", laid_reticule_grid_steps), ("reticule/grid.backs", laid_reticule_grid_backs)] }
def GridStepsSaid : Prop := gridStepsRow.holds Tryd.pinned (OpenSpec.ofChange gridStepsSpec)

/-- ITS FALSE NEIGHBOUR: 'it returns false'. Refute it at one input. -/
def gridStepsWrong : ChangeSpec := { name := "gridSteps", fn := fun _ => fun
  | [d1, d2, d3] => { results := [.lit (.bool false)], args := [d1, d2, d3] }
  | _ => none }
def GridStepsWrongFalsely : Prop := gridStepsRow.holds Tryd.pinned (OpenSpec.ofChange gridStepsWrong)

/- THE SECOND FORM. 'bulk': how many values and letters a reading holds, each counted each time it is reached (what is shared counts as often as it is met; a slice's spare places count too). A statement '..UptoSaid' is the law's where the arguments, and the package variables that the reading takes, are together of bulk at most 1048576: NARROWER than '..Said'. Prove '..Said' where nothing that the law and all that it calls make is longer than what came in: it says more and counts as full. Else prove '..UptoSaid'. A law counts once. -/
mutual
def uptoBulk {H : Type} : DataW H → Nat
  | .lit (.string bytes) => bytes.length + 1
  | .lit _ => 1
  | .nil => 1
  | .ptr d => uptoBulk d + 1
  | .slice elems spare => uptoBulkAll elems + uptoBulkAll spare + 1
  | .agg parts => uptoBulkAll parts + 1
  | .iface _ d => uptoBulk d + 1
  | .map entries => uptoBulkEntries entries + 1
  | .held _ => 1
def uptoBulkAll {H : Type} : List (DataW H) → Nat
  | [] => 0
  | d :: r => uptoBulk d + uptoBulkAll r
def uptoBulkEntries {H : Type} : List (Lit × DataW H) → Nat
  | [] => 0
  | x :: r => uptoBulkEntry x + uptoBulkEntries r
def uptoBulkEntry {H : Type} : Lit × DataW H → Nat
  | (.string bytes, d) => bytes.length + uptoBulk d + 1
  | (_, d) => uptoBulk d + 1
 end
def uptoSmall : (H : Type) → List (DataW H) → Bool := fun _ ds => decide (uptoBulkAll ds ≤ 1048576)
def OpenSpec.upto (s : _root_.Go.ChangeSpec) : _root_.Go.OpenSpec := { _root_.Go.OpenSpec.ofChange s with cond := some uptoSmall }

/-- 'reticulelaw05.GridPlaces', WHERE WHAT IT READS IS OF BULK AT MOST 1048576: true; the input reads as it did. -/
def gridPlacesUptoRow : OpenClaim := { program := "ythloamdffgcabaadoor", sum := "ad0d6d796160aa802e74234e6f8466f91c92683c6a331c1e9af68639be536fc5", func := "reticule/reticulelaw05.GridPlaces", spec := "gridPlaces", unfollowed := true, recurses := true, named := ["reticule/grid.steps", "reticule/grid.backs"], apart := false, laid := [("reticule/grid.steps", laid_reticule_grid_steps), ("reticule/grid.backs", laid_reticule_grid_backs)], narrowed := true }
def GridPlacesUptoSaid : Prop := gridPlacesUptoRow.holds Tryd.pinned (OpenSpec.upto gridPlacesSpec)

/-- 'reticulelaw05.GridLinks', WHERE WHAT IT READS IS OF BULK AT MOST 1048576: true; the input reads as it did. -/
def gridLinksUptoRow : OpenClaim := { program := "ythloamdffgcabaadoor", sum := "ad0d6d796160aa802e74234e6f8466f91c92683c6a331c1e9af68639be536fc5", func := "reticule/reticulelaw05.GridLinks", spec := "gridLinks", unfollowed := true, recurses := true, named := ["reticule/grid.steps"], apart := false, laid := [("reticule/grid.steps", laid_reticule_grid_steps)], narrowed := true }
def GridLinksUptoSaid : Prop := gridLinksUptoRow.holds Tryd.pinned (OpenSpec.upto gridLinksSpec)

/-- 'reticulelaw05.GridBack', WHERE WHAT IT READS IS OF BULK AT MOST 1048576: true; the input reads as it did. -/
def gridBackUptoRow : OpenClaim := { program := "ythloamdffgcabaadoor", sum := "ad0d6d796160aa802e74234e6f8466f91c92683c6a331c1e9af68639be536fc5", func := "reticule/reticulelaw05.GridBack", spec := "gridBack", unfollowed := true, recurses := true, named := ["reticule/grid.steps", "reticule/grid.backs"], apart := false, laid := [("reticule/grid.steps", laid_reticule_grid_steps), ("reticule/grid.backs", laid_reticule_grid_backs)], narrowed := true }
def GridBackUptoSaid : Prop := gridBackUptoRow.holds Tryd.pinned (OpenSpec.upto gridBackSpec)

/-- 'reticulelaw05.GridFar', WHERE WHAT IT READS IS OF BULK AT MOST 1048576: true; the input reads as it did. -/
def gridFarUptoRow : OpenClaim := { program := "ythloamdffgcabaadoor", sum := "ad0d6d796160aa802e74234e6f8466f91c92683c6a331c1e9af68639be536fc5", func := "reticule/reticulelaw05.GridFar", spec := "gridFar", unfollowed := true, recurses := true, named := ["reticule/grid.steps"], apart := false, laid := [("reticule/grid.steps", laid_reticule_grid_steps)], narrowed := true }
def GridFarUptoSaid : Prop := gridFarUptoRow.holds Tryd.pinned (OpenSpec.upto gridFarSpec)

/-- 'reticulelaw05.GridSteps', WHERE WHAT IT READS IS OF BULK AT MOST 1048576: true; the input reads as it did. -/
def gridStepsUptoRow : OpenClaim := { program := "ythloamdffgcabaadoor", sum := "ad0d6d796160aa802e74234e6f8466f91c92683c6a331c1e9af68639be536fc5", func := "reticule/reticulelaw05.GridSteps", spec := "gridSteps", unfollowed := true, recurses := true, named := ["reticule/grid.steps", "reticule/grid.backs"], apart := false, laid := [("reticule/grid.steps", laid_reticule_grid_steps), ("reticule/grid.backs", laid_reticule_grid_backs)], narrowed := true }
def GridStepsUptoSaid : Prop := gridStepsUptoRow.holds Tryd.pinned (OpenSpec.upto gridStepsSpec)

end Rows
end Go.Proofs.YthloamdffgcabaaDoor
