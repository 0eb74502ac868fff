/-
  NARROWER THAN 'FOR EVERY INPUT', by the rows' own cells (each row's printed sentence says how): WalkWork: laid · WalkFar: laid · WalkMore: laid · WalkChoices: laid · WalkTurns: laid.
  DERIVED. THE GIVEN ROWS OF THIS SEAT. 5 by the template 'for every input the law returns true; each argument reads behind the call as it read before'; 0 by the template 'total and deterministic' (their statements: YtaohimmmhpmgdaaDoorTotals.lean).
  GIVEN WITH THE SEED: the statements are not yours to turn. If you find one false, say at which input.
  Laid BY PROGRAM, IN A SANDBOX (cutbox-rows.mjs): the forced cells as the released guide's own fill.sh prints them over the translation 548c0fddc038781a… (all of the seat's roots in one cut). By AI agents, Wed Nov 11 2026. No macro, syntax, notation, axiom, sorry.
-/
import Derived.Test.YtaohimmmhpmgdaaDoorChecked
import GoSem.Claim
import GoSem.ClaimJoined
import GoSem.ClaimMapViews
import Derived.JoinedTies
import Derived.KernelRfl
namespace Go.Proofs.YtaohimmmhpmgdaaDoor
/- THE CELL 'sum', in the pinned program and in every row, IS THE sha256 OF THE DUMP (.gsa) THAT YtaohimmmhpmgdaaDoorProg.lean LOADS. Nothing in Lean hashes anything: it is a label: what it is worth is what the hold of that sum in a sandbox is worth. -/
noncomputable def Tryd.pinned : Pinned := { name := "ytaohimmmhpmgdaadoor", sum := "548c0fddc038781a766e753f8e673564f7f57f59804d484a9f90715183886307", checked := Tryd.checked }
namespace Rows
def none {H : Type} : Left H := { results := [], args := [] }

/- WHAT THE LISTED PACKAGE-LEVEL VARIABLES READ AS WHEN THE CALL BEGINS. Each datum BY PROGRAM (the guide's laid-datum.mjs) off the statement by which the dump's own 'gosem.cut.vars' lays the variable. In a bare row this is a premise. The card (YtaohimmmhpmgdaaDoorCards.lean) ties it to the program's text. -/
def laid_reticule_grid_steps {H : Type} : DataW H := .agg [.agg [.lit (.int .i64 0), .lit (.int .i64 0)], .agg [.lit (.int .i64 1), .lit (.int .i64 0)], .agg [.lit (.int .i64 (-1)), .lit (.int .i64 0)], .agg [.lit (.int .i64 0), .lit (.int .i64 1)], .agg [.lit (.int .i64 0), .lit (.int .i64 (-1))]]
def laid_reticule_turn_alongX {H : Type} : DataW H := .agg [.lit (.int .i64 2), .lit (.int .i64 0), .lit (.int .i64 1)]
def laid_reticule_turn_alongY {H : Type} : DataW H := .agg [.lit (.int .i64 4), .lit (.int .i64 0), .lit (.int .i64 3)]
def laid_reticule_grid_backs {H : Type} : DataW H := .agg [.lit (.int .i64 0), .lit (.int .i64 2), .lit (.int .i64 1), .lit (.int .i64 4), .lit (.int .i64 3)]

/-- 'reticulelaw09.WalkWork': WHATEVER THE INPUT: true; the input reads as it did. -/
def walkWorkSpec : ChangeSpec := { name := "walkWork", fn := fun _ => fun
  | [d1, d2, d3] => { results := [.lit (.bool true)], args := [d1, d2, d3] }
  | _ => none }
def walkWorkRow : OpenClaim := { program := "ytaohimmmhpmgdaadoor", sum := "548c0fddc038781a766e753f8e673564f7f57f59804d484a9f90715183886307", func := "reticule/reticulelaw09.WalkWork", spec := "walkWork", unfollowed := true, recurses := true, named := ["reticule/turn.alongX", "reticule/turn.alongY", "reticule/grid.steps"], apart := false, laid := [("reticule/grid.steps", laid_reticule_grid_steps), ("reticule/turn.alongX", laid_reticule_turn_alongX), ("reticule/turn.alongY", laid_reticule_turn_alongY)] }
def WalkWorkSaid : Prop := walkWorkRow.holds Tryd.pinned (OpenSpec.ofChange walkWorkSpec)

/-- ITS FALSE NEIGHBOUR: 'it returns false'. Refute it at one input. -/
def walkWorkWrong : ChangeSpec := { name := "walkWork", fn := fun _ => fun
  | [d1, d2, d3] => { results := [.lit (.bool false)], args := [d1, d2, d3] }
  | _ => none }
def WalkWorkWrongFalsely : Prop := walkWorkRow.holds Tryd.pinned (OpenSpec.ofChange walkWorkWrong)

/-- 'reticulelaw09.WalkFar': WHATEVER THE INPUT: true; the input reads as it did. -/
def walkFarSpec : ChangeSpec := { name := "walkFar", fn := fun _ => fun
  | [d1, d2, d3] => { results := [.lit (.bool true)], args := [d1, d2, d3] }
  | _ => none }
def walkFarRow : OpenClaim := { program := "ytaohimmmhpmgdaadoor", sum := "548c0fddc038781a766e753f8e673564f7f57f59804d484a9f90715183886307", func := "reticule/reticulelaw09.WalkFar", spec := "walkFar", unfollowed := true, recurses := true, named := ["reticule/turn.alongX", "reticule/turn.alongY", "reticule/grid.steps"], apart := false, laid := [("reticule/grid.steps", laid_reticule_grid_steps), ("reticule/turn.alongX", laid_reticule_turn_alongX), ("reticule/turn.alongY", laid_reticule_turn_alongY)] }
def WalkFarSaid : Prop := walkFarRow.holds Tryd.pinned (OpenSpec.ofChange walkFarSpec)

/-- ITS FALSE NEIGHBOUR: 'it returns false'. Refute it at one input. -/
def walkFarWrong : ChangeSpec := { name := "walkFar", fn := fun _ => fun
  | [d1, d2, d3] => { results := [.lit (.bool false)], args := [d1, d2, d3] }
  | _ => none }
def WalkFarWrongFalsely : Prop := walkFarRow.holds Tryd.pinned (OpenSpec.ofChange walkFarWrong)

/-- 'reticulelaw09.WalkMore': WHATEVER THE INPUT: true; the input reads as it did. -/
def walkMoreSpec : ChangeSpec := { name := "walkMore", fn := fun _ => fun
  | [d1, d2] => { results := [.lit (.bool true)], args := [d1, d2] }
  | _ => none }
def walkMoreRow : OpenClaim := { program := "ytaohimmmhpmgdaadoor", sum := "548c0fddc038781a766e753f8e673564f7f57f59804d484a9f90715183886307", func := "reticule/reticulelaw09.WalkMore", spec := "walkMore", unfollowed := true, recurses := true, named := ["reticule/turn.alongX", "reticule/turn.alongY", "reticule/grid.steps"], apart := false, laid := [("reticule/grid.steps", laid_reticule_grid_steps), ("reticule/turn.alongX", laid_reticule_turn_alongX), ("reticule/turn.alongY", laid_reticule_turn_alongY)] }
def WalkMoreSaid : Prop := walkMoreRow.holds Tryd.pinned (OpenSpec.ofChange walkMoreSpec)

/-- ITS FALSE NEIGHBOUR: 'it returns false'. Refute it at one input. -/
def walkMoreWrong : ChangeSpec := { name := "walkMore", fn := fun _ => fun
  | [d1, d2] => { results := [.lit (.bool false)], args := [d1, d2] }
  | _ => none }
def WalkMoreWrongFalsely : Prop := walkMoreRow.holds Tryd.pinned (OpenSpec.ofChange walkMoreWrong)

/-- 'reticulelaw09.WalkChoices': WHATEVER THE INPUT: true; the input reads as it did. -/
def walkChoicesSpec : ChangeSpec := { name := "walkChoices", fn := fun _ => fun
  | [d1, d2, d3] => { results := [.lit (.bool true)], args := [d1, d2, d3] }
  | _ => none }
def walkChoicesRow : OpenClaim := { program := "ytaohimmmhpmgdaadoor", sum := "548c0fddc038781a766e753f8e673564f7f57f59804d484a9f90715183886307", func := "reticule/reticulelaw09.WalkChoices", spec := "walkChoices", unfollowed := true, recurses := true, named := ["reticule/turn.alongX", "reticule/turn.alongY", "reticule/grid.steps"], apart := false, laid := [("reticule/grid.steps", laid_reticule_grid_steps), ("reticule/turn.alongX", laid_reticule_turn_alongX), ("reticule/turn.alongY", laid_reticule_turn_alongY)] }
def WalkChoicesSaid : Prop := walkChoicesRow.holds Tryd.pinned (OpenSpec.ofChange walkChoicesSpec)

/-- ITS FALSE NEIGHBOUR: 'it returns false'. Refute it at one input. -/
def walkChoicesWrong : ChangeSpec := { name := "walkChoices", fn := fun _ => fun
  | [d1, d2, d3] => { results := [.lit (.bool false)], args := [d1, d2, d3] }
  | _ => none }
def WalkChoicesWrongFalsely : Prop := walkChoicesRow.holds Tryd.pinned (OpenSpec.ofChange walkChoicesWrong)

/-- 'reticulelaw09.WalkTurns': WHATEVER THE INPUT: true; the input reads as it did. -/
def walkTurnsSpec : ChangeSpec := { name := "walkTurns", fn := fun _ => fun
  | [d1, d2, d3] => { results := [.lit (.bool true)], args := [d1, d2, d3] }
  | _ => none }
def walkTurnsRow : OpenClaim := { program := "ytaohimmmhpmgdaadoor", sum := "548c0fddc038781a766e753f8e673564f7f57f59804d484a9f90715183886307", func := "reticule/reticulelaw09.WalkTurns", spec := "walkTurns", unfollowed := true, recurses := true, named := ["reticule/turn.alongX", "reticule/turn.alongY", "reticule/grid.steps", "reticule/grid.backs"], apart := false, laid := [("reticule/grid.steps", laid_reticule_grid_steps), ("reticule/grid.backs", laid_reticule_grid_backs), ("reticule/turn.alongX", laid_reticule_turn_alongX), ("reticule/turn.alongY", laid_reticule_turn_alongY)] }
def WalkTurnsSaid : Prop := walkTurnsRow.holds Tryd.pinned (OpenSpec.ofChange walkTurnsSpec)

/-- ITS FALSE NEIGHBOUR: 'it returns false'. Refute it at one input. -/
def walkTurnsWrong : ChangeSpec := { name := "walkTurns", fn := fun _ => fun
  | [d1, d2, d3] => { results := [.lit (.bool false)], args := [d1, d2, d3] }
  | _ => none }
def WalkTurnsWrongFalsely : Prop := walkTurnsRow.holds Tryd.pinned (OpenSpec.ofChange walkTurnsWrong)

/- THE SECOND FORM. 'bulk': how many values and letters a reading holds, each counted each time it is reached (what is shared counts as often as it is met; a slice's spare places count too). A statement '..UptoSaid' is the law's where the arguments, and the package variables that the reading takes, are together of bulk at most 1048576: NARROWER than '..Said'. Prove '..Said' where nothing that the law and all that it calls make is longer than what came in: it says more and counts as full. Else prove '..UptoSaid'. A law counts once. -/
mutual
def uptoBulk {H : Type} : DataW H → Nat
  | .lit (.string bytes) => bytes.length + 1
  | .lit _ => 1
  | .nil => 1
  | .ptr d => uptoBulk d + 1
  | .slice elems spare => uptoBulkAll elems + uptoBulkAll spare + 1
  | .agg parts => uptoBulkAll parts + 1
  | .iface _ d => uptoBulk d + 1
  | .map entries => uptoBulkEntries entries + 1
  | .held _ => 1
def uptoBulkAll {H : Type} : List (DataW H) → Nat
  | [] => 0
  | d :: r => uptoBulk d + uptoBulkAll r
def uptoBulkEntries {H : Type} : List (Lit × DataW H) → Nat
  | [] => 0
  | x :: r => uptoBulkEntry x + uptoBulkEntries r
def uptoBulkEntry {H : Type} : Lit × DataW H → Nat
  | (.string bytes, d) => bytes.length + uptoBulk d + 1
  | (_, d) => uptoBulk d + 1
 end
def uptoSmall : (H : Type) → List (DataW H) → Bool := fun _ ds => decide (uptoBulkAll ds ≤ 1048576)
def OpenSpec.upto (s : _root_.Go.ChangeSpec) : _root_.Go.OpenSpec := { _root_.Go.OpenSpec.ofChange s with cond := some uptoSmall }

/-- 'reticulelaw09.WalkWork', WHERE WHAT IT READS IS OF BULK AT MOST 1048576: true; the input reads as it did. -/
def walkWorkUptoRow : OpenClaim := { program := "ytaohimmmhpmgdaadoor", sum := "548c0fddc038781a766e753f8e673564f7f57f59804d484a9f90715183886307", func := "reticule/reticulelaw09.WalkWork", spec := "walkWork", unfollowed := true, recurses := true, named := ["reticule/turn.alongX", "reticule/turn.alongY", "reticule/grid.steps"], apart := false, laid := [("reticule/grid.steps", laid_reticule_grid_steps), ("reticule/turn.alongX", laid_reticule_turn_alongX), ("reticule/turn.alongY", laid_reticule_turn_alongY)], narrowed := true }
def WalkWorkUptoSaid : Prop := walkWorkUptoRow.holds Tryd.pinned (OpenSpec.upto walkWorkSpec)

/-- 'reticulelaw09.WalkFar', WHERE WHAT IT READS IS OF BULK AT MOST 1048576: true; the input reads as it did. -/
def walkFarUptoRow : OpenClaim := { program := "ytaohimmmhpmgdaadoor", sum := "548c0fddc038781a766e753f8e673564f7f57f59804d484a9f90715183886307", func := "reticule/reticulelaw09.WalkFar", spec := "walkFar", unfollowed := true, recurses := true, named := ["reticule/turn.alongX", "reticule/turn.alongY", "reticule/grid.steps"], apart := false, laid := [("reticule/grid.steps", laid_reticule_grid_steps), ("reticule/turn.alongX", laid_reticule_turn_alongX), ("reticule/turn.alongY", laid_reticule_turn_alongY)], narrowed := true }
def WalkFarUptoSaid : Prop := walkFarUptoRow.holds Tryd.pinned (OpenSpec.upto walkFarSpec)

/-- 'reticulelaw09.WalkMore', WHERE WHAT IT READS IS OF BULK AT MOST 1048576: true; the input reads as it did. -/
def walkMoreUptoRow : OpenClaim := { program := "ytaohimmmhpmgdaadoor", sum := "548c0fddc038781a766e753f8e673564f7f57f59804d484a9f90715183886307", func := "reticule/reticulelaw09.WalkMore", spec := "walkMore", unfollowed := true, recurses := true, named := ["reticule/turn.alongX", "reticule/turn.alongY", "reticule/grid.steps"], apart := false, laid := [("reticule/grid.steps", laid_reticule_grid_steps), ("reticule/turn.alongX", laid_reticule_turn_alongX), ("reticule/turn.alongY", laid_reticule_turn_alongY)], narrowed := true }
def WalkMoreUptoSaid : Prop := walkMoreUptoRow.holds Tryd.pinned (OpenSpec.upto walkMoreSpec)

/-- 'reticulelaw09.WalkChoices', WHERE WHAT IT READS IS OF BULK AT MOST 1048576: true; the input reads as it did. -/
def walkChoicesUptoRow : OpenClaim := { program := "ytaohimmmhpmgdaadoor", sum := "548c0fddc038781a766e753f8e673564f7f57f59804d484a9f90715183886307", func := "reticule/reticulelaw09.WalkChoices", spec := "walkChoices", unfollowed := true, recurses := true, named := ["reticule/turn.alongX", "reticule/turn.alongY", "reticule/grid.steps"], apart := false, laid := [("reticule/grid.steps", laid_reticule_grid_steps), ("reticule/turn.alongX", laid_reticule_turn_alongX), ("reticule/turn.alongY", laid_reticule_turn_alongY)], narrowed := true }
def WalkChoicesUptoSaid : Prop := walkChoicesUptoRow.holds Tryd.pinned (OpenSpec.upto walkChoicesSpec)

/-- 'reticulelaw09.WalkTurns', WHERE WHAT IT READS IS OF BULK AT MOST 1048576: true; the input reads as it did. -/
def walkTurnsUptoRow : OpenClaim := { program := "ytaohimmmhpmgdaadoor", sum := "548c0fddc038781a766e753f8e673564f7f57f59804d484a9f90715183886307", func := "reticule/reticulelaw09.WalkTurns", spec := "walkTurns", unfollowed := true, recurses := true, named := ["reticule/turn.alongX", "reticule/turn.alongY", "reticule/grid.steps", "reticule/grid.backs"], apart := false, laid := [("reticule/grid.steps", laid_reticule_grid_steps), ("reticule/grid.backs", laid_reticule_grid_backs), ("reticule/turn.alongX", laid_reticule_turn_alongX), ("reticule/turn.alongY", laid_reticule_turn_alongY)], narrowed := true }
def WalkTurnsUptoSaid : Prop := walkTurnsUptoRow.holds Tryd.pinned (OpenSpec.upto walkTurnsSpec)

end Rows
end Go.Proofs.YtaohimmmhpmgdaaDoor
