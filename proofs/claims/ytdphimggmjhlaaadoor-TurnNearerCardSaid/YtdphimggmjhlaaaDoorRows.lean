/-
  NARROWER THAN 'FOR EVERY INPUT', by the rows' own cells (each row's printed sentence says how): TurnOptions: laid · TurnAllowed: laid · TurnNearer: laid · TurnGoes: laid · TurnStraight: laid · TurnWays: laid.
  DERIVED. THE GIVEN ROWS OF THIS SEAT. 6 by the template 'for every input the law returns true; each argument reads behind the call as it read before'; 0 by the template 'total and deterministic' (their statements: YtdphimggmjhlaaaDoorTotals.lean).
  GIVEN WITH THE SEED: the statements are not yours to turn. If you find one false, say at which input.
  Laid BY PROGRAM, IN A SANDBOX (cutbox-rows.mjs): the forced cells as the released guide's own fill.sh prints them over the translation 06e898fc9ce3d426… (all of the seat's roots in one cut). By AI agents, Wed Nov 11 2026. No macro, syntax, notation, axiom, sorry.
-/
import Derived.Test.YtdphimggmjhlaaaDoorChecked
import GoSem.Claim
import GoSem.ClaimJoined
import GoSem.ClaimMapViews
import Derived.JoinedTies
import Derived.KernelRfl
namespace Go.Proofs.YtdphimggmjhlaaaDoor
/- THE CELL 'sum', in the pinned program and in every row, IS THE sha256 OF THE DUMP (.gsa) THAT YtdphimggmjhlaaaDoorProg.lean LOADS. Nothing in Lean hashes anything: it is a label: what it is worth is what the hold of that sum in a sandbox is worth. -/
noncomputable def Tryd.pinned : Pinned := { name := "ytdphimggmjhlaaadoor", sum := "06e898fc9ce3d42650c6211f5d2969c7c40f2eb89446dfbc32da71f7c3d960c0", checked := Tryd.checked }
namespace Rows
def none {H : Type} : Left H := { results := [], args := [] }

/- WHAT THE LISTED PACKAGE-LEVEL VARIABLES READ AS WHEN THE CALL BEGINS. Each datum BY PROGRAM (the guide's laid-datum.mjs) off the statement by which the dump's own 'gosem.cut.vars' lays the variable. In a bare row this is a premise. The card (YtdphimggmjhlaaaDoorCards.lean) ties it to the program's text. -/
def laid_reticule_turn_alongX {H : Type} : DataW H := .agg [.lit (.int .i64 2), .lit (.int .i64 0), .lit (.int .i64 1)]
def laid_reticule_turn_alongY {H : Type} : DataW H := .agg [.lit (.int .i64 4), .lit (.int .i64 0), .lit (.int .i64 3)]
def laid_reticule_turn_turns {H : Type} : DataW H := .agg [.agg [.lit (.bool true), .lit (.bool true), .lit (.bool true), .lit (.bool true), .lit (.bool true)], .agg [.lit (.bool true), .lit (.bool true), .lit (.bool false), .lit (.bool true), .lit (.bool true)], .agg [.lit (.bool true), .lit (.bool false), .lit (.bool true), .lit (.bool true), .lit (.bool true)], .agg [.lit (.bool true), .lit (.bool true), .lit (.bool false), .lit (.bool true), .lit (.bool false)], .agg [.lit (.bool true), .lit (.bool true), .lit (.bool false), .lit (.bool false), .lit (.bool true)]]
def laid_reticule_grid_steps {H : Type} : DataW H := .agg [.agg [.lit (.int .i64 0), .lit (.int .i64 0)], .agg [.lit (.int .i64 1), .lit (.int .i64 0)], .agg [.lit (.int .i64 (-1)), .lit (.int .i64 0)], .agg [.lit (.int .i64 0), .lit (.int .i64 1)], .agg [.lit (.int .i64 0), .lit (.int .i64 (-1))]]

/-- 'reticulelaw06.TurnOptions': WHATEVER THE INPUT: true; the input reads as it did. -/
def turnOptionsSpec : ChangeSpec := { name := "turnOptions", fn := fun _ => fun
  | [d1, d2, d3] => { results := [.lit (.bool true)], args := [d1, d2, d3] }
  | _ => none }
def turnOptionsRow : OpenClaim := { program := "ytdphimggmjhlaaadoor", sum := "06e898fc9ce3d42650c6211f5d2969c7c40f2eb89446dfbc32da71f7c3d960c0", func := "reticule/reticulelaw06.TurnOptions", spec := "turnOptions", unfollowed := true, recurses := true, named := ["reticule/turn.alongX", "reticule/turn.alongY", "reticule/turn.turns"], apart := false, laid := [("reticule/turn.alongX", laid_reticule_turn_alongX), ("reticule/turn.alongY", laid_reticule_turn_alongY), ("reticule/turn.turns", laid_reticule_turn_turns)] }
def TurnOptionsSaid : Prop := turnOptionsRow.holds Tryd.pinned (OpenSpec.ofChange turnOptionsSpec)

/-- ITS FALSE NEIGHBOUR: 'it returns false'. Refute it at one input. -/
def turnOptionsWrong : ChangeSpec := { name := "turnOptions", fn := fun _ => fun
  | [d1, d2, d3] => { results := [.lit (.bool false)], args := [d1, d2, d3] }
  | _ => none }
def TurnOptionsWrongFalsely : Prop := turnOptionsRow.holds Tryd.pinned (OpenSpec.ofChange turnOptionsWrong)

/-- 'reticulelaw06.TurnAllowed': WHATEVER THE INPUT: true; the input reads as it did. -/
def turnAllowedSpec : ChangeSpec := { name := "turnAllowed", fn := fun _ => fun
  | [d1, d2, d3] => { results := [.lit (.bool true)], args := [d1, d2, d3] }
  | _ => none }
def turnAllowedRow : OpenClaim := { program := "ytdphimggmjhlaaadoor", sum := "06e898fc9ce3d42650c6211f5d2969c7c40f2eb89446dfbc32da71f7c3d960c0", func := "reticule/reticulelaw06.TurnAllowed", spec := "turnAllowed", unfollowed := true, recurses := true, named := ["reticule/turn.alongX", "reticule/turn.alongY", "reticule/turn.turns", "reticule/grid.steps"], apart := false, laid := [("reticule/grid.steps", laid_reticule_grid_steps), ("reticule/turn.alongX", laid_reticule_turn_alongX), ("reticule/turn.alongY", laid_reticule_turn_alongY), ("reticule/turn.turns", laid_reticule_turn_turns)] }
def TurnAllowedSaid : Prop := turnAllowedRow.holds Tryd.pinned (OpenSpec.ofChange turnAllowedSpec)

/-- ITS FALSE NEIGHBOUR: 'it returns false'. Refute it at one input. -/
def turnAllowedWrong : ChangeSpec := { name := "turnAllowed", fn := fun _ => fun
  | [d1, d2, d3] => { results := [.lit (.bool false)], args := [d1, d2, d3] }
  | _ => none }
def TurnAllowedWrongFalsely : Prop := turnAllowedRow.holds Tryd.pinned (OpenSpec.ofChange turnAllowedWrong)

/-- 'reticulelaw06.TurnNearer': WHATEVER THE INPUT: true; the input reads as it did. -/
def turnNearerSpec : ChangeSpec := { name := "turnNearer", fn := fun _ => fun
  | [d1, d2, d3] => { results := [.lit (.bool true)], args := [d1, d2, d3] }
  | _ => none }
def turnNearerRow : OpenClaim := { program := "ytdphimggmjhlaaadoor", sum := "06e898fc9ce3d42650c6211f5d2969c7c40f2eb89446dfbc32da71f7c3d960c0", func := "reticule/reticulelaw06.TurnNearer", spec := "turnNearer", unfollowed := true, recurses := true, named := ["reticule/turn.alongX", "reticule/turn.alongY", "reticule/turn.turns", "reticule/grid.steps"], apart := false, laid := [("reticule/grid.steps", laid_reticule_grid_steps), ("reticule/turn.alongX", laid_reticule_turn_alongX), ("reticule/turn.alongY", laid_reticule_turn_alongY), ("reticule/turn.turns", laid_reticule_turn_turns)] }
def TurnNearerSaid : Prop := turnNearerRow.holds Tryd.pinned (OpenSpec.ofChange turnNearerSpec)

/-- ITS FALSE NEIGHBOUR: 'it returns false'. Refute it at one input. -/
def turnNearerWrong : ChangeSpec := { name := "turnNearer", fn := fun _ => fun
  | [d1, d2, d3] => { results := [.lit (.bool false)], args := [d1, d2, d3] }
  | _ => none }
def TurnNearerWrongFalsely : Prop := turnNearerRow.holds Tryd.pinned (OpenSpec.ofChange turnNearerWrong)

/-- 'reticulelaw06.TurnGoes': WHATEVER THE INPUT: true; the input reads as it did. -/
def turnGoesSpec : ChangeSpec := { name := "turnGoes", fn := fun _ => fun
  | [d1, d2, d3] => { results := [.lit (.bool true)], args := [d1, d2, d3] }
  | _ => none }
def turnGoesRow : OpenClaim := { program := "ytdphimggmjhlaaadoor", sum := "06e898fc9ce3d42650c6211f5d2969c7c40f2eb89446dfbc32da71f7c3d960c0", func := "reticule/reticulelaw06.TurnGoes", spec := "turnGoes", unfollowed := true, recurses := true, named := ["reticule/turn.alongX", "reticule/turn.alongY", "reticule/turn.turns", "reticule/grid.steps"], apart := false, laid := [("reticule/grid.steps", laid_reticule_grid_steps), ("reticule/turn.alongX", laid_reticule_turn_alongX), ("reticule/turn.alongY", laid_reticule_turn_alongY), ("reticule/turn.turns", laid_reticule_turn_turns)] }
def TurnGoesSaid : Prop := turnGoesRow.holds Tryd.pinned (OpenSpec.ofChange turnGoesSpec)

/-- ITS FALSE NEIGHBOUR: 'it returns false'. Refute it at one input. -/
def turnGoesWrong : ChangeSpec := { name := "turnGoes", fn := fun _ => fun
  | [d1, d2, d3] => { results := [.lit (.bool false)], args := [d1, d2, d3] }
  | _ => none }
def TurnGoesWrongFalsely : Prop := turnGoesRow.holds Tryd.pinned (OpenSpec.ofChange turnGoesWrong)

/-- 'reticulelaw06.TurnStraight': WHATEVER THE INPUT: true; the input reads as it did. -/
def turnStraightSpec : ChangeSpec := { name := "turnStraight", fn := fun _ => fun
  | [d1, d2, d3] => { results := [.lit (.bool true)], args := [d1, d2, d3] }
  | _ => none }
def turnStraightRow : OpenClaim := { program := "ytdphimggmjhlaaadoor", sum := "06e898fc9ce3d42650c6211f5d2969c7c40f2eb89446dfbc32da71f7c3d960c0", func := "reticule/reticulelaw06.TurnStraight", spec := "turnStraight", unfollowed := true, recurses := true, named := ["reticule/turn.alongX", "reticule/turn.alongY", "reticule/turn.turns", "reticule/grid.steps"], apart := false, laid := [("reticule/grid.steps", laid_reticule_grid_steps), ("reticule/turn.alongX", laid_reticule_turn_alongX), ("reticule/turn.alongY", laid_reticule_turn_alongY), ("reticule/turn.turns", laid_reticule_turn_turns)] }
def TurnStraightSaid : Prop := turnStraightRow.holds Tryd.pinned (OpenSpec.ofChange turnStraightSpec)

/-- ITS FALSE NEIGHBOUR: 'it returns false'. Refute it at one input. -/
def turnStraightWrong : ChangeSpec := { name := "turnStraight", fn := fun _ => fun
  | [d1, d2, d3] => { results := [.lit (.bool false)], args := [d1, d2, d3] }
  | _ => none }
def TurnStraightWrongFalsely : Prop := turnStraightRow.holds Tryd.pinned (OpenSpec.ofChange turnStraightWrong)

/-- 'reticulelaw06.TurnWays': WHATEVER THE INPUT: true; the input reads as it did. -/
def turnWaysSpec : ChangeSpec := { name := "turnWays", fn := fun _ => fun
  | [d1, d2, d3] => { results := [.lit (.bool true)], args := [d1, d2, d3] }
  | _ => none }
def turnWaysRow : OpenClaim := { program := "ytdphimggmjhlaaadoor", sum := "06e898fc9ce3d42650c6211f5d2969c7c40f2eb89446dfbc32da71f7c3d960c0", func := "reticule/reticulelaw06.TurnWays", spec := "turnWays", unfollowed := true, recurses := true, named := ["reticule/turn.alongX", "reticule/turn.alongY", "reticule/turn.turns", "reticule/grid.steps"], apart := false, laid := [("reticule/grid.steps", laid_reticule_grid_steps), ("reticule/turn.alongX", laid_reticule_turn_alongX), ("reticule/turn.alongY", laid_reticule_turn_alongY), ("reticule/turn.turns", laid_reticule_turn_turns)] }
def TurnWaysSaid : Prop := turnWaysRow.holds Tryd.pinned (OpenSpec.ofChange turnWaysSpec)

/-- ITS FALSE NEIGHBOUR: 'it returns false'. Refute it at one input. -/
def turnWaysWrong : ChangeSpec := { name := "turnWays", fn := fun _ => fun
  | [d1, d2, d3] => { results := [.lit (.bool false)], args := [d1, d2, d3] }
  | _ => none }
def TurnWaysWrongFalsely : Prop := turnWaysRow.holds Tryd.pinned (OpenSpec.ofChange turnWaysWrong)

/- THE SECOND FORM. 'bulk': how many values and letters a reading holds, each counted each time it is reached (what is shared counts as often as it is met; a slice's spare places count too). A statement '..UptoSaid' is the law's where the arguments, and the package variables that the reading takes, are together of bulk at most 1048576: NARROWER than '..Said'. Prove '..Said' where nothing that the law and all that it calls make is longer than what came in: it says more and counts as full. Else prove '..UptoSaid'. A law counts once. -/
mutual
def uptoBulk {H : Type} : DataW H → Nat
  | .lit (.string bytes) => bytes.length + 1
  | .lit _ => 1
  | .nil => 1
  | .ptr d => uptoBulk d + 1
  | .slice elems spare => uptoBulkAll elems + uptoBulkAll spare + 1
  | .agg parts => uptoBulkAll parts + 1
  | .iface _ d => uptoBulk d + 1
  | .map entries => uptoBulkEntries entries + 1
  | .held _ => 1
def uptoBulkAll {H : Type} : List (DataW H) → Nat
  | [] => 0
  | d :: r => uptoBulk d + uptoBulkAll r
def uptoBulkEntries {H : Type} : List (Lit × DataW H) → Nat
  | [] => 0
  | x :: r => uptoBulkEntry x + uptoBulkEntries r
def uptoBulkEntry {H : Type} : Lit × DataW H → Nat
  | (.string bytes, d) => bytes.length + uptoBulk d + 1
  | (_, d) => uptoBulk d + 1
 end
def uptoSmall : (H : Type) → List (DataW H) → Bool := fun _ ds => decide (uptoBulkAll ds ≤ 1048576)
def OpenSpec.upto (s : _root_.Go.ChangeSpec) : _root_.Go.OpenSpec := { _root_.Go.OpenSpec.ofChange s with cond := some uptoSmall }

/-- 'reticulelaw06.TurnOptions', WHERE WHAT IT READS IS OF BULK AT MOST 1048576: true; the input reads as it did. -/
def turnOptionsUptoRow : OpenClaim := { program := "ytdphimggmjhlaaadoor", sum := "06e898fc9ce3d42650c6211f5d2969c7c40f2eb89446dfbc32da71f7c3d960c0", func := "reticule/reticulelaw06.TurnOptions", spec := "turnOptions", unfollowed := true, recurses := true, named := ["reticule/turn.alongX", "reticule/turn.alongY", "reticule/turn.turns"], apart := false, laid := [("reticule/turn.alongX", laid_reticule_turn_alongX), ("reticule/turn.alongY", laid_reticule_turn_alongY), ("reticule/turn.turns", laid_reticule_turn_turns)], narrowed := true }
def TurnOptionsUptoSaid : Prop := turnOptionsUptoRow.holds Tryd.pinned (OpenSpec.upto turnOptionsSpec)

/-- 'reticulelaw06.TurnAllowed', WHERE WHAT IT READS IS OF BULK AT MOST 1048576: true; the input reads as it did. -/
def turnAllowedUptoRow : OpenClaim := { program := "ytdphimggmjhlaaadoor", sum := "06e898fc9ce3d42650c6211f5d2969c7c40f2eb89446dfbc32da71f7c3d960c0", func := "reticule/reticulelaw06.TurnAllowed", spec := "turnAllowed", unfollowed := true, recurses := true, named := ["reticule/turn.alongX", "reticule/turn.alongY", "reticule/turn.turns", "reticule/grid.steps"], apart := false, laid := [("reticule/grid.steps", laid_reticule_grid_steps), ("reticule/turn.alongX", laid_reticule_turn_alongX), ("reticule/turn.alongY", laid_reticule_turn_alongY), ("reticule/turn.turns", laid_reticule_turn_turns)], narrowed := true }
def TurnAllowedUptoSaid : Prop := turnAllowedUptoRow.holds Tryd.pinned (OpenSpec.upto turnAllowedSpec)

/-- 'reticulelaw06.TurnNearer', WHERE WHAT IT READS IS OF BULK AT MOST 1048576: true; the input reads as it did. -/
def turnNearerUptoRow : OpenClaim := { program := "ytdphimggmjhlaaadoor", sum := "06e898fc9ce3d42650c6211f5d2969c7c40f2eb89446dfbc32da71f7c3d960c0", func := "reticule/reticulelaw06.TurnNearer", spec := "turnNearer", unfollowed := true, recurses := true, named := ["reticule/turn.alongX", "reticule/turn.alongY", "reticule/turn.turns", "reticule/grid.steps"], apart := false, laid := [("reticule/grid.steps", laid_reticule_grid_steps), ("reticule/turn.alongX", laid_reticule_turn_alongX), ("reticule/turn.alongY", laid_reticule_turn_alongY), ("reticule/turn.turns", laid_reticule_turn_turns)], narrowed := true }
def TurnNearerUptoSaid : Prop := turnNearerUptoRow.holds Tryd.pinned (OpenSpec.upto turnNearerSpec)

/-- 'reticulelaw06.TurnGoes', WHERE WHAT IT READS IS OF BULK AT MOST 1048576: true; the input reads as it did. -/
def turnGoesUptoRow : OpenClaim := { program := "ytdphimggmjhlaaadoor", sum := "06e898fc9ce3d42650c6211f5d2969c7c40f2eb89446dfbc32da71f7c3d960c0", func := "reticule/reticulelaw06.TurnGoes", spec := "turnGoes", unfollowed := true, recurses := true, named := ["reticule/turn.alongX", "reticule/turn.alongY", "reticule/turn.turns", "reticule/grid.steps"], apart := false, laid := [("reticule/grid.steps", laid_reticule_grid_steps), ("reticule/turn.alongX", laid_reticule_turn_alongX), ("reticule/turn.alongY", laid_reticule_turn_alongY), ("reticule/turn.turns", laid_reticule_turn_turns)], narrowed := true }
def TurnGoesUptoSaid : Prop := turnGoesUptoRow.holds Tryd.pinned (OpenSpec.upto turnGoesSpec)

/-- 'reticulelaw06.TurnStraight', WHERE WHAT IT READS IS OF BULK AT MOST 1048576: true; the input reads as it did. -/
def turnStraightUptoRow : OpenClaim := { program := "ytdphimggmjhlaaadoor", sum := "06e898fc9ce3d42650c6211f5d2969c7c40f2eb89446dfbc32da71f7c3d960c0", func := "reticule/reticulelaw06.TurnStraight", spec := "turnStraight", unfollowed := true, recurses := true, named := ["reticule/turn.alongX", "reticule/turn.alongY", "reticule/turn.turns", "reticule/grid.steps"], apart := false, laid := [("reticule/grid.steps", laid_reticule_grid_steps), ("reticule/turn.alongX", laid_reticule_turn_alongX), ("reticule/turn.alongY", laid_reticule_turn_alongY), ("reticule/turn.turns", laid_reticule_turn_turns)], narrowed := true }
def TurnStraightUptoSaid : Prop := turnStraightUptoRow.holds Tryd.pinned (OpenSpec.upto turnStraightSpec)

/-- 'reticulelaw06.TurnWays', WHERE WHAT IT READS IS OF BULK AT MOST 1048576: true; the input reads as it did. -/
def turnWaysUptoRow : OpenClaim := { program := "ytdphimggmjhlaaadoor", sum := "06e898fc9ce3d42650c6211f5d2969c7c40f2eb89446dfbc32da71f7c3d960c0", func := "reticule/reticulelaw06.TurnWays", spec := "turnWays", unfollowed := true, recurses := true, named := ["reticule/turn.alongX", "reticule/turn.alongY", "reticule/turn.turns", "reticule/grid.steps"], apart := false, laid := [("reticule/grid.steps", laid_reticule_grid_steps), ("reticule/turn.alongX", laid_reticule_turn_alongX), ("reticule/turn.alongY", laid_reticule_turn_alongY), ("reticule/turn.turns", laid_reticule_turn_turns)], narrowed := true }
def TurnWaysUptoSaid : Prop := turnWaysUptoRow.holds Tryd.pinned (OpenSpec.upto turnWaysSpec)

end Rows
end Go.Proofs.YtdphimggmjhlaaaDoor
