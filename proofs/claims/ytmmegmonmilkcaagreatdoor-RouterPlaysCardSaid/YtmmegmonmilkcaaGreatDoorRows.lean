/-
  NARROWER THAN 'FOR EVERY INPUT', by the rows' own cells (each row's printed sentence says how): RouterPlays: laid · RouterOwners: laid · RouterThrough: laid · RouterGates: laid · RouterNil: laid · RouterTurns: laid.
  DERIVED. THE GIVEN ROWS OF THIS SEAT. 6 by the template 'for every input the law returns true; each argument reads behind the call as it read before'; 0 by the template 'total and deterministic' (their statements: YtmmegmonmilkcaaGreatDoorTotals.lean).
  GIVEN WITH THE SEED: the statements are not yours to turn. If you find one false, say at which input.
  Laid BY PROGRAM, IN A SANDBOX (cutbox-rows.mjs): the forced cells as the released guide's own fill.sh prints them over the translation c4a09f97fc36c7be… (all of the seat's roots in one cut). By AI agents, Wed Nov 11 2026. No macro, syntax, notation, axiom, sorry.
-/
import Derived.Test.YtmmegmonmilkcaaGreatDoorChecked
import GoSem.Claim
import GoSem.ClaimJoined
import GoSem.ClaimMapViews
import Derived.JoinedTies
import Derived.KernelRfl
namespace Go.Proofs.YtmmegmonmilkcaaGreatDoor
/- THE CELL 'sum', in the pinned program and in every row, IS THE sha256 OF THE DUMP (.gsa) THAT YtmmegmonmilkcaaGreatDoorProg.lean LOADS. Nothing in Lean hashes anything: it is a label: what it is worth is what the hold of that sum in a sandbox is worth. -/
noncomputable def Tryz.pinned : Pinned := { name := "ytmmegmonmilkcaagreatdoor", sum := "c4a09f97fc36c7beca4a544e43a84cfee300455b78450a78e40b610a2e9865ad", checked := Tryz.checked }
namespace Rows
def none {H : Type} : Left H := { results := [], args := [] }

/- WHAT THE LISTED PACKAGE-LEVEL VARIABLES READ AS WHEN THE CALL BEGINS. Each datum BY PROGRAM (the guide's laid-datum.mjs) off the statement by which the dump's own 'gosem.cut.vars' lays the variable. In a bare row this is a premise. The card (YtmmegmonmilkcaaGreatDoorCards.lean) ties it to the program's text. -/
def laid_reticule_grid_steps {H : Type} : DataW H := .agg [.agg [.lit (.int .i64 0), .lit (.int .i64 0)], .agg [.lit (.int .i64 1), .lit (.int .i64 0)], .agg [.lit (.int .i64 (-1)), .lit (.int .i64 0)], .agg [.lit (.int .i64 0), .lit (.int .i64 1)], .agg [.lit (.int .i64 0), .lit (.int .i64 (-1))]]
def laid_reticule_turn_alongX {H : Type} : DataW H := .agg [.lit (.int .i64 2), .lit (.int .i64 0), .lit (.int .i64 1)]
def laid_reticule_turn_alongY {H : Type} : DataW H := .agg [.lit (.int .i64 4), .lit (.int .i64 0), .lit (.int .i64 3)]

/-- 'reticulelaw15.RouterPlays': WHATEVER THE INPUT: true; the input reads as it did. -/
def routerPlaysSpec : ChangeSpec := { name := "routerPlays", fn := fun _ => fun
  | [d1, d2, d3] => { results := [.lit (.bool true)], args := [d1, d2, d3] }
  | _ => none }
def routerPlaysRow : OpenClaim := { program := "ytmmegmonmilkcaagreatdoor", sum := "c4a09f97fc36c7beca4a544e43a84cfee300455b78450a78e40b610a2e9865ad", func := "reticule/reticulelaw15.RouterPlays", spec := "routerPlays", unfollowed := true, recurses := true, named := ["reticule/grid.steps", "reticule/turn.alongX", "reticule/turn.alongY"], apart := false, laid := [("reticule/grid.steps", laid_reticule_grid_steps), ("reticule/turn.alongX", laid_reticule_turn_alongX), ("reticule/turn.alongY", laid_reticule_turn_alongY)] }
def RouterPlaysSaid : Prop := routerPlaysRow.holds Tryz.pinned (OpenSpec.ofChange routerPlaysSpec)

/-- ITS FALSE NEIGHBOUR: 'it returns false'. Refute it at one input. -/
def routerPlaysWrong : ChangeSpec := { name := "routerPlays", fn := fun _ => fun
  | [d1, d2, d3] => { results := [.lit (.bool false)], args := [d1, d2, d3] }
  | _ => none }
def RouterPlaysWrongFalsely : Prop := routerPlaysRow.holds Tryz.pinned (OpenSpec.ofChange routerPlaysWrong)

/-- 'reticulelaw15.RouterOwners': WHATEVER THE INPUT: true; the input reads as it did. -/
def routerOwnersSpec : ChangeSpec := { name := "routerOwners", fn := fun _ => fun
  | [d1, d2, d3] => { results := [.lit (.bool true)], args := [d1, d2, d3] }
  | _ => none }
def routerOwnersRow : OpenClaim := { program := "ytmmegmonmilkcaagreatdoor", sum := "c4a09f97fc36c7beca4a544e43a84cfee300455b78450a78e40b610a2e9865ad", func := "reticule/reticulelaw15.RouterOwners", spec := "routerOwners", unfollowed := true, recurses := true, named := ["reticule/grid.steps", "reticule/turn.alongX", "reticule/turn.alongY"], apart := false, laid := [("reticule/grid.steps", laid_reticule_grid_steps), ("reticule/turn.alongX", laid_reticule_turn_alongX), ("reticule/turn.alongY", laid_reticule_turn_alongY)] }
def RouterOwnersSaid : Prop := routerOwnersRow.holds Tryz.pinned (OpenSpec.ofChange routerOwnersSpec)

/-- ITS FALSE NEIGHBOUR: 'it returns false'. Refute it at one input. -/
def routerOwnersWrong : ChangeSpec := { name := "routerOwners", fn := fun _ => fun
  | [d1, d2, d3] => { results := [.lit (.bool false)], args := [d1, d2, d3] }
  | _ => none }
def RouterOwnersWrongFalsely : Prop := routerOwnersRow.holds Tryz.pinned (OpenSpec.ofChange routerOwnersWrong)

/-- 'reticulelaw15.RouterThrough': WHATEVER THE INPUT: true; the input reads as it did. -/
def routerThroughSpec : ChangeSpec := { name := "routerThrough", fn := fun _ => fun
  | [d1, d2, d3] => { results := [.lit (.bool true)], args := [d1, d2, d3] }
  | _ => none }
def routerThroughRow : OpenClaim := { program := "ytmmegmonmilkcaagreatdoor", sum := "c4a09f97fc36c7beca4a544e43a84cfee300455b78450a78e40b610a2e9865ad", func := "reticule/reticulelaw15.RouterThrough", spec := "routerThrough", unfollowed := true, recurses := true, named := ["reticule/grid.steps", "reticule/turn.alongX", "reticule/turn.alongY"], apart := false, laid := [("reticule/grid.steps", laid_reticule_grid_steps), ("reticule/turn.alongX", laid_reticule_turn_alongX), ("reticule/turn.alongY", laid_reticule_turn_alongY)] }
def RouterThroughSaid : Prop := routerThroughRow.holds Tryz.pinned (OpenSpec.ofChange routerThroughSpec)

/-- ITS FALSE NEIGHBOUR: 'it returns false'. Refute it at one input. -/
def routerThroughWrong : ChangeSpec := { name := "routerThrough", fn := fun _ => fun
  | [d1, d2, d3] => { results := [.lit (.bool false)], args := [d1, d2, d3] }
  | _ => none }
def RouterThroughWrongFalsely : Prop := routerThroughRow.holds Tryz.pinned (OpenSpec.ofChange routerThroughWrong)

/-- 'reticulelaw15.RouterGates': WHATEVER THE INPUT: true; the input reads as it did. -/
def routerGatesSpec : ChangeSpec := { name := "routerGates", fn := fun _ => fun
  | [d1, d2, d3] => { results := [.lit (.bool true)], args := [d1, d2, d3] }
  | _ => none }
def routerGatesRow : OpenClaim := { program := "ytmmegmonmilkcaagreatdoor", sum := "c4a09f97fc36c7beca4a544e43a84cfee300455b78450a78e40b610a2e9865ad", func := "reticule/reticulelaw15.RouterGates", spec := "routerGates", unfollowed := true, recurses := true, named := ["reticule/grid.steps", "reticule/turn.alongX", "reticule/turn.alongY"], apart := false, laid := [("reticule/grid.steps", laid_reticule_grid_steps), ("reticule/turn.alongX", laid_reticule_turn_alongX), ("reticule/turn.alongY", laid_reticule_turn_alongY)] }
def RouterGatesSaid : Prop := routerGatesRow.holds Tryz.pinned (OpenSpec.ofChange routerGatesSpec)

/-- ITS FALSE NEIGHBOUR: 'it returns false'. Refute it at one input. -/
def routerGatesWrong : ChangeSpec := { name := "routerGates", fn := fun _ => fun
  | [d1, d2, d3] => { results := [.lit (.bool false)], args := [d1, d2, d3] }
  | _ => none }
def RouterGatesWrongFalsely : Prop := routerGatesRow.holds Tryz.pinned (OpenSpec.ofChange routerGatesWrong)

/-- 'reticulelaw15.RouterNil': WHATEVER THE INPUT: true; the input reads as it did. -/
def routerNilSpec : ChangeSpec := { name := "routerNil", fn := fun _ => fun
  | [d1, d2, d3] => { results := [.lit (.bool true)], args := [d1, d2, d3] }
  | _ => none }
def routerNilRow : OpenClaim := { program := "ytmmegmonmilkcaagreatdoor", sum := "c4a09f97fc36c7beca4a544e43a84cfee300455b78450a78e40b610a2e9865ad", func := "reticule/reticulelaw15.RouterNil", spec := "routerNil", unfollowed := true, recurses := true, named := ["reticule/grid.steps", "reticule/turn.alongX", "reticule/turn.alongY"], apart := false, laid := [("reticule/grid.steps", laid_reticule_grid_steps), ("reticule/turn.alongX", laid_reticule_turn_alongX), ("reticule/turn.alongY", laid_reticule_turn_alongY)] }
def RouterNilSaid : Prop := routerNilRow.holds Tryz.pinned (OpenSpec.ofChange routerNilSpec)

/-- ITS FALSE NEIGHBOUR: 'it returns false'. Refute it at one input. -/
def routerNilWrong : ChangeSpec := { name := "routerNil", fn := fun _ => fun
  | [d1, d2, d3] => { results := [.lit (.bool false)], args := [d1, d2, d3] }
  | _ => none }
def RouterNilWrongFalsely : Prop := routerNilRow.holds Tryz.pinned (OpenSpec.ofChange routerNilWrong)

/-- 'reticulelaw15.RouterTurns': WHATEVER THE INPUT: true; the input reads as it did. -/
def routerTurnsSpec : ChangeSpec := { name := "routerTurns", fn := fun _ => fun
  | [d1, d2, d3] => { results := [.lit (.bool true)], args := [d1, d2, d3] }
  | _ => none }
def routerTurnsRow : OpenClaim := { program := "ytmmegmonmilkcaagreatdoor", sum := "c4a09f97fc36c7beca4a544e43a84cfee300455b78450a78e40b610a2e9865ad", func := "reticule/reticulelaw15.RouterTurns", spec := "routerTurns", unfollowed := true, recurses := true, named := ["reticule/grid.steps", "reticule/turn.alongX", "reticule/turn.alongY"], apart := false, laid := [("reticule/grid.steps", laid_reticule_grid_steps), ("reticule/turn.alongX", laid_reticule_turn_alongX), ("reticule/turn.alongY", laid_reticule_turn_alongY)] }
def RouterTurnsSaid : Prop := routerTurnsRow.holds Tryz.pinned (OpenSpec.ofChange routerTurnsSpec)

/-- ITS FALSE NEIGHBOUR: 'it returns false'. Refute it at one input. -/
def routerTurnsWrong : ChangeSpec := { name := "routerTurns", fn := fun _ => fun
  | [d1, d2, d3] => { results := [.lit (.bool false)], args := [d1, d2, d3] }
  | _ => none }
def RouterTurnsWrongFalsely : Prop := routerTurnsRow.holds Tryz.pinned (OpenSpec.ofChange routerTurnsWrong)

/- THE SECOND FORM. 'bulk': how many values and letters a reading holds, each counted each time it is reached (what is shared counts as often as it is met; a slice's spare places count too). A statement '..UptoSaid' is the law's where the arguments, and the package variables that the reading takes, are together of bulk at most 1048576: NARROWER than '..Said'. Prove '..Said' where nothing that the law and all that it calls make is longer than what came in: it says more and counts as full. Else prove '..UptoSaid'. A law counts once. -/
mutual
def uptoBulk {H : Type} : DataW H → Nat
  | .lit (.string bytes) => bytes.length + 1
  | .lit _ => 1
  | .nil => 1
  | .ptr d => uptoBulk d + 1
  | .slice elems spare => uptoBulkAll elems + uptoBulkAll spare + 1
  | .agg parts => uptoBulkAll parts + 1
  | .iface _ d => uptoBulk d + 1
  | .map entries => uptoBulkEntries entries + 1
  | .held _ => 1
def uptoBulkAll {H : Type} : List (DataW H) → Nat
  | [] => 0
  | d :: r => uptoBulk d + uptoBulkAll r
def uptoBulkEntries {H : Type} : List (Lit × DataW H) → Nat
  | [] => 0
  | x :: r => uptoBulkEntry x + uptoBulkEntries r
def uptoBulkEntry {H : Type} : Lit × DataW H → Nat
  | (.string bytes, d) => bytes.length + uptoBulk d + 1
  | (_, d) => uptoBulk d + 1
 end
def uptoSmall : (H : Type) → List (DataW H) → Bool := fun _ ds => decide (uptoBulkAll ds ≤ 1048576)
def OpenSpec.upto (s : _root_.Go.ChangeSpec) : _root_.Go.OpenSpec := { _root_.Go.OpenSpec.ofChange s with cond := some uptoSmall }

/-- 'reticulelaw15.RouterPlays', WHERE WHAT IT READS IS OF BULK AT MOST 1048576: true; the input reads as it did. -/
def routerPlaysUptoRow : OpenClaim := { program := "ytmmegmonmilkcaagreatdoor", sum := "c4a09f97fc36c7beca4a544e43a84cfee300455b78450a78e40b610a2e9865ad", func := "reticule/reticulelaw15.RouterPlays", spec := "routerPlays", unfollowed := true, recurses := true, named := ["reticule/grid.steps", "reticule/turn.alongX", "reticule/turn.alongY"], apart := false, laid := [("reticule/grid.steps", laid_reticule_grid_steps), ("reticule/turn.alongX", laid_reticule_turn_alongX), ("reticule/turn.alongY", laid_reticule_turn_alongY)], narrowed := true }
def RouterPlaysUptoSaid : Prop := routerPlaysUptoRow.holds Tryz.pinned (OpenSpec.upto routerPlaysSpec)

/-- 'reticulelaw15.RouterOwners', WHERE WHAT IT READS IS OF BULK AT MOST 1048576: true; the input reads as it did. -/
def routerOwnersUptoRow : OpenClaim := { program := "ytmmegmonmilkcaagreatdoor", sum := "c4a09f97fc36c7beca4a544e43a84cfee300455b78450a78e40b610a2e9865ad", func := "reticule/reticulelaw15.RouterOwners", spec := "routerOwners", unfollowed := true, recurses := true, named := ["reticule/grid.steps", "reticule/turn.alongX", "reticule/turn.alongY"], apart := false, laid := [("reticule/grid.steps", laid_reticule_grid_steps), ("reticule/turn.alongX", laid_reticule_turn_alongX), ("reticule/turn.alongY", laid_reticule_turn_alongY)], narrowed := true }
def RouterOwnersUptoSaid : Prop := routerOwnersUptoRow.holds Tryz.pinned (OpenSpec.upto routerOwnersSpec)

/-- 'reticulelaw15.RouterThrough', WHERE WHAT IT READS IS OF BULK AT MOST 1048576: true; the input reads as it did. -/
def routerThroughUptoRow : OpenClaim := { program := "ytmmegmonmilkcaagreatdoor", sum := "c4a09f97fc36c7beca4a544e43a84cfee300455b78450a78e40b610a2e9865ad", func := "reticule/reticulelaw15.RouterThrough", spec := "routerThrough", unfollowed := true, recurses := true, named := ["reticule/grid.steps", "reticule/turn.alongX", "reticule/turn.alongY"], apart := false, laid := [("reticule/grid.steps", laid_reticule_grid_steps), ("reticule/turn.alongX", laid_reticule_turn_alongX), ("reticule/turn.alongY", laid_reticule_turn_alongY)], narrowed := true }
def RouterThroughUptoSaid : Prop := routerThroughUptoRow.holds Tryz.pinned (OpenSpec.upto routerThroughSpec)

/-- 'reticulelaw15.RouterGates', WHERE WHAT IT READS IS OF BULK AT MOST 1048576: true; the input reads as it did. -/
def routerGatesUptoRow : OpenClaim := { program := "ytmmegmonmilkcaagreatdoor", sum := "c4a09f97fc36c7beca4a544e43a84cfee300455b78450a78e40b610a2e9865ad", func := "reticule/reticulelaw15.RouterGates", spec := "routerGates", unfollowed := true, recurses := true, named := ["reticule/grid.steps", "reticule/turn.alongX", "reticule/turn.alongY"], apart := false, laid := [("reticule/grid.steps", laid_reticule_grid_steps), ("reticule/turn.alongX", laid_reticule_turn_alongX), ("reticule/turn.alongY", laid_reticule_turn_alongY)], narrowed := true }
def RouterGatesUptoSaid : Prop := routerGatesUptoRow.holds Tryz.pinned (OpenSpec.upto routerGatesSpec)

/-- 'reticulelaw15.RouterNil', WHERE WHAT IT READS IS OF BULK AT MOST 1048576: true; the input reads as it did. -/
def routerNilUptoRow : OpenClaim := { program := "ytmmegmonmilkcaagreatdoor", sum := "c4a09f97fc36c7beca4a544e43a84cfee300455b78450a78e40b610a2e9865ad", func := "reticule/reticulelaw15.RouterNil", spec := "routerNil", unfollowed := true, recurses := true, named := ["reticule/grid.steps", "reticule/turn.alongX", "reticule/turn.alongY"], apart := false, laid := [("reticule/grid.steps", laid_reticule_grid_steps), ("reticule/turn.alongX", laid_reticule_turn_alongX), ("reticule/turn.alongY", laid_reticule_turn_alongY)], narrowed := true }
def RouterNilUptoSaid : Prop := routerNilUptoRow.holds Tryz.pinned (OpenSpec.upto routerNilSpec)

/-- 'reticulelaw15.RouterTurns', WHERE WHAT IT READS IS OF BULK AT MOST 1048576: true; the input reads as it did. -/
def routerTurnsUptoRow : OpenClaim := { program := "ytmmegmonmilkcaagreatdoor", sum := "c4a09f97fc36c7beca4a544e43a84cfee300455b78450a78e40b610a2e9865ad", func := "reticule/reticulelaw15.RouterTurns", spec := "routerTurns", unfollowed := true, recurses := true, named := ["reticule/grid.steps", "reticule/turn.alongX", "reticule/turn.alongY"], apart := false, laid := [("reticule/grid.steps", laid_reticule_grid_steps), ("reticule/turn.alongX", laid_reticule_turn_alongX), ("reticule/turn.alongY", laid_reticule_turn_alongY)], narrowed := true }
def RouterTurnsUptoSaid : Prop := routerTurnsUptoRow.holds Tryz.pinned (OpenSpec.upto routerTurnsSpec)

end Rows
end Go.Proofs.YtmmegmonmilkcaaGreatDoor
