/-
  No cell of these rows narrows 'for every input' (looked for: loops, veiled, ifaces, maps, wideKeys, modest, calm, conditions, laid).
  DERIVED. THE GIVEN ROWS OF THIS SEAT. 5 by the template 'for every input the law returns true; each argument reads behind the call as it read before'; 0 by the template 'total and deterministic' (their statements: YtockjijhckkicaaTotals.lean).
  GIVEN WITH THE SEED: the statements are not yours to turn. If you find one false, say at which input.
  Laid BY PROGRAM, IN A SANDBOX (cutbox-rows.mjs): the forced cells as the released guide's own fill.sh prints them over the translation f3cd2fa4947c9631… (all of the seat's roots in one cut). By AI agents, Wed Nov 11 2026. No macro, syntax, notation, axiom, sorry.
-/
import Derived.Test.YtockjijhckkicaaChecked
import GoSem.Claim
import GoSem.ClaimJoined
import GoSem.ClaimMapViews
import Derived.JoinedTies
import Derived.KernelRfl
namespace Go.Proofs.Ytockjijhckkicaa
/- THE CELL 'sum', in the pinned program and in every row, IS THE sha256 OF THE DUMP (.gsa) THAT YtockjijhckkicaaProg.lean LOADS. Nothing in Lean hashes anything: it is a label: what it is worth is what the hold of that sum in a sandbox is worth. -/
noncomputable def Try.pinned : Pinned := { name := "ytockjijhckkicaa", sum := "f3cd2fa4947c963150cc4e29a88aaaff6e241dbd0a4e4c4bca4ba08cd7a36d59", checked := Try.checked }
namespace Rows
def none {H : Type} : Left H := { results := [], args := [] }

/-- 'reticulelaw11.JoinTakes': WHATEVER THE INPUT: true; the input reads as it did. -/
def joinTakesSpec : ChangeSpec := { name := "joinTakes", fn := fun _ => fun
  | [d1, d2, d3] => { results := [.lit (.bool true)], args := [d1, d2, d3] }
  | _ => none }
def joinTakesRow : OpenClaim := { program := "ytockjijhckkicaa", sum := "f3cd2fa4947c963150cc4e29a88aaaff6e241dbd0a4e4c4bca4ba08cd7a36d59", func := "reticule/reticulelaw11.JoinTakes", spec := "joinTakes", unfollowed := true, recurses := true, apart := false }
def JoinTakesSaid : Prop := joinTakesRow.holds Try.pinned (OpenSpec.ofChange joinTakesSpec)

/-- ITS FALSE NEIGHBOUR: 'it returns false'. Refute it at one input. -/
def joinTakesWrong : ChangeSpec := { name := "joinTakes", fn := fun _ => fun
  | [d1, d2, d3] => { results := [.lit (.bool false)], args := [d1, d2, d3] }
  | _ => none }
def JoinTakesWrongFalsely : Prop := joinTakesRow.holds Try.pinned (OpenSpec.ofChange joinTakesWrong)

/-- 'reticulelaw11.JoinRow': WHATEVER THE INPUT: true; the input reads as it did. -/
def joinRowSpec : ChangeSpec := { name := "joinRow", fn := fun _ => fun
  | [d] => { results := [.lit (.bool true)], args := [d] }
  | _ => none }
def joinRowRow : OpenClaim := { program := "ytockjijhckkicaa", sum := "f3cd2fa4947c963150cc4e29a88aaaff6e241dbd0a4e4c4bca4ba08cd7a36d59", func := "reticule/reticulelaw11.JoinRow", spec := "joinRow", unfollowed := true, recurses := true, apart := false }
def JoinRowSaid : Prop := joinRowRow.holds Try.pinned (OpenSpec.ofChange joinRowSpec)

/-- ITS FALSE NEIGHBOUR: 'it returns false'. Refute it at one input. -/
def joinRowWrong : ChangeSpec := { name := "joinRow", fn := fun _ => fun
  | [d] => { results := [.lit (.bool false)], args := [d] }
  | _ => none }
def JoinRowWrongFalsely : Prop := joinRowRow.holds Try.pinned (OpenSpec.ofChange joinRowWrong)

/-- 'reticulelaw11.JoinErrors': WHATEVER THE INPUT: true; the input reads as it did. -/
def joinErrorsSpec : ChangeSpec := { name := "joinErrors", fn := fun _ => fun
  | [d1, d2, d3] => { results := [.lit (.bool true)], args := [d1, d2, d3] }
  | _ => none }
def joinErrorsRow : OpenClaim := { program := "ytockjijhckkicaa", sum := "f3cd2fa4947c963150cc4e29a88aaaff6e241dbd0a4e4c4bca4ba08cd7a36d59", func := "reticule/reticulelaw11.JoinErrors", spec := "joinErrors", unfollowed := true, recurses := true, apart := false }
def JoinErrorsSaid : Prop := joinErrorsRow.holds Try.pinned (OpenSpec.ofChange joinErrorsSpec)

/-- ITS FALSE NEIGHBOUR: 'it returns false'. Refute it at one input. -/
def joinErrorsWrong : ChangeSpec := { name := "joinErrors", fn := fun _ => fun
  | [d1, d2, d3] => { results := [.lit (.bool false)], args := [d1, d2, d3] }
  | _ => none }
def JoinErrorsWrongFalsely : Prop := joinErrorsRow.holds Try.pinned (OpenSpec.ofChange joinErrorsWrong)

/-- 'reticulelaw11.JoinNil': WHATEVER THE INPUT: true; the input reads as it did. -/
def joinNilSpec : ChangeSpec := { name := "joinNil", fn := fun _ => fun
  | [d] => { results := [.lit (.bool true)], args := [d] }
  | _ => none }
def joinNilRow : OpenClaim := { program := "ytockjijhckkicaa", sum := "f3cd2fa4947c963150cc4e29a88aaaff6e241dbd0a4e4c4bca4ba08cd7a36d59", func := "reticule/reticulelaw11.JoinNil", spec := "joinNil", unfollowed := true, recurses := true, apart := false }
def JoinNilSaid : Prop := joinNilRow.holds Try.pinned (OpenSpec.ofChange joinNilSpec)

/-- ITS FALSE NEIGHBOUR: 'it returns false'. Refute it at one input. -/
def joinNilWrong : ChangeSpec := { name := "joinNil", fn := fun _ => fun
  | [d] => { results := [.lit (.bool false)], args := [d] }
  | _ => none }
def JoinNilWrongFalsely : Prop := joinNilRow.holds Try.pinned (OpenSpec.ofChange joinNilWrong)

/-- 'reticulelaw11.JoinPrefix': WHATEVER THE INPUT: true; the input reads as it did. -/
def joinPrefixSpec : ChangeSpec := { name := "joinPrefix", fn := fun _ => fun
  | [d1, d2] => { results := [.lit (.bool true)], args := [d1, d2] }
  | _ => none }
def joinPrefixRow : OpenClaim := { program := "ytockjijhckkicaa", sum := "f3cd2fa4947c963150cc4e29a88aaaff6e241dbd0a4e4c4bca4ba08cd7a36d59", func := "reticule/reticulelaw11.JoinPrefix", spec := "joinPrefix", unfollowed := true, recurses := true, apart := false }
def JoinPrefixSaid : Prop := joinPrefixRow.holds Try.pinned (OpenSpec.ofChange joinPrefixSpec)

/-- ITS FALSE NEIGHBOUR: 'it returns false'. Refute it at one input. -/
def joinPrefixWrong : ChangeSpec := { name := "joinPrefix", fn := fun _ => fun
  | [d1, d2] => { results := [.lit (.bool false)], args := [d1, d2] }
  | _ => none }
def JoinPrefixWrongFalsely : Prop := joinPrefixRow.holds Try.pinned (OpenSpec.ofChange joinPrefixWrong)

/- THE SECOND FORM. 'bulk': how many values and letters a reading holds, each counted each time it is reached (what is shared counts as often as it is met; a slice's spare places count too). A statement '..UptoSaid' is the law's where the arguments, and the package variables that the reading takes, are together of bulk at most 1048576: NARROWER than '..Said'. Prove '..Said' where nothing that the law and all that it calls make is longer than what came in: it says more and counts as full. Else prove '..UptoSaid'. A law counts once. -/
mutual
def uptoBulk {H : Type} : DataW H → Nat
  | .lit (.string bytes) => bytes.length + 1
  | .lit _ => 1
  | .nil => 1
  | .ptr d => uptoBulk d + 1
  | .slice elems spare => uptoBulkAll elems + uptoBulkAll spare + 1
  | .agg parts => uptoBulkAll parts + 1
  | .iface _ d => uptoBulk d + 1
  | .map entries => uptoBulkEntries entries + 1
  | .held _ => 1
def uptoBulkAll {H : Type} : List (DataW H) → Nat
  | [] => 0
  | d :: r => uptoBulk d + uptoBulkAll r
def uptoBulkEntries {H : Type} : List (Lit × DataW H) → Nat
  | [] => 0
  | x :: r => uptoBulkEntry x + uptoBulkEntries r
def uptoBulkEntry {H : Type} : Lit × DataW H → Nat
  | (.string bytes, d) => bytes.length + uptoBulk d + 1
  | (_, d) => uptoBulk d + 1
 end
def uptoSmall : (H : Type) → List (DataW H) → Bool := fun _ ds => decide (uptoBulkAll ds ≤ 1048576)
def OpenSpec.upto (s : _root_.Go.ChangeSpec) : _root_.Go.OpenSpec := { _root_.Go.OpenSpec.ofChange s with cond := some uptoSmall }

/-- 'reticulelaw11.JoinTakes', WHERE WHAT IT READS IS OF BULK AT MOST 1048576: true; the input reads as it did. -/
def joinTakesUptoRow : OpenClaim := { program := "ytockjijhckkicaa", sum := "f3cd2fa4947c963150cc4e29a88aaaff6e241dbd0a4e4c4bca4ba08cd7a36d59", func := "reticule/reticulelaw11.JoinTakes", spec := "joinTakes", unfollowed := true, recurses := true, apart := false, narrowed := true }
def JoinTakesUptoSaid : Prop := joinTakesUptoRow.holds Try.pinned (OpenSpec.upto joinTakesSpec)

/-- 'reticulelaw11.JoinRow', WHERE WHAT IT READS IS OF BULK AT MOST 1048576: true; the input reads as it did. -/
def joinRowUptoRow : OpenClaim := { program := "ytockjijhckkicaa", sum := "f3cd2fa4947c963150cc4e29a88aaaff6e241dbd0a4e4c4bca4ba08cd7a36d59", func := "reticule/reticulelaw11.JoinRow", spec := "joinRow", unfollowed := true, recurses := true, apart := false, narrowed := true }
def JoinRowUptoSaid : Prop := joinRowUptoRow.holds Try.pinned (OpenSpec.upto joinRowSpec)

/-- 'reticulelaw11.JoinErrors', WHERE WHAT IT READS IS OF BULK AT MOST 1048576: true; the input reads as it did. -/
def joinErrorsUptoRow : OpenClaim := { program := "ytockjijhckkicaa", sum := "f3cd2fa4947c963150cc4e29a88aaaff6e241dbd0a4e4c4bca4ba08cd7a36d59", func := "reticule/reticulelaw11.JoinErrors", spec := "joinErrors", unfollowed := true, recurses := true, apart := false, narrowed := true }
def JoinErrorsUptoSaid : Prop := joinErrorsUptoRow.holds Try.pinned (OpenSpec.upto joinErrorsSpec)

/-- 'reticulelaw11.JoinNil', WHERE WHAT IT READS IS OF BULK AT MOST 1048576: true; the input reads as it did. -/
def joinNilUptoRow : OpenClaim := { program := "ytockjijhckkicaa", sum := "f3cd2fa4947c963150cc4e29a88aaaff6e241dbd0a4e4c4bca4ba08cd7a36d59", func := "reticule/reticulelaw11.JoinNil", spec := "joinNil", unfollowed := true, recurses := true, apart := false, narrowed := true }
def JoinNilUptoSaid : Prop := joinNilUptoRow.holds Try.pinned (OpenSpec.upto joinNilSpec)

/-- 'reticulelaw11.JoinPrefix', WHERE WHAT IT READS IS OF BULK AT MOST 1048576: true; the input reads as it did. -/
def joinPrefixUptoRow : OpenClaim := { program := "ytockjijhckkicaa", sum := "f3cd2fa4947c963150cc4e29a88aaaff6e241dbd0a4e4c4bca4ba08cd7a36d59", func := "reticule/reticulelaw11.JoinPrefix", spec := "joinPrefix", unfollowed := true, recurses := true, apart := false, narrowed := true }
def JoinPrefixUptoSaid : Prop := joinPrefixUptoRow.holds Try.pinned (OpenSpec.upto joinPrefixSpec)

end Rows
end Go.Proofs.Ytockjijhckkicaa
