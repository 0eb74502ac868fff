/-
  No cell of these rows narrows 'for every input' (looked for: loops, veiled, ifaces, maps, wideKeys, modest, calm, conditions, laid).
  DERIVED. THE GIVEN ROWS OF THIS SEAT. 5 by the template 'for every input the law returns true; each argument reads behind the call as it read before'; 0 by the template 'total and deterministic' (their statements: YtnhfoojnokiboaaTotals.lean).
  GIVEN WITH THE SEED: the statements are not yours to turn. If you find one false, say at which input.
  Laid BY PROGRAM, IN A SANDBOX (cutbox-rows.mjs): the forced cells as the released guide's own fill.sh prints them over the translation 790b36f19ec950f7… (all of the seat's roots in one cut). By AI agents, Wed Nov 11 2026. No macro, syntax, notation, axiom, sorry.
-/
import Derived.Test.YtnhfoojnokiboaaChecked
import GoSem.Claim
import GoSem.ClaimJoined
import GoSem.ClaimMapViews
import Derived.JoinedTies
import Derived.KernelRfl
namespace Go.Proofs.Ytnhfoojnokiboaa
/- THE CELL 'sum', in the pinned program and in every row, IS THE sha256 OF THE DUMP (.gsa) THAT YtnhfoojnokiboaaProg.lean LOADS. Nothing in Lean hashes anything: it is a label: what it is worth is what the hold of that sum in a sandbox is worth. -/
noncomputable def Try.pinned : Pinned := { name := "ytnhfoojnokiboaa", sum := "790b36f19ec950f75531d14e6a36f7efb21be560409dcbe103da7e94a2ccf0da", checked := Try.checked }
namespace Rows
def none {H : Type} : Left H := { results := [], args := [] }

/-- 'reticulelaw10.CutWords': WHATEVER THE INPUT: true; the input reads as it did. -/
def cutWordsSpec : ChangeSpec := { name := "cutWords", fn := fun _ => fun
  | [d1, d2] => { results := [.lit (.bool true)], args := [d1, d2] }
  | _ => none }
def cutWordsRow : OpenClaim := { program := "ytnhfoojnokiboaa", sum := "790b36f19ec950f75531d14e6a36f7efb21be560409dcbe103da7e94a2ccf0da", func := "reticule/reticulelaw10.CutWords", spec := "cutWords", unfollowed := true, recurses := true, apart := false }
def CutWordsSaid : Prop := cutWordsRow.holds Try.pinned (OpenSpec.ofChange cutWordsSpec)

/-- ITS FALSE NEIGHBOUR: 'it returns false'. Refute it at one input. -/
def cutWordsWrong : ChangeSpec := { name := "cutWords", fn := fun _ => fun
  | [d1, d2] => { results := [.lit (.bool false)], args := [d1, d2] }
  | _ => none }
def CutWordsWrongFalsely : Prop := cutWordsRow.holds Try.pinned (OpenSpec.ofChange cutWordsWrong)

/-- 'reticulelaw10.CutReads': WHATEVER THE INPUT: true; the input reads as it did. -/
def cutReadsSpec : ChangeSpec := { name := "cutReads", fn := fun _ => fun
  | [d1, d2, d3] => { results := [.lit (.bool true)], args := [d1, d2, d3] }
  | _ => none }
def cutReadsRow : OpenClaim := { program := "ytnhfoojnokiboaa", sum := "790b36f19ec950f75531d14e6a36f7efb21be560409dcbe103da7e94a2ccf0da", func := "reticule/reticulelaw10.CutReads", spec := "cutReads", unfollowed := true, recurses := true, apart := false }
def CutReadsSaid : Prop := cutReadsRow.holds Try.pinned (OpenSpec.ofChange cutReadsSpec)

/-- ITS FALSE NEIGHBOUR: 'it returns false'. Refute it at one input. -/
def cutReadsWrong : ChangeSpec := { name := "cutReads", fn := fun _ => fun
  | [d1, d2, d3] => { results := [.lit (.bool false)], args := [d1, d2, d3] }
  | _ => none }
def CutReadsWrongFalsely : Prop := cutReadsRow.holds Try.pinned (OpenSpec.ofChange cutReadsWrong)

/-- 'reticulelaw10.CutBack': WHATEVER THE INPUT: true; the input reads as it did. -/
def cutBackSpec : ChangeSpec := { name := "cutBack", fn := fun _ => fun
  | [d] => { results := [.lit (.bool true)], args := [d] }
  | _ => none }
def cutBackRow : OpenClaim := { program := "ytnhfoojnokiboaa", sum := "790b36f19ec950f75531d14e6a36f7efb21be560409dcbe103da7e94a2ccf0da", func := "reticule/reticulelaw10.CutBack", spec := "cutBack", unfollowed := true, recurses := true, apart := false }
def CutBackSaid : Prop := cutBackRow.holds Try.pinned (OpenSpec.ofChange cutBackSpec)

/-- ITS FALSE NEIGHBOUR: 'it returns false'. Refute it at one input. -/
def cutBackWrong : ChangeSpec := { name := "cutBack", fn := fun _ => fun
  | [d] => { results := [.lit (.bool false)], args := [d] }
  | _ => none }
def CutBackWrongFalsely : Prop := cutBackRow.holds Try.pinned (OpenSpec.ofChange cutBackWrong)

/-- 'reticulelaw10.CutKinds': WHATEVER THE INPUT: true; the input reads as it did. -/
def cutKindsSpec : ChangeSpec := { name := "cutKinds", fn := fun _ => fun
  | [d] => { results := [.lit (.bool true)], args := [d] }
  | _ => none }
def cutKindsRow : OpenClaim := { program := "ytnhfoojnokiboaa", sum := "790b36f19ec950f75531d14e6a36f7efb21be560409dcbe103da7e94a2ccf0da", func := "reticule/reticulelaw10.CutKinds", spec := "cutKinds", unfollowed := true, recurses := true, apart := false }
def CutKindsSaid : Prop := cutKindsRow.holds Try.pinned (OpenSpec.ofChange cutKindsSpec)

/-- ITS FALSE NEIGHBOUR: 'it returns false'. Refute it at one input. -/
def cutKindsWrong : ChangeSpec := { name := "cutKinds", fn := fun _ => fun
  | [d] => { results := [.lit (.bool false)], args := [d] }
  | _ => none }
def CutKindsWrongFalsely : Prop := cutKindsRow.holds Try.pinned (OpenSpec.ofChange cutKindsWrong)

/-- 'reticulelaw10.CutData': WHATEVER THE INPUT: true; the input reads as it did. -/
def cutDataSpec : ChangeSpec := { name := "cutData", fn := fun _ => fun
  | [d1, d2] => { results := [.lit (.bool true)], args := [d1, d2] }
  | _ => none }
def cutDataRow : OpenClaim := { program := "ytnhfoojnokiboaa", sum := "790b36f19ec950f75531d14e6a36f7efb21be560409dcbe103da7e94a2ccf0da", func := "reticule/reticulelaw10.CutData", spec := "cutData", unfollowed := true, recurses := true, apart := false }
def CutDataSaid : Prop := cutDataRow.holds Try.pinned (OpenSpec.ofChange cutDataSpec)

/-- ITS FALSE NEIGHBOUR: 'it returns false'. Refute it at one input. -/
def cutDataWrong : ChangeSpec := { name := "cutData", fn := fun _ => fun
  | [d1, d2] => { results := [.lit (.bool false)], args := [d1, d2] }
  | _ => none }
def CutDataWrongFalsely : Prop := cutDataRow.holds Try.pinned (OpenSpec.ofChange cutDataWrong)

/- THE SECOND FORM. 'bulk': how many values and letters a reading holds, each counted each time it is reached (what is shared counts as often as it is met; a slice's spare places count too). A statement '..UptoSaid' is the law's where the arguments, and the package variables that the reading takes, are together of bulk at most 1048576: NARROWER than '..Said'. Prove '..Said' where nothing that the law and all that it calls make is longer than what came in: it says more and counts as full. Else prove '..UptoSaid'. A law counts once. -/
mutual
def uptoBulk {H : Type} : DataW H → Nat
  | .lit (.string bytes) => bytes.length + 1
  | .lit _ => 1
  | .nil => 1
  | .ptr d => uptoBulk d + 1
  | .slice elems spare => uptoBulkAll elems + uptoBulkAll spare + 1
  | .agg parts => uptoBulkAll parts + 1
  | .iface _ d => uptoBulk d + 1
  | .map entries => uptoBulkEntries entries + 1
  | .held _ => 1
def uptoBulkAll {H : Type} : List (DataW H) → Nat
  | [] => 0
  | d :: r => uptoBulk d + uptoBulkAll r
def uptoBulkEntries {H : Type} : List (Lit × DataW H) → Nat
  | [] => 0
  | x :: r => uptoBulkEntry x + uptoBulkEntries r
def uptoBulkEntry {H : Type} : Lit × DataW H → Nat
  | (.string bytes, d) => bytes.length + uptoBulk d + 1
  | (_, d) => uptoBulk d + 1
 end
def uptoSmall : (H : Type) → List (DataW H) → Bool := fun _ ds => decide (uptoBulkAll ds ≤ 1048576)
def OpenSpec.upto (s : _root_.Go.ChangeSpec) : _root_.Go.OpenSpec := { _root_.Go.OpenSpec.ofChange s with cond := some uptoSmall }

/-- 'reticulelaw10.CutWords', WHERE WHAT IT READS IS OF BULK AT MOST 1048576: true; the input reads as it did. -/
def cutWordsUptoRow : OpenClaim := { program := "ytnhfoojnokiboaa", sum := "790b36f19ec950f75531d14e6a36f7efb21be560409dcbe103da7e94a2ccf0da", func := "reticule/reticulelaw10.CutWords", spec := "cutWords", unfollowed := true, recurses := true, apart := false, narrowed := true }
def CutWordsUptoSaid : Prop := cutWordsUptoRow.holds Try.pinned (OpenSpec.upto cutWordsSpec)

/-- 'reticulelaw10.CutReads', WHERE WHAT IT READS IS OF BULK AT MOST 1048576: true; the input reads as it did. -/
def cutReadsUptoRow : OpenClaim := { program := "ytnhfoojnokiboaa", sum := "790b36f19ec950f75531d14e6a36f7efb21be560409dcbe103da7e94a2ccf0da", func := "reticule/reticulelaw10.CutReads", spec := "cutReads", unfollowed := true, recurses := true, apart := false, narrowed := true }
def CutReadsUptoSaid : Prop := cutReadsUptoRow.holds Try.pinned (OpenSpec.upto cutReadsSpec)

/-- 'reticulelaw10.CutBack', WHERE WHAT IT READS IS OF BULK AT MOST 1048576: true; the input reads as it did. -/
def cutBackUptoRow : OpenClaim := { program := "ytnhfoojnokiboaa", sum := "790b36f19ec950f75531d14e6a36f7efb21be560409dcbe103da7e94a2ccf0da", func := "reticule/reticulelaw10.CutBack", spec := "cutBack", unfollowed := true, recurses := true, apart := false, narrowed := true }
def CutBackUptoSaid : Prop := cutBackUptoRow.holds Try.pinned (OpenSpec.upto cutBackSpec)

/-- 'reticulelaw10.CutKinds', WHERE WHAT IT READS IS OF BULK AT MOST 1048576: true; the input reads as it did. -/
def cutKindsUptoRow : OpenClaim := { program := "ytnhfoojnokiboaa", sum := "790b36f19ec950f75531d14e6a36f7efb21be560409dcbe103da7e94a2ccf0da", func := "reticule/reticulelaw10.CutKinds", spec := "cutKinds", unfollowed := true, recurses := true, apart := false, narrowed := true }
def CutKindsUptoSaid : Prop := cutKindsUptoRow.holds Try.pinned (OpenSpec.upto cutKindsSpec)

/-- 'reticulelaw10.CutData', WHERE WHAT IT READS IS OF BULK AT MOST 1048576: true; the input reads as it did. -/
def cutDataUptoRow : OpenClaim := { program := "ytnhfoojnokiboaa", sum := "790b36f19ec950f75531d14e6a36f7efb21be560409dcbe103da7e94a2ccf0da", func := "reticule/reticulelaw10.CutData", spec := "cutData", unfollowed := true, recurses := true, apart := false, narrowed := true }
def CutDataUptoSaid : Prop := cutDataUptoRow.holds Try.pinned (OpenSpec.upto cutDataSpec)

end Rows
end Go.Proofs.Ytnhfoojnokiboaa
