/-
  No cell of these rows narrows 'for every input' (looked for: loops, veiled, ifaces, maps, wideKeys, modest, calm, conditions, laid).
  DERIVED. THE GIVEN ROWS OF THIS SEAT. 7 by the template 'for every input the law returns true; each argument reads behind the call as it read before'; 0 by the template 'total and deterministic' (their statements: YtpmkpjnhdehnhaaTotals.lean).
  GIVEN WITH THE SEED: the statements are not yours to turn. If you find one false, say at which input.
  Laid BY PROGRAM, IN A SANDBOX (cutbox-rows.mjs): the forced cells as the released guide's own fill.sh prints them over the translation 61135dc54a72f02b… (all of the seat's roots in one cut). By AI agents, Wed Nov 11 2026. No macro, syntax, notation, axiom, sorry.
-/
import Derived.Test.YtpmkpjnhdehnhaaChecked
import GoSem.Claim
import GoSem.ClaimJoined
import GoSem.ClaimMapViews
import Derived.JoinedTies
import Derived.KernelRfl
namespace Go.Proofs.Ytpmkpjnhdehnhaa
/- THE CELL 'sum', in the pinned program and in every row, IS THE sha256 OF THE DUMP (.gsa) THAT YtpmkpjnhdehnhaaProg.lean LOADS. Nothing in Lean hashes anything: it is a label: what it is worth is what the hold of that sum in a sandbox is worth. -/
noncomputable def Try.pinned : Pinned := { name := "ytpmkpjnhdehnhaa", sum := "61135dc54a72f02b61a6ef51a4cdd757ff1af7152372ea9f819dfc5f95281938", checked := Try.checked }
namespace Rows
def none {H : Type} : Left H := { results := [], args := [] }

/-- 'reticulelaw16.InboxPlays': WHATEVER THE INPUT: true; the input reads as it did. -/
def inboxPlaysSpec : ChangeSpec := { name := "inboxPlays", fn := fun _ => fun
  | [d1, d2] => { results := [.lit (.bool true)], args := [d1, d2] }
  | _ => none }
def inboxPlaysRow : OpenClaim := { program := "ytpmkpjnhdehnhaa", sum := "61135dc54a72f02b61a6ef51a4cdd757ff1af7152372ea9f819dfc5f95281938", func := "reticule/reticulelaw16.InboxPlays", spec := "inboxPlays", plainKeys := false, apart := false }
def InboxPlaysSaid : Prop := inboxPlaysRow.holds Try.pinned (OpenSpec.ofChange inboxPlaysSpec)

/-- ITS FALSE NEIGHBOUR: 'it returns false'. Refute it at one input. -/
def inboxPlaysWrong : ChangeSpec := { name := "inboxPlays", fn := fun _ => fun
  | [d1, d2] => { results := [.lit (.bool false)], args := [d1, d2] }
  | _ => none }
def InboxPlaysWrongFalsely : Prop := inboxPlaysRow.holds Try.pinned (OpenSpec.ofChange inboxPlaysWrong)

/-- 'reticulelaw16.InboxRow': WHATEVER THE INPUT: true; the input reads as it did. -/
def inboxRowSpec : ChangeSpec := { name := "inboxRow", fn := fun _ => fun
  | [d1, d2, d3] => { results := [.lit (.bool true)], args := [d1, d2, d3] }
  | _ => none }
def inboxRowRow : OpenClaim := { program := "ytpmkpjnhdehnhaa", sum := "61135dc54a72f02b61a6ef51a4cdd757ff1af7152372ea9f819dfc5f95281938", func := "reticule/reticulelaw16.InboxRow", spec := "inboxRow", plainKeys := false, apart := false }
def InboxRowSaid : Prop := inboxRowRow.holds Try.pinned (OpenSpec.ofChange inboxRowSpec)

/-- ITS FALSE NEIGHBOUR: 'it returns false'. Refute it at one input. -/
def inboxRowWrong : ChangeSpec := { name := "inboxRow", fn := fun _ => fun
  | [d1, d2, d3] => { results := [.lit (.bool false)], args := [d1, d2, d3] }
  | _ => none }
def InboxRowWrongFalsely : Prop := inboxRowRow.holds Try.pinned (OpenSpec.ofChange inboxRowWrong)

/-- 'reticulelaw16.InboxFull': WHATEVER THE INPUT: true; the input reads as it did. -/
def inboxFullSpec : ChangeSpec := { name := "inboxFull", fn := fun _ => fun
  | [d1, d2] => { results := [.lit (.bool true)], args := [d1, d2] }
  | _ => none }
def inboxFullRow : OpenClaim := { program := "ytpmkpjnhdehnhaa", sum := "61135dc54a72f02b61a6ef51a4cdd757ff1af7152372ea9f819dfc5f95281938", func := "reticule/reticulelaw16.InboxFull", spec := "inboxFull", plainKeys := false, apart := false }
def InboxFullSaid : Prop := inboxFullRow.holds Try.pinned (OpenSpec.ofChange inboxFullSpec)

/-- ITS FALSE NEIGHBOUR: 'it returns false'. Refute it at one input. -/
def inboxFullWrong : ChangeSpec := { name := "inboxFull", fn := fun _ => fun
  | [d1, d2] => { results := [.lit (.bool false)], args := [d1, d2] }
  | _ => none }
def InboxFullWrongFalsely : Prop := inboxFullRow.holds Try.pinned (OpenSpec.ofChange inboxFullWrong)

/-- 'reticulelaw16.InboxRound': WHATEVER THE INPUT: true; the input reads as it did. -/
def inboxRoundSpec : ChangeSpec := { name := "inboxRound", fn := fun _ => fun
  | [d] => { results := [.lit (.bool true)], args := [d] }
  | _ => none }
def inboxRoundRow : OpenClaim := { program := "ytpmkpjnhdehnhaa", sum := "61135dc54a72f02b61a6ef51a4cdd757ff1af7152372ea9f819dfc5f95281938", func := "reticule/reticulelaw16.InboxRound", spec := "inboxRound", plainKeys := false, apart := false }
def InboxRoundSaid : Prop := inboxRoundRow.holds Try.pinned (OpenSpec.ofChange inboxRoundSpec)

/-- ITS FALSE NEIGHBOUR: 'it returns false'. Refute it at one input. -/
def inboxRoundWrong : ChangeSpec := { name := "inboxRound", fn := fun _ => fun
  | [d] => { results := [.lit (.bool false)], args := [d] }
  | _ => none }
def InboxRoundWrongFalsely : Prop := inboxRoundRow.holds Try.pinned (OpenSpec.ofChange inboxRoundWrong)

/-- 'reticulelaw16.InboxOdd': WHATEVER THE INPUT: true; the input reads as it did. -/
def inboxOddSpec : ChangeSpec := { name := "inboxOdd", fn := fun _ => fun
  | [d] => { results := [.lit (.bool true)], args := [d] }
  | _ => none }
def inboxOddRow : OpenClaim := { program := "ytpmkpjnhdehnhaa", sum := "61135dc54a72f02b61a6ef51a4cdd757ff1af7152372ea9f819dfc5f95281938", func := "reticule/reticulelaw16.InboxOdd", spec := "inboxOdd", plainKeys := false, apart := false }
def InboxOddSaid : Prop := inboxOddRow.holds Try.pinned (OpenSpec.ofChange inboxOddSpec)

/-- ITS FALSE NEIGHBOUR: 'it returns false'. Refute it at one input. -/
def inboxOddWrong : ChangeSpec := { name := "inboxOdd", fn := fun _ => fun
  | [d] => { results := [.lit (.bool false)], args := [d] }
  | _ => none }
def InboxOddWrongFalsely : Prop := inboxOddRow.holds Try.pinned (OpenSpec.ofChange inboxOddWrong)

/-- 'reticulelaw16.InboxApart': WHATEVER THE INPUT: true; the input reads as it did. -/
def inboxApartSpec : ChangeSpec := { name := "inboxApart", fn := fun _ => fun
  | [d1, d2] => { results := [.lit (.bool true)], args := [d1, d2] }
  | _ => none }
def inboxApartRow : OpenClaim := { program := "ytpmkpjnhdehnhaa", sum := "61135dc54a72f02b61a6ef51a4cdd757ff1af7152372ea9f819dfc5f95281938", func := "reticule/reticulelaw16.InboxApart", spec := "inboxApart", plainKeys := false, apart := false }
def InboxApartSaid : Prop := inboxApartRow.holds Try.pinned (OpenSpec.ofChange inboxApartSpec)

/-- ITS FALSE NEIGHBOUR: 'it returns false'. Refute it at one input. -/
def inboxApartWrong : ChangeSpec := { name := "inboxApart", fn := fun _ => fun
  | [d1, d2] => { results := [.lit (.bool false)], args := [d1, d2] }
  | _ => none }
def InboxApartWrongFalsely : Prop := inboxApartRow.holds Try.pinned (OpenSpec.ofChange inboxApartWrong)

/-- 'reticulelaw16.InboxCounts': WHATEVER THE INPUT: true; the input reads as it did. -/
def inboxCountsSpec : ChangeSpec := { name := "inboxCounts", fn := fun _ => fun
  | [d1, d2] => { results := [.lit (.bool true)], args := [d1, d2] }
  | _ => none }
def inboxCountsRow : OpenClaim := { program := "ytpmkpjnhdehnhaa", sum := "61135dc54a72f02b61a6ef51a4cdd757ff1af7152372ea9f819dfc5f95281938", func := "reticule/reticulelaw16.InboxCounts", spec := "inboxCounts", plainKeys := false, apart := false }
def InboxCountsSaid : Prop := inboxCountsRow.holds Try.pinned (OpenSpec.ofChange inboxCountsSpec)

/-- ITS FALSE NEIGHBOUR: 'it returns false'. Refute it at one input. -/
def inboxCountsWrong : ChangeSpec := { name := "inboxCounts", fn := fun _ => fun
  | [d1, d2] => { results := [.lit (.bool false)], args := [d1, d2] }
  | _ => none }
def InboxCountsWrongFalsely : Prop := inboxCountsRow.holds Try.pinned (OpenSpec.ofChange inboxCountsWrong)

/- THE SECOND FORM. 'bulk': how many values and letters a reading holds, each counted each time it is reached (what is shared counts as often as it is met; a slice's spare places count too). A statement '..UptoSaid' is the law's where the arguments, and the package variables that the reading takes, are together of bulk at most 1048576: NARROWER than '..Said'. Prove '..Said' where nothing that the law and all that it calls make is longer than what came in: it says more and counts as full. Else prove '..UptoSaid'. A law counts once. -/
mutual
def uptoBulk {H : Type} : DataW H → Nat
  | .lit (.string bytes) => bytes.length + 1
  | .lit _ => 1
  | .nil => 1
  | .ptr d => uptoBulk d + 1
  | .slice elems spare => uptoBulkAll elems + uptoBulkAll spare + 1
  | .agg parts => uptoBulkAll parts + 1
  | .iface _ d => uptoBulk d + 1
  | .map entries => uptoBulkEntries entries + 1
  | .held _ => 1
def uptoBulkAll {H : Type} : List (DataW H) → Nat
  | [] => 0
  | d :: r => uptoBulk d + uptoBulkAll r
def uptoBulkEntries {H : Type} : List (Lit × DataW H) → Nat
  | [] => 0
  | x :: r => uptoBulkEntry x + uptoBulkEntries r
def uptoBulkEntry {H : Type} : Lit × DataW H → Nat
  | (.string bytes, d) => bytes.length + uptoBulk d + 1
  | (_, d) => uptoBulk d + 1
 end
def uptoSmall : (H : Type) → List (DataW H) → Bool := fun _ ds => decide (uptoBulkAll ds ≤ 1048576)
def OpenSpec.upto (s : _root_.Go.ChangeSpec) : _root_.Go.OpenSpec := { _root_.Go.OpenSpec.ofChange s with cond := some uptoSmall }

/-- 'reticulelaw16.InboxPlays', WHERE WHAT IT READS IS OF BULK AT MOST 1048576: true; the input reads as it did. -/
def inboxPlaysUptoRow : OpenClaim := { program := "ytpmkpjnhdehnhaa", sum := "61135dc54a72f02b61a6ef51a4cdd757ff1af7152372ea9f819dfc5f95281938", func := "reticule/reticulelaw16.InboxPlays", spec := "inboxPlays", plainKeys := false, apart := false, narrowed := true }
def InboxPlaysUptoSaid : Prop := inboxPlaysUptoRow.holds Try.pinned (OpenSpec.upto inboxPlaysSpec)

/-- 'reticulelaw16.InboxRow', WHERE WHAT IT READS IS OF BULK AT MOST 1048576: true; the input reads as it did. -/
def inboxRowUptoRow : OpenClaim := { program := "ytpmkpjnhdehnhaa", sum := "61135dc54a72f02b61a6ef51a4cdd757ff1af7152372ea9f819dfc5f95281938", func := "reticule/reticulelaw16.InboxRow", spec := "inboxRow", plainKeys := false, apart := false, narrowed := true }
def InboxRowUptoSaid : Prop := inboxRowUptoRow.holds Try.pinned (OpenSpec.upto inboxRowSpec)

/-- 'reticulelaw16.InboxFull', WHERE WHAT IT READS IS OF BULK AT MOST 1048576: true; the input reads as it did. -/
def inboxFullUptoRow : OpenClaim := { program := "ytpmkpjnhdehnhaa", sum := "61135dc54a72f02b61a6ef51a4cdd757ff1af7152372ea9f819dfc5f95281938", func := "reticule/reticulelaw16.InboxFull", spec := "inboxFull", plainKeys := false, apart := false, narrowed := true }
def InboxFullUptoSaid : Prop := inboxFullUptoRow.holds Try.pinned (OpenSpec.upto inboxFullSpec)

/-- 'reticulelaw16.InboxRound', WHERE WHAT IT READS IS OF BULK AT MOST 1048576: true; the input reads as it did. -/
def inboxRoundUptoRow : OpenClaim := { program := "ytpmkpjnhdehnhaa", sum := "61135dc54a72f02b61a6ef51a4cdd757ff1af7152372ea9f819dfc5f95281938", func := "reticule/reticulelaw16.InboxRound", spec := "inboxRound", plainKeys := false, apart := false, narrowed := true }
def InboxRoundUptoSaid : Prop := inboxRoundUptoRow.holds Try.pinned (OpenSpec.upto inboxRoundSpec)

/-- 'reticulelaw16.InboxOdd', WHERE WHAT IT READS IS OF BULK AT MOST 1048576: true; the input reads as it did. -/
def inboxOddUptoRow : OpenClaim := { program := "ytpmkpjnhdehnhaa", sum := "61135dc54a72f02b61a6ef51a4cdd757ff1af7152372ea9f819dfc5f95281938", func := "reticule/reticulelaw16.InboxOdd", spec := "inboxOdd", plainKeys := false, apart := false, narrowed := true }
def InboxOddUptoSaid : Prop := inboxOddUptoRow.holds Try.pinned (OpenSpec.upto inboxOddSpec)

/-- 'reticulelaw16.InboxApart', WHERE WHAT IT READS IS OF BULK AT MOST 1048576: true; the input reads as it did. -/
def inboxApartUptoRow : OpenClaim := { program := "ytpmkpjnhdehnhaa", sum := "61135dc54a72f02b61a6ef51a4cdd757ff1af7152372ea9f819dfc5f95281938", func := "reticule/reticulelaw16.InboxApart", spec := "inboxApart", plainKeys := false, apart := false, narrowed := true }
def InboxApartUptoSaid : Prop := inboxApartUptoRow.holds Try.pinned (OpenSpec.upto inboxApartSpec)

/-- 'reticulelaw16.InboxCounts', WHERE WHAT IT READS IS OF BULK AT MOST 1048576: true; the input reads as it did. -/
def inboxCountsUptoRow : OpenClaim := { program := "ytpmkpjnhdehnhaa", sum := "61135dc54a72f02b61a6ef51a4cdd757ff1af7152372ea9f819dfc5f95281938", func := "reticule/reticulelaw16.InboxCounts", spec := "inboxCounts", plainKeys := false, apart := false, narrowed := true }
def InboxCountsUptoSaid : Prop := inboxCountsUptoRow.holds Try.pinned (OpenSpec.upto inboxCountsSpec)

end Rows
end Go.Proofs.Ytpmkpjnhdehnhaa
