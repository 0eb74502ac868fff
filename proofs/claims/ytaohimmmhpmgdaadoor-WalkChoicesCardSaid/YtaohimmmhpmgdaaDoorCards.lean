/-
  DERIVED. GIVEN WITH THE SEED: THE CARDS: each row of YtaohimmmhpmgdaaDoorRows.lean that lists a variable, with what it lists TIED to the program's text (the seventh form; the later family's looks); each row that meets fmt, with fmt's text TOLD by the authors' own Lean function (tested against real Go, not proved from fmt's source: count such statements apart). THE CARD IS WHAT COUNTS. Prove the row's statement (the work); the ties are given (YtaohimmmhpmgdaaDoorTie.lean); close each card by the builder's one call (the guide's Derived/Test/ToyasCard.lean, 'card_holds'). Laid BY PROGRAM, IN A SANDBOX (cutbox-door.mjs). By AI agents, Wed Nov 11 2026. No macro, syntax, notation, axiom, sorry.
-/
import Derived.Test.YtaohimmmhpmgdaaDoorRows
import GoSem.ClaimSeven
namespace Go.Proofs.YtaohimmmhpmgdaaDoor
namespace Rows

/-- THE TIED CARD OF 'reticulelaw09.WalkWork'. -/
def walkWorkCard : Claim7 := { stood := { row := walkWorkRow, standIns := [], harness := (true, "6a67db49eb05b65c505ddaf7861e0b17f7a4e867070b7446396f2b13bcee3345"), looks := false }, kinds := [], alts := [], laidByText := true, laidKinds := [.data, .data, .data], laidTests := true, laidLooks := .later }
def WalkWorkCardSaid : Prop := Claim7.holds Tryd.pinned (.plain (OpenSpec.ofChange walkWorkSpec)) walkWorkCard

/-- THE TIED CARD OF 'reticulelaw09.WalkFar'. -/
def walkFarCard : Claim7 := { stood := { row := walkFarRow, standIns := [], harness := (true, "6a67db49eb05b65c505ddaf7861e0b17f7a4e867070b7446396f2b13bcee3345"), looks := false }, kinds := [], alts := [], laidByText := true, laidKinds := [.data, .data, .data], laidTests := true, laidLooks := .later }
def WalkFarCardSaid : Prop := Claim7.holds Tryd.pinned (.plain (OpenSpec.ofChange walkFarSpec)) walkFarCard

/-- THE TIED CARD OF 'reticulelaw09.WalkMore'. -/
def walkMoreCard : Claim7 := { stood := { row := walkMoreRow, standIns := [], harness := (true, "6a67db49eb05b65c505ddaf7861e0b17f7a4e867070b7446396f2b13bcee3345"), looks := false }, kinds := [], alts := [], laidByText := true, laidKinds := [.data, .data, .data], laidTests := true, laidLooks := .later }
def WalkMoreCardSaid : Prop := Claim7.holds Tryd.pinned (.plain (OpenSpec.ofChange walkMoreSpec)) walkMoreCard

/-- THE TIED CARD OF 'reticulelaw09.WalkChoices'. -/
def walkChoicesCard : Claim7 := { stood := { row := walkChoicesRow, standIns := [], harness := (true, "6a67db49eb05b65c505ddaf7861e0b17f7a4e867070b7446396f2b13bcee3345"), looks := false }, kinds := [], alts := [], laidByText := true, laidKinds := [.data, .data, .data], laidTests := true, laidLooks := .later }
def WalkChoicesCardSaid : Prop := Claim7.holds Tryd.pinned (.plain (OpenSpec.ofChange walkChoicesSpec)) walkChoicesCard

/-- THE TIED CARD OF 'reticulelaw09.WalkTurns'. -/
def walkTurnsCard : Claim7 := { stood := { row := walkTurnsRow, standIns := [], harness := (true, "6a67db49eb05b65c505ddaf7861e0b17f7a4e867070b7446396f2b13bcee3345"), looks := false }, kinds := [], alts := [], laidByText := true, laidKinds := [.data, .data, .data, .data], laidTests := true, laidLooks := .later }
def WalkTurnsCardSaid : Prop := Claim7.holds Tryd.pinned (.plain (OpenSpec.ofChange walkTurnsSpec)) walkTurnsCard

/-- THE SECOND FORM's CARD OF 'reticulelaw09.WalkWork'. -/
def walkWorkUptoCard : Claim7 := { stood := { row := walkWorkUptoRow, standIns := [], harness := (true, "6a67db49eb05b65c505ddaf7861e0b17f7a4e867070b7446396f2b13bcee3345"), looks := false }, kinds := [], alts := [], laidByText := true, laidKinds := [.data, .data, .data], laidTests := true, laidLooks := .later }
def WalkWorkUptoCardSaid : Prop := Claim7.holds Tryd.pinned (.plain (OpenSpec.upto walkWorkSpec)) walkWorkUptoCard

/-- THE SECOND FORM's CARD OF 'reticulelaw09.WalkFar'. -/
def walkFarUptoCard : Claim7 := { stood := { row := walkFarUptoRow, standIns := [], harness := (true, "6a67db49eb05b65c505ddaf7861e0b17f7a4e867070b7446396f2b13bcee3345"), looks := false }, kinds := [], alts := [], laidByText := true, laidKinds := [.data, .data, .data], laidTests := true, laidLooks := .later }
def WalkFarUptoCardSaid : Prop := Claim7.holds Tryd.pinned (.plain (OpenSpec.upto walkFarSpec)) walkFarUptoCard

/-- THE SECOND FORM's CARD OF 'reticulelaw09.WalkMore'. -/
def walkMoreUptoCard : Claim7 := { stood := { row := walkMoreUptoRow, standIns := [], harness := (true, "6a67db49eb05b65c505ddaf7861e0b17f7a4e867070b7446396f2b13bcee3345"), looks := false }, kinds := [], alts := [], laidByText := true, laidKinds := [.data, .data, .data], laidTests := true, laidLooks := .later }
def WalkMoreUptoCardSaid : Prop := Claim7.holds Tryd.pinned (.plain (OpenSpec.upto walkMoreSpec)) walkMoreUptoCard

/-- THE SECOND FORM's CARD OF 'reticulelaw09.WalkChoices'. -/
def walkChoicesUptoCard : Claim7 := { stood := { row := walkChoicesUptoRow, standIns := [], harness := (true, "6a67db49eb05b65c505ddaf7861e0b17f7a4e867070b7446396f2b13bcee3345"), looks := false }, kinds := [], alts := [], laidByText := true, laidKinds := [.data, .data, .data], laidTests := true, laidLooks := .later }
def WalkChoicesUptoCardSaid : Prop := Claim7.holds Tryd.pinned (.plain (OpenSpec.upto walkChoicesSpec)) walkChoicesUptoCard

/-- THE SECOND FORM's CARD OF 'reticulelaw09.WalkTurns'. -/
def walkTurnsUptoCard : Claim7 := { stood := { row := walkTurnsUptoRow, standIns := [], harness := (true, "6a67db49eb05b65c505ddaf7861e0b17f7a4e867070b7446396f2b13bcee3345"), looks := false }, kinds := [], alts := [], laidByText := true, laidKinds := [.data, .data, .data, .data], laidTests := true, laidLooks := .later }
def WalkTurnsUptoCardSaid : Prop := Claim7.holds Tryd.pinned (.plain (OpenSpec.upto walkTurnsSpec)) walkTurnsUptoCard
end Rows
end Go.Proofs.YtaohimmmhpmgdaaDoor
