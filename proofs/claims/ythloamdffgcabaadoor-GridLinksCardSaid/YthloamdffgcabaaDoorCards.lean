/-
  DERIVED. GIVEN WITH THE SEED: THE CARDS: each row of YthloamdffgcabaaDoorRows.lean that lists a variable, with what it lists TIED to the program's text (the seventh form; the later family's looks); each row that meets fmt, with fmt's text TOLD by the authors' own Lean function (tested against real Go, not proved from fmt's source: count such statements apart). THE CARD IS WHAT COUNTS. Prove the row's statement (the work); the ties are given (YthloamdffgcabaaDoorTie.lean); close each card by the builder's one call (the guide's Derived/Test/ToyasCard.lean, 'card_holds'). Laid BY PROGRAM, IN A SANDBOX (cutbox-door.mjs). By AI agents, Wed Nov 11 2026. No macro, syntax, notation, axiom, sorry.
-/
import Derived.Test.YthloamdffgcabaaDoorRows
import GoSem.ClaimSeven
namespace Go.Proofs.YthloamdffgcabaaDoor
namespace Rows

/-- THE TIED CARD OF 'reticulelaw05.GridPlaces'. -/
def gridPlacesCard : Claim7 := { stood := { row := gridPlacesRow, standIns := [], harness := (true, "c77a625607f7103bac2f3f9d446d9ec94e0cc4f7213508a65a03f1c593a96b91"), looks := false }, kinds := [], alts := [], laidByText := true, laidKinds := [.data, .data], laidTests := true, laidLooks := .later }
def GridPlacesCardSaid : Prop := Claim7.holds Tryd.pinned (.plain (OpenSpec.ofChange gridPlacesSpec)) gridPlacesCard

/-- THE TIED CARD OF 'reticulelaw05.GridLinks'. -/
def gridLinksCard : Claim7 := { stood := { row := gridLinksRow, standIns := [], harness := (true, "c77a625607f7103bac2f3f9d446d9ec94e0cc4f7213508a65a03f1c593a96b91"), looks := false }, kinds := [], alts := [], laidByText := true, laidKinds := [.data], laidTests := true, laidLooks := .later }
def GridLinksCardSaid : Prop := Claim7.holds Tryd.pinned (.plain (OpenSpec.ofChange gridLinksSpec)) gridLinksCard

/-- THE TIED CARD OF 'reticulelaw05.GridBack'. -/
def gridBackCard : Claim7 := { stood := { row := gridBackRow, standIns := [], harness := (true, "c77a625607f7103bac2f3f9d446d9ec94e0cc4f7213508a65a03f1c593a96b91"), looks := false }, kinds := [], alts := [], laidByText := true, laidKinds := [.data, .data], laidTests := true, laidLooks := .later }
def GridBackCardSaid : Prop := Claim7.holds Tryd.pinned (.plain (OpenSpec.ofChange gridBackSpec)) gridBackCard

/-- THE TIED CARD OF 'reticulelaw05.GridFar'. -/
def gridFarCard : Claim7 := { stood := { row := gridFarRow, standIns := [], harness := (true, "c77a625607f7103bac2f3f9d446d9ec94e0cc4f7213508a65a03f1c593a96b91"), looks := false }, kinds := [], alts := [], laidByText := true, laidKinds := [.data], laidTests := true, laidLooks := .later }
def GridFarCardSaid : Prop := Claim7.holds Tryd.pinned (.plain (OpenSpec.ofChange gridFarSpec)) gridFarCard

/-- THE TIED CARD OF 'reticulelaw05.GridSteps'. -/
def gridStepsCard : Claim7 := { stood := { row := gridStepsRow, standIns := [], harness := (true, "c77a625607f7103bac2f3f9d446d9ec94e0cc4f7213508a65a03f1c593a96b91"), looks := false }, kinds := [], alts := [], laidByText := true, laidKinds := [.data, .data], laidTests := true, laidLooks := .later }
def GridStepsCardSaid : Prop := Claim7.holds Tryd.pinned (.plain (OpenSpec.ofChange gridStepsSpec)) gridStepsCard

/-- THE SECOND FORM's CARD OF 'reticulelaw05.GridPlaces'. -/
def gridPlacesUptoCard : Claim7 := { stood := { row := gridPlacesUptoRow, standIns := [], harness := (true, "c77a625607f7103bac2f3f9d446d9ec94e0cc4f7213508a65a03f1c593a96b91"), looks := false }, kinds := [], alts := [], laidByText := true, laidKinds := [.data, .data], laidTests := true, laidLooks := .later }
def GridPlacesUptoCardSaid : Prop := Claim7.holds Tryd.pinned (.plain (OpenSpec.upto gridPlacesSpec)) gridPlacesUptoCard

/-- THE SECOND FORM's CARD OF 'reticulelaw05.GridLinks'. -/
def gridLinksUptoCard : Claim7 := { stood := { row := gridLinksUptoRow, standIns := [], harness := (true, "c77a625607f7103bac2f3f9d446d9ec94e0cc4f7213508a65a03f1c593a96b91"), looks := false }, kinds := [], alts := [], laidByText := true, laidKinds := [.data], laidTests := true, laidLooks := .later }
def GridLinksUptoCardSaid : Prop := Claim7.holds Tryd.pinned (.plain (OpenSpec.upto gridLinksSpec)) gridLinksUptoCard

/-- THE SECOND FORM's CARD OF 'reticulelaw05.GridBack'. -/
def gridBackUptoCard : Claim7 := { stood := { row := gridBackUptoRow, standIns := [], harness := (true, "c77a625607f7103bac2f3f9d446d9ec94e0cc4f7213508a65a03f1c593a96b91"), looks := false }, kinds := [], alts := [], laidByText := true, laidKinds := [.data, .data], laidTests := true, laidLooks := .later }
def GridBackUptoCardSaid : Prop := Claim7.holds Tryd.pinned (.plain (OpenSpec.upto gridBackSpec)) gridBackUptoCard

/-- THE SECOND FORM's CARD OF 'reticulelaw05.GridFar'. -/
def gridFarUptoCard : Claim7 := { stood := { row := gridFarUptoRow, standIns := [], harness := (true, "c77a625607f7103bac2f3f9d446d9ec94e0cc4f7213508a65a03f1c593a96b91"), looks := false }, kinds := [], alts := [], laidByText := true, laidKinds := [.data], laidTests := true, laidLooks := .later }
def GridFarUptoCardSaid : Prop := Claim7.holds Tryd.pinned (.plain (OpenSpec.upto gridFarSpec)) gridFarUptoCard

/-- THE SECOND FORM's CARD OF 'reticulelaw05.GridSteps'. -/
def gridStepsUptoCard : Claim7 := { stood := { row := gridStepsUptoRow, standIns := [], harness := (true, "c77a625607f7103bac2f3f9d446d9ec94e0cc4f7213508a65a03f1c593a96b91"), looks := false }, kinds := [], alts := [], laidByText := true, laidKinds := [.data, .data], laidTests := true, laidLooks := .later }
def GridStepsUptoCardSaid : Prop := Claim7.holds Tryd.pinned (.plain (OpenSpec.upto gridStepsSpec)) gridStepsUptoCard
end Rows
end Go.Proofs.YthloamdffgcabaaDoor
