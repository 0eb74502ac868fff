/-
  DERIVED. GIVEN WITH THE SEED: THE CARDS: each row of YtdphimggmjhlaaaDoorRows.lean that lists a variable, with what it lists TIED to the program's text (the seventh form; the later family's looks); each row that meets fmt, with fmt's text TOLD by the authors' own Lean function (tested against real Go, not proved from fmt's source: count such statements apart). THE CARD IS WHAT COUNTS. Prove the row's statement (the work); the ties are given (YtdphimggmjhlaaaDoorTie.lean); close each card by the builder's one call (the guide's Derived/Test/ToyasCard.lean, 'card_holds'). Laid BY PROGRAM, IN A SANDBOX (cutbox-door.mjs). By AI agents, Wed Nov 11 2026. No macro, syntax, notation, axiom, sorry.
-/
import Derived.Test.YtdphimggmjhlaaaDoorRows
import GoSem.ClaimSeven
namespace Go.Proofs.YtdphimggmjhlaaaDoor
namespace Rows

/-- THE TIED CARD OF 'reticulelaw06.TurnOptions'. -/
def turnOptionsCard : Claim7 := { stood := { row := turnOptionsRow, standIns := [], harness := (true, "7321229a7e3bdf06325f91640814308dbba8bd65c1d1a74f482a873d5e3d1d66"), looks := false }, kinds := [], alts := [], laidByText := true, laidKinds := [.data, .data, .data], laidTests := true, laidLooks := .later }
def TurnOptionsCardSaid : Prop := Claim7.holds Tryd.pinned (.plain (OpenSpec.ofChange turnOptionsSpec)) turnOptionsCard

/-- THE TIED CARD OF 'reticulelaw06.TurnAllowed'. -/
def turnAllowedCard : Claim7 := { stood := { row := turnAllowedRow, standIns := [], harness := (true, "7321229a7e3bdf06325f91640814308dbba8bd65c1d1a74f482a873d5e3d1d66"), looks := false }, kinds := [], alts := [], laidByText := true, laidKinds := [.data, .data, .data, .data], laidTests := true, laidLooks := .later }
def TurnAllowedCardSaid : Prop := Claim7.holds Tryd.pinned (.plain (OpenSpec.ofChange turnAllowedSpec)) turnAllowedCard

/-- THE TIED CARD OF 'reticulelaw06.TurnNearer'. -/
def turnNearerCard : Claim7 := { stood := { row := turnNearerRow, standIns := [], harness := (true, "7321229a7e3bdf06325f91640814308dbba8bd65c1d1a74f482a873d5e3d1d66"), looks := false }, kinds := [], alts := [], laidByText := true, laidKinds := [.data, .data, .data, .data], laidTests := true, laidLooks := .later }
def TurnNearerCardSaid : Prop := Claim7.holds Tryd.pinned (.plain (OpenSpec.ofChange turnNearerSpec)) turnNearerCard

/-- THE TIED CARD OF 'reticulelaw06.TurnGoes'. -/
def turnGoesCard : Claim7 := { stood := { row := turnGoesRow, standIns := [], harness := (true, "7321229a7e3bdf06325f91640814308dbba8bd65c1d1a74f482a873d5e3d1d66"), looks := false }, kinds := [], alts := [], laidByText := true, laidKinds := [.data, .data, .data, .data], laidTests := true, laidLooks := .later }
def TurnGoesCardSaid : Prop := Claim7.holds Tryd.pinned (.plain (OpenSpec.ofChange turnGoesSpec)) turnGoesCard

/-- THE TIED CARD OF 'reticulelaw06.TurnStraight'. -/
def turnStraightCard : Claim7 := { stood := { row := turnStraightRow, standIns := [], harness := (true, "7321229a7e3bdf06325f91640814308dbba8bd65c1d1a74f482a873d5e3d1d66"), looks := false }, kinds := [], alts := [], laidByText := true, laidKinds := [.data, .data, .data, .data], laidTests := true, laidLooks := .later }
def TurnStraightCardSaid : Prop := Claim7.holds Tryd.pinned (.plain (OpenSpec.ofChange turnStraightSpec)) turnStraightCard

/-- THE TIED CARD OF 'reticulelaw06.TurnWays'. -/
def turnWaysCard : Claim7 := { stood := { row := turnWaysRow, standIns := [], harness := (true, "7321229a7e3bdf06325f91640814308dbba8bd65c1d1a74f482a873d5e3d1d66"), looks := false }, kinds := [], alts := [], laidByText := true, laidKinds := [.data, .data, .data, .data], laidTests := true, laidLooks := .later }
def TurnWaysCardSaid : Prop := Claim7.holds Tryd.pinned (.plain (OpenSpec.ofChange turnWaysSpec)) turnWaysCard

/-- THE SECOND FORM's CARD OF 'reticulelaw06.TurnOptions'. -/
def turnOptionsUptoCard : Claim7 := { stood := { row := turnOptionsUptoRow, standIns := [], harness := (true, "7321229a7e3bdf06325f91640814308dbba8bd65c1d1a74f482a873d5e3d1d66"), looks := false }, kinds := [], alts := [], laidByText := true, laidKinds := [.data, .data, .data], laidTests := true, laidLooks := .later }
def TurnOptionsUptoCardSaid : Prop := Claim7.holds Tryd.pinned (.plain (OpenSpec.upto turnOptionsSpec)) turnOptionsUptoCard

/-- THE SECOND FORM's CARD OF 'reticulelaw06.TurnAllowed'. -/
def turnAllowedUptoCard : Claim7 := { stood := { row := turnAllowedUptoRow, standIns := [], harness := (true, "7321229a7e3bdf06325f91640814308dbba8bd65c1d1a74f482a873d5e3d1d66"), looks := false }, kinds := [], alts := [], laidByText := true, laidKinds := [.data, .data, .data, .data], laidTests := true, laidLooks := .later }
def TurnAllowedUptoCardSaid : Prop := Claim7.holds Tryd.pinned (.plain (OpenSpec.upto turnAllowedSpec)) turnAllowedUptoCard

/-- THE SECOND FORM's CARD OF 'reticulelaw06.TurnNearer'. -/
def turnNearerUptoCard : Claim7 := { stood := { row := turnNearerUptoRow, standIns := [], harness := (true, "7321229a7e3bdf06325f91640814308dbba8bd65c1d1a74f482a873d5e3d1d66"), looks := false }, kinds := [], alts := [], laidByText := true, laidKinds := [.data, .data, .data, .data], laidTests := true, laidLooks := .later }
def TurnNearerUptoCardSaid : Prop := Claim7.holds Tryd.pinned (.plain (OpenSpec.upto turnNearerSpec)) turnNearerUptoCard

/-- THE SECOND FORM's CARD OF 'reticulelaw06.TurnGoes'. -/
def turnGoesUptoCard : Claim7 := { stood := { row := turnGoesUptoRow, standIns := [], harness := (true, "7321229a7e3bdf06325f91640814308dbba8bd65c1d1a74f482a873d5e3d1d66"), looks := false }, kinds := [], alts := [], laidByText := true, laidKinds := [.data, .data, .data, .data], laidTests := true, laidLooks := .later }
def TurnGoesUptoCardSaid : Prop := Claim7.holds Tryd.pinned (.plain (OpenSpec.upto turnGoesSpec)) turnGoesUptoCard

/-- THE SECOND FORM's CARD OF 'reticulelaw06.TurnStraight'. -/
def turnStraightUptoCard : Claim7 := { stood := { row := turnStraightUptoRow, standIns := [], harness := (true, "7321229a7e3bdf06325f91640814308dbba8bd65c1d1a74f482a873d5e3d1d66"), looks := false }, kinds := [], alts := [], laidByText := true, laidKinds := [.data, .data, .data, .data], laidTests := true, laidLooks := .later }
def TurnStraightUptoCardSaid : Prop := Claim7.holds Tryd.pinned (.plain (OpenSpec.upto turnStraightSpec)) turnStraightUptoCard

/-- THE SECOND FORM's CARD OF 'reticulelaw06.TurnWays'. -/
def turnWaysUptoCard : Claim7 := { stood := { row := turnWaysUptoRow, standIns := [], harness := (true, "7321229a7e3bdf06325f91640814308dbba8bd65c1d1a74f482a873d5e3d1d66"), looks := false }, kinds := [], alts := [], laidByText := true, laidKinds := [.data, .data, .data, .data], laidTests := true, laidLooks := .later }
def TurnWaysUptoCardSaid : Prop := Claim7.holds Tryd.pinned (.plain (OpenSpec.upto turnWaysSpec)) turnWaysUptoCard
end Rows
end Go.Proofs.YtdphimggmjhlaaaDoor
