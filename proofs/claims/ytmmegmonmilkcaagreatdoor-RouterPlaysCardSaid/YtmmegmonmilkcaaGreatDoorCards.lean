/-
  DERIVED. GIVEN WITH THE SEED: THE CARDS: each row of YtmmegmonmilkcaaGreatDoorRows.lean that lists a variable, with what it lists TIED to the program's text (the seventh form; the later family's looks); each row that meets fmt, with fmt's text TOLD by the authors' own Lean function (tested against real Go, not proved from fmt's source: count such statements apart). THE CARD IS WHAT COUNTS. Prove the row's statement (the work); the ties are given (YtmmegmonmilkcaaGreatDoorTie.lean); close each card by the builder's one call (the guide's Derived/Test/ToyasCard.lean, 'card_holds'). Laid BY PROGRAM, IN A SANDBOX (cutbox-door.mjs). By AI agents, Wed Nov 11 2026. No macro, syntax, notation, axiom, sorry.
-/
import Derived.Test.YtmmegmonmilkcaaGreatDoorRows
import GoSem.ClaimSeven
namespace Go.Proofs.YtmmegmonmilkcaaGreatDoor
namespace Rows

/-- THE TIED CARD OF 'reticulelaw15.RouterPlays'. -/
def routerPlaysCard : Claim7 := { stood := { row := routerPlaysRow, standIns := [], harness := (true, "972df1a9bbd3d3402104ba8aba3b807d98765a0f5e50692feb92adb8b8baaf57"), looks := false }, kinds := [], alts := [], laidByText := true, laidKinds := [.data, .data, .data], laidTests := true, laidLooks := .later }
def RouterPlaysCardSaid : Prop := Claim7.holds Tryz.pinned (.plain (OpenSpec.ofChange routerPlaysSpec)) routerPlaysCard

/-- THE TIED CARD OF 'reticulelaw15.RouterOwners'. -/
def routerOwnersCard : Claim7 := { stood := { row := routerOwnersRow, standIns := [], harness := (true, "972df1a9bbd3d3402104ba8aba3b807d98765a0f5e50692feb92adb8b8baaf57"), looks := false }, kinds := [], alts := [], laidByText := true, laidKinds := [.data, .data, .data], laidTests := true, laidLooks := .later }
def RouterOwnersCardSaid : Prop := Claim7.holds Tryz.pinned (.plain (OpenSpec.ofChange routerOwnersSpec)) routerOwnersCard

/-- THE TIED CARD OF 'reticulelaw15.RouterThrough'. -/
def routerThroughCard : Claim7 := { stood := { row := routerThroughRow, standIns := [], harness := (true, "972df1a9bbd3d3402104ba8aba3b807d98765a0f5e50692feb92adb8b8baaf57"), looks := false }, kinds := [], alts := [], laidByText := true, laidKinds := [.data, .data, .data], laidTests := true, laidLooks := .later }
def RouterThroughCardSaid : Prop := Claim7.holds Tryz.pinned (.plain (OpenSpec.ofChange routerThroughSpec)) routerThroughCard

/-- THE TIED CARD OF 'reticulelaw15.RouterGates'. -/
def routerGatesCard : Claim7 := { stood := { row := routerGatesRow, standIns := [], harness := (true, "972df1a9bbd3d3402104ba8aba3b807d98765a0f5e50692feb92adb8b8baaf57"), looks := false }, kinds := [], alts := [], laidByText := true, laidKinds := [.data, .data, .data], laidTests := true, laidLooks := .later }
def RouterGatesCardSaid : Prop := Claim7.holds Tryz.pinned (.plain (OpenSpec.ofChange routerGatesSpec)) routerGatesCard

/-- THE TIED CARD OF 'reticulelaw15.RouterNil'. -/
def routerNilCard : Claim7 := { stood := { row := routerNilRow, standIns := [], harness := (true, "972df1a9bbd3d3402104ba8aba3b807d98765a0f5e50692feb92adb8b8baaf57"), looks := false }, kinds := [], alts := [], laidByText := true, laidKinds := [.data, .data, .data], laidTests := true, laidLooks := .later }
def RouterNilCardSaid : Prop := Claim7.holds Tryz.pinned (.plain (OpenSpec.ofChange routerNilSpec)) routerNilCard

/-- THE TIED CARD OF 'reticulelaw15.RouterTurns'. -/
def routerTurnsCard : Claim7 := { stood := { row := routerTurnsRow, standIns := [], harness := (true, "972df1a9bbd3d3402104ba8aba3b807d98765a0f5e50692feb92adb8b8baaf57"), looks := false }, kinds := [], alts := [], laidByText := true, laidKinds := [.data, .data, .data], laidTests := true, laidLooks := .later }
def RouterTurnsCardSaid : Prop := Claim7.holds Tryz.pinned (.plain (OpenSpec.ofChange routerTurnsSpec)) routerTurnsCard

/-- THE SECOND FORM's CARD OF 'reticulelaw15.RouterPlays'. -/
def routerPlaysUptoCard : Claim7 := { stood := { row := routerPlaysUptoRow, standIns := [], harness := (true, "972df1a9bbd3d3402104ba8aba3b807d98765a0f5e50692feb92adb8b8baaf57"), looks := false }, kinds := [], alts := [], laidByText := true, laidKinds := [.data, .data, .data], laidTests := true, laidLooks := .later }
def RouterPlaysUptoCardSaid : Prop := Claim7.holds Tryz.pinned (.plain (OpenSpec.upto routerPlaysSpec)) routerPlaysUptoCard

/-- THE SECOND FORM's CARD OF 'reticulelaw15.RouterOwners'. -/
def routerOwnersUptoCard : Claim7 := { stood := { row := routerOwnersUptoRow, standIns := [], harness := (true, "972df1a9bbd3d3402104ba8aba3b807d98765a0f5e50692feb92adb8b8baaf57"), looks := false }, kinds := [], alts := [], laidByText := true, laidKinds := [.data, .data, .data], laidTests := true, laidLooks := .later }
def RouterOwnersUptoCardSaid : Prop := Claim7.holds Tryz.pinned (.plain (OpenSpec.upto routerOwnersSpec)) routerOwnersUptoCard

/-- THE SECOND FORM's CARD OF 'reticulelaw15.RouterThrough'. -/
def routerThroughUptoCard : Claim7 := { stood := { row := routerThroughUptoRow, standIns := [], harness := (true, "972df1a9bbd3d3402104ba8aba3b807d98765a0f5e50692feb92adb8b8baaf57"), looks := false }, kinds := [], alts := [], laidByText := true, laidKinds := [.data, .data, .data], laidTests := true, laidLooks := .later }
def RouterThroughUptoCardSaid : Prop := Claim7.holds Tryz.pinned (.plain (OpenSpec.upto routerThroughSpec)) routerThroughUptoCard

/-- THE SECOND FORM's CARD OF 'reticulelaw15.RouterGates'. -/
def routerGatesUptoCard : Claim7 := { stood := { row := routerGatesUptoRow, standIns := [], harness := (true, "972df1a9bbd3d3402104ba8aba3b807d98765a0f5e50692feb92adb8b8baaf57"), looks := false }, kinds := [], alts := [], laidByText := true, laidKinds := [.data, .data, .data], laidTests := true, laidLooks := .later }
def RouterGatesUptoCardSaid : Prop := Claim7.holds Tryz.pinned (.plain (OpenSpec.upto routerGatesSpec)) routerGatesUptoCard

/-- THE SECOND FORM's CARD OF 'reticulelaw15.RouterNil'. -/
def routerNilUptoCard : Claim7 := { stood := { row := routerNilUptoRow, standIns := [], harness := (true, "972df1a9bbd3d3402104ba8aba3b807d98765a0f5e50692feb92adb8b8baaf57"), looks := false }, kinds := [], alts := [], laidByText := true, laidKinds := [.data, .data, .data], laidTests := true, laidLooks := .later }
def RouterNilUptoCardSaid : Prop := Claim7.holds Tryz.pinned (.plain (OpenSpec.upto routerNilSpec)) routerNilUptoCard

/-- THE SECOND FORM's CARD OF 'reticulelaw15.RouterTurns'. -/
def routerTurnsUptoCard : Claim7 := { stood := { row := routerTurnsUptoRow, standIns := [], harness := (true, "972df1a9bbd3d3402104ba8aba3b807d98765a0f5e50692feb92adb8b8baaf57"), looks := false }, kinds := [], alts := [], laidByText := true, laidKinds := [.data, .data, .data], laidTests := true, laidLooks := .later }
def RouterTurnsUptoCardSaid : Prop := Claim7.holds Tryz.pinned (.plain (OpenSpec.upto routerTurnsSpec)) routerTurnsUptoCard
end Rows
end Go.Proofs.YtmmegmonmilkcaaGreatDoor
