/-
  DERIVED. GIVEN WITH THE SEED: THE CARDS: each row of YtcebfkkpclnmoaaDoorRows.lean that lists a variable, with what it lists TIED to the program's text (the seventh form; the later family's looks); each row that meets fmt, with fmt's text TOLD by the authors' own Lean function (tested against real Go, not proved from fmt's source: count such statements apart). THE CARD IS WHAT COUNTS. Prove the row's statement (the work); the ties are given (YtcebfkkpclnmoaaDoorTie.lean); close each card by the builder's one call (the guide's Derived/Test/ToyasCard.lean, 'card_holds'). Laid BY PROGRAM, IN A SANDBOX (cutbox-door.mjs). By AI agents, Wed Nov 11 2026. No macro, syntax, notation, axiom, sorry.
-/
import Derived.Test.YtcebfkkpclnmoaaDoorRows
import GoSem.ClaimSeven
namespace Go.Proofs.YtcebfkkpclnmoaaDoor
namespace Rows

/-- THE TIED CARD OF 'reticulelaw08.SnakeLabels'. -/
def snakeLabelsCard : Claim7 := { stood := { row := snakeLabelsRow, standIns := [], harness := (true, "0c7d9d13e137fc0c5e715972c154652bf4cc51b5799427135bab978125ad19f1"), looks := false }, kinds := [], alts := [], laidByText := true, laidKinds := [.data], laidTests := true, laidLooks := .later }
def SnakeLabelsCardSaid : Prop := Claim7.holds Tryd.pinned (.plain (OpenSpec.ofChange snakeLabelsSpec)) snakeLabelsCard

/-- THE TIED CARD OF 'reticulelaw08.SnakePlans'. -/
def snakePlansCard : Claim7 := { stood := { row := snakePlansRow, standIns := [], harness := (true, "0c7d9d13e137fc0c5e715972c154652bf4cc51b5799427135bab978125ad19f1"), looks := false }, kinds := [], alts := [], laidByText := true, laidKinds := [.data], laidTests := true, laidLooks := .later }
def SnakePlansCardSaid : Prop := Claim7.holds Tryd.pinned (.plain (OpenSpec.ofChange snakePlansSpec)) snakePlansCard

/-- THE TIED CARD OF 'reticulelaw08.SnakeLine'. -/
def snakeLineCard : Claim7 := { stood := { row := snakeLineRow, standIns := [], harness := (true, "0c7d9d13e137fc0c5e715972c154652bf4cc51b5799427135bab978125ad19f1"), looks := false }, kinds := [], alts := [], laidByText := true, laidKinds := [.data], laidTests := true, laidLooks := .later }
def SnakeLineCardSaid : Prop := Claim7.holds Tryd.pinned (.plain (OpenSpec.ofChange snakeLineSpec)) snakeLineCard

/-- THE TIED CARD OF 'reticulelaw08.SnakeRises'. -/
def snakeRisesCard : Claim7 := { stood := { row := snakeRisesRow, standIns := [], harness := (true, "0c7d9d13e137fc0c5e715972c154652bf4cc51b5799427135bab978125ad19f1"), looks := false }, kinds := [], alts := [], laidByText := true, laidKinds := [.data], laidTests := true, laidLooks := .later }
def SnakeRisesCardSaid : Prop := Claim7.holds Tryd.pinned (.plain (OpenSpec.ofChange snakeRisesSpec)) snakeRisesCard

/-- THE TIED CARD OF 'reticulelaw08.SnakeSets'. -/
def snakeSetsCard : Claim7 := { stood := { row := snakeSetsRow, standIns := [], harness := (true, "0c7d9d13e137fc0c5e715972c154652bf4cc51b5799427135bab978125ad19f1"), looks := false }, kinds := [], alts := [], laidByText := true, laidKinds := [.data], laidTests := true, laidLooks := .later }
def SnakeSetsCardSaid : Prop := Claim7.holds Tryd.pinned (.plain (OpenSpec.ofChange snakeSetsSpec)) snakeSetsCard

/-- THE TIED CARD OF 'reticulelaw08.SnakeJoins'. -/
def snakeJoinsCard : Claim7 := { stood := { row := snakeJoinsRow, standIns := [], harness := (true, "0c7d9d13e137fc0c5e715972c154652bf4cc51b5799427135bab978125ad19f1"), looks := false }, kinds := [], alts := [], laidByText := true, laidKinds := [.data], laidTests := true, laidLooks := .later }
def SnakeJoinsCardSaid : Prop := Claim7.holds Tryd.pinned (.plain (OpenSpec.ofChange snakeJoinsSpec)) snakeJoinsCard

/-- THE TIED CARD OF 'reticulelaw08.SnakePairs'. -/
def snakePairsCard : Claim7 := { stood := { row := snakePairsRow, standIns := [], harness := (true, "0c7d9d13e137fc0c5e715972c154652bf4cc51b5799427135bab978125ad19f1"), looks := false }, kinds := [], alts := [], laidByText := true, laidKinds := [.data], laidTests := true, laidLooks := .later }
def SnakePairsCardSaid : Prop := Claim7.holds Tryd.pinned (.plain (OpenSpec.ofChange snakePairsSpec)) snakePairsCard

/-- THE SECOND FORM's CARD OF 'reticulelaw08.SnakeLabels'. -/
def snakeLabelsUptoCard : Claim7 := { stood := { row := snakeLabelsUptoRow, standIns := [], harness := (true, "0c7d9d13e137fc0c5e715972c154652bf4cc51b5799427135bab978125ad19f1"), looks := false }, kinds := [], alts := [], laidByText := true, laidKinds := [.data], laidTests := true, laidLooks := .later }
def SnakeLabelsUptoCardSaid : Prop := Claim7.holds Tryd.pinned (.plain (OpenSpec.upto snakeLabelsSpec)) snakeLabelsUptoCard

/-- THE SECOND FORM's CARD OF 'reticulelaw08.SnakePlans'. -/
def snakePlansUptoCard : Claim7 := { stood := { row := snakePlansUptoRow, standIns := [], harness := (true, "0c7d9d13e137fc0c5e715972c154652bf4cc51b5799427135bab978125ad19f1"), looks := false }, kinds := [], alts := [], laidByText := true, laidKinds := [.data], laidTests := true, laidLooks := .later }
def SnakePlansUptoCardSaid : Prop := Claim7.holds Tryd.pinned (.plain (OpenSpec.upto snakePlansSpec)) snakePlansUptoCard

/-- THE SECOND FORM's CARD OF 'reticulelaw08.SnakeLine'. -/
def snakeLineUptoCard : Claim7 := { stood := { row := snakeLineUptoRow, standIns := [], harness := (true, "0c7d9d13e137fc0c5e715972c154652bf4cc51b5799427135bab978125ad19f1"), looks := false }, kinds := [], alts := [], laidByText := true, laidKinds := [.data], laidTests := true, laidLooks := .later }
def SnakeLineUptoCardSaid : Prop := Claim7.holds Tryd.pinned (.plain (OpenSpec.upto snakeLineSpec)) snakeLineUptoCard

/-- THE SECOND FORM's CARD OF 'reticulelaw08.SnakeRises'. -/
def snakeRisesUptoCard : Claim7 := { stood := { row := snakeRisesUptoRow, standIns := [], harness := (true, "0c7d9d13e137fc0c5e715972c154652bf4cc51b5799427135bab978125ad19f1"), looks := false }, kinds := [], alts := [], laidByText := true, laidKinds := [.data], laidTests := true, laidLooks := .later }
def SnakeRisesUptoCardSaid : Prop := Claim7.holds Tryd.pinned (.plain (OpenSpec.upto snakeRisesSpec)) snakeRisesUptoCard

/-- THE SECOND FORM's CARD OF 'reticulelaw08.SnakeSets'. -/
def snakeSetsUptoCard : Claim7 := { stood := { row := snakeSetsUptoRow, standIns := [], harness := (true, "0c7d9d13e137fc0c5e715972c154652bf4cc51b5799427135bab978125ad19f1"), looks := false }, kinds := [], alts := [], laidByText := true, laidKinds := [.data], laidTests := true, laidLooks := .later }
def SnakeSetsUptoCardSaid : Prop := Claim7.holds Tryd.pinned (.plain (OpenSpec.upto snakeSetsSpec)) snakeSetsUptoCard

/-- THE SECOND FORM's CARD OF 'reticulelaw08.SnakeJoins'. -/
def snakeJoinsUptoCard : Claim7 := { stood := { row := snakeJoinsUptoRow, standIns := [], harness := (true, "0c7d9d13e137fc0c5e715972c154652bf4cc51b5799427135bab978125ad19f1"), looks := false }, kinds := [], alts := [], laidByText := true, laidKinds := [.data], laidTests := true, laidLooks := .later }
def SnakeJoinsUptoCardSaid : Prop := Claim7.holds Tryd.pinned (.plain (OpenSpec.upto snakeJoinsSpec)) snakeJoinsUptoCard

/-- THE SECOND FORM's CARD OF 'reticulelaw08.SnakePairs'. -/
def snakePairsUptoCard : Claim7 := { stood := { row := snakePairsUptoRow, standIns := [], harness := (true, "0c7d9d13e137fc0c5e715972c154652bf4cc51b5799427135bab978125ad19f1"), looks := false }, kinds := [], alts := [], laidByText := true, laidKinds := [.data], laidTests := true, laidLooks := .later }
def SnakePairsUptoCardSaid : Prop := Claim7.holds Tryd.pinned (.plain (OpenSpec.upto snakePairsSpec)) snakePairsUptoCard
end Rows
end Go.Proofs.YtcebfkkpclnmoaaDoor
