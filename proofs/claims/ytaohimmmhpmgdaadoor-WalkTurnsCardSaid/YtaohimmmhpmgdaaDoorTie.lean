/-
  DERIVED. GIVEN WITH THE SEED: THE PROGRAM's TIES (one call each: nine closed facts by the kernel) AND EACH ROW's TIE, after the 31st guide's Derived/Test/Toyas{Tie, Card}.lean. No idea stands in it: it is a product of the set-up. Laid BY PROGRAM, IN A SANDBOX (cutbox-door.mjs). By AI agents, Wed Nov 11 2026. No macro, syntax, notation, axiom, sorry.
-/
import Derived.Test.YtaohimmmhpmgdaaDoorRows
import Derived.LaidByTextLater
import Derived.SevenTiedAt
import Derived.LaidSub
import Derived.LaidOnce
namespace Go.Proofs.YtaohimmmhpmgdaaDoor
open Go
set_option maxRecDepth 100000
theorem seatTie1 : Tryd.prog.laidByTextLater [("reticule/grid.steps", Rows.laid_reticule_grid_steps), ("reticule/grid.backs", Rows.laid_reticule_grid_backs), ("reticule/turn.alongX", Rows.laid_reticule_turn_alongX), ("reticule/turn.alongY", Rows.laid_reticule_turn_alongY)] [.data, .data, .data, .data] true :=
  Program.laidByTextLater_by_one 34 8 11 (by kernel_rfl) (by kernel_rfl) (by kernel_rfl) (by kernel_rfl) (by kernel_rfl) (by kernel_rfl) (fun _ _ => by kernel_rfl)
theorem noOwnUnsafe : Tryd.pinned.checked.prog.headLifts.contains "ownunsafe" = false := by kernel_rfl
theorem tie : Tryd.prog.laidByTextLater [("reticule/grid.steps", Rows.laid_reticule_grid_steps), ("reticule/turn.alongX", Rows.laid_reticule_turn_alongX), ("reticule/turn.alongY", Rows.laid_reticule_turn_alongY)] [.data, .data, .data] true :=
  Program.laidByTextLater.sub seatTie1 ["reticule/grid.steps", "reticule/turn.alongX", "reticule/turn.alongY"] (by kernel_rfl) (by kernel_rfl)
theorem walkWork_row_tie : Rows.walkWorkRow.laidByTextAt .later Tryd.pinned [.data, .data, .data] true :=
  OpenClaim.laidByTextAt_later rfl rfl tie noOwnUnsafe
theorem walkFar_row_tie : Rows.walkFarRow.laidByTextAt .later Tryd.pinned [.data, .data, .data] true :=
  OpenClaim.laidByTextAt_later rfl rfl tie noOwnUnsafe
theorem walkMore_row_tie : Rows.walkMoreRow.laidByTextAt .later Tryd.pinned [.data, .data, .data] true :=
  OpenClaim.laidByTextAt_later rfl rfl tie noOwnUnsafe
theorem walkChoices_row_tie : Rows.walkChoicesRow.laidByTextAt .later Tryd.pinned [.data, .data, .data] true :=
  OpenClaim.laidByTextAt_later rfl rfl tie noOwnUnsafe
theorem tie2 : Tryd.prog.laidByTextLater [("reticule/grid.steps", Rows.laid_reticule_grid_steps), ("reticule/grid.backs", Rows.laid_reticule_grid_backs), ("reticule/turn.alongX", Rows.laid_reticule_turn_alongX), ("reticule/turn.alongY", Rows.laid_reticule_turn_alongY)] [.data, .data, .data, .data] true :=
  Program.laidByTextLater.sub seatTie1 ["reticule/grid.steps", "reticule/grid.backs", "reticule/turn.alongX", "reticule/turn.alongY"] (by kernel_rfl) (by kernel_rfl)
theorem walkTurns_row_tie : Rows.walkTurnsRow.laidByTextAt .later Tryd.pinned [.data, .data, .data, .data] true :=
  OpenClaim.laidByTextAt_later rfl rfl tie2 noOwnUnsafe
theorem walkWorkUpto_row_tie : Rows.walkWorkUptoRow.laidByTextAt .later Tryd.pinned [.data, .data, .data] true :=
  OpenClaim.laidByTextAt_later rfl rfl tie noOwnUnsafe
theorem walkFarUpto_row_tie : Rows.walkFarUptoRow.laidByTextAt .later Tryd.pinned [.data, .data, .data] true :=
  OpenClaim.laidByTextAt_later rfl rfl tie noOwnUnsafe
theorem walkMoreUpto_row_tie : Rows.walkMoreUptoRow.laidByTextAt .later Tryd.pinned [.data, .data, .data] true :=
  OpenClaim.laidByTextAt_later rfl rfl tie noOwnUnsafe
theorem walkChoicesUpto_row_tie : Rows.walkChoicesUptoRow.laidByTextAt .later Tryd.pinned [.data, .data, .data] true :=
  OpenClaim.laidByTextAt_later rfl rfl tie noOwnUnsafe
theorem walkTurnsUpto_row_tie : Rows.walkTurnsUptoRow.laidByTextAt .later Tryd.pinned [.data, .data, .data, .data] true :=
  OpenClaim.laidByTextAt_later rfl rfl tie2 noOwnUnsafe
end Go.Proofs.YtaohimmmhpmgdaaDoor
