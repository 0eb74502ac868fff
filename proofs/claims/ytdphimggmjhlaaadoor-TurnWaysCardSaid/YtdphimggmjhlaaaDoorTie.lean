/-
  DERIVED. GIVEN WITH THE SEED: THE PROGRAM's TIES (one call each: nine closed facts by the kernel) AND EACH ROW's TIE, after the 31st guide's Derived/Test/Toyas{Tie, Card}.lean. No idea stands in it: it is a product of the set-up. Laid BY PROGRAM, IN A SANDBOX (cutbox-door.mjs). By AI agents, Wed Nov 11 2026. No macro, syntax, notation, axiom, sorry.
-/
import Derived.Test.YtdphimggmjhlaaaDoorRows
import Derived.LaidByTextLater
import Derived.SevenTiedAt
import Derived.LaidSub
import Derived.LaidOnce
namespace Go.Proofs.YtdphimggmjhlaaaDoor
open Go
set_option maxRecDepth 100000
theorem seatTie1 : Tryd.prog.laidByTextLater [("reticule/grid.steps", Rows.laid_reticule_grid_steps), ("reticule/turn.alongX", Rows.laid_reticule_turn_alongX), ("reticule/turn.alongY", Rows.laid_reticule_turn_alongY), ("reticule/turn.turns", Rows.laid_reticule_turn_turns)] [.data, .data, .data, .data] true :=
  Program.laidByTextLater_by_one 39 8 26 (by kernel_rfl) (by kernel_rfl) (by kernel_rfl) (by kernel_rfl) (by kernel_rfl) (by kernel_rfl) (fun _ _ => by kernel_rfl)
theorem noOwnUnsafe : Tryd.pinned.checked.prog.headLifts.contains "ownunsafe" = false := by kernel_rfl
theorem tie : Tryd.prog.laidByTextLater [("reticule/turn.alongX", Rows.laid_reticule_turn_alongX), ("reticule/turn.alongY", Rows.laid_reticule_turn_alongY), ("reticule/turn.turns", Rows.laid_reticule_turn_turns)] [.data, .data, .data] true :=
  Program.laidByTextLater.sub seatTie1 ["reticule/turn.alongX", "reticule/turn.alongY", "reticule/turn.turns"] (by kernel_rfl) (by kernel_rfl)
theorem turnOptions_row_tie : Rows.turnOptionsRow.laidByTextAt .later Tryd.pinned [.data, .data, .data] true :=
  OpenClaim.laidByTextAt_later rfl rfl tie noOwnUnsafe
theorem tie2 : Tryd.prog.laidByTextLater [("reticule/grid.steps", Rows.laid_reticule_grid_steps), ("reticule/turn.alongX", Rows.laid_reticule_turn_alongX), ("reticule/turn.alongY", Rows.laid_reticule_turn_alongY), ("reticule/turn.turns", Rows.laid_reticule_turn_turns)] [.data, .data, .data, .data] true :=
  Program.laidByTextLater.sub seatTie1 ["reticule/grid.steps", "reticule/turn.alongX", "reticule/turn.alongY", "reticule/turn.turns"] (by kernel_rfl) (by kernel_rfl)
theorem turnAllowed_row_tie : Rows.turnAllowedRow.laidByTextAt .later Tryd.pinned [.data, .data, .data, .data] true :=
  OpenClaim.laidByTextAt_later rfl rfl tie2 noOwnUnsafe
theorem turnNearer_row_tie : Rows.turnNearerRow.laidByTextAt .later Tryd.pinned [.data, .data, .data, .data] true :=
  OpenClaim.laidByTextAt_later rfl rfl tie2 noOwnUnsafe
theorem turnGoes_row_tie : Rows.turnGoesRow.laidByTextAt .later Tryd.pinned [.data, .data, .data, .data] true :=
  OpenClaim.laidByTextAt_later rfl rfl tie2 noOwnUnsafe
theorem turnStraight_row_tie : Rows.turnStraightRow.laidByTextAt .later Tryd.pinned [.data, .data, .data, .data] true :=
  OpenClaim.laidByTextAt_later rfl rfl tie2 noOwnUnsafe
theorem turnWays_row_tie : Rows.turnWaysRow.laidByTextAt .later Tryd.pinned [.data, .data, .data, .data] true :=
  OpenClaim.laidByTextAt_later rfl rfl tie2 noOwnUnsafe
theorem turnOptionsUpto_row_tie : Rows.turnOptionsUptoRow.laidByTextAt .later Tryd.pinned [.data, .data, .data] true :=
  OpenClaim.laidByTextAt_later rfl rfl tie noOwnUnsafe
theorem turnAllowedUpto_row_tie : Rows.turnAllowedUptoRow.laidByTextAt .later Tryd.pinned [.data, .data, .data, .data] true :=
  OpenClaim.laidByTextAt_later rfl rfl tie2 noOwnUnsafe
theorem turnNearerUpto_row_tie : Rows.turnNearerUptoRow.laidByTextAt .later Tryd.pinned [.data, .data, .data, .data] true :=
  OpenClaim.laidByTextAt_later rfl rfl tie2 noOwnUnsafe
theorem turnGoesUpto_row_tie : Rows.turnGoesUptoRow.laidByTextAt .later Tryd.pinned [.data, .data, .data, .data] true :=
  OpenClaim.laidByTextAt_later rfl rfl tie2 noOwnUnsafe
theorem turnStraightUpto_row_tie : Rows.turnStraightUptoRow.laidByTextAt .later Tryd.pinned [.data, .data, .data, .data] true :=
  OpenClaim.laidByTextAt_later rfl rfl tie2 noOwnUnsafe
theorem turnWaysUpto_row_tie : Rows.turnWaysUptoRow.laidByTextAt .later Tryd.pinned [.data, .data, .data, .data] true :=
  OpenClaim.laidByTextAt_later rfl rfl tie2 noOwnUnsafe
end Go.Proofs.YtdphimggmjhlaaaDoor
