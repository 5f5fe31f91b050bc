/-
  DERIVED. GIVEN WITH THE SEED: THE PROGRAM's TIES (one call each: nine closed facts by the kernel) AND EACH ROW's TIE, after the 31st guide's Derived/Test/Toyas{Tie, Card}.lean. No idea stands in it: it is a product of the set-up. Laid BY PROGRAM, IN A SANDBOX (cutbox-door.mjs). By AI agents, Wed Nov 11 2026. No macro, syntax, notation, axiom, sorry.
-/
import Derived.Test.YtoobbkckpabamaaDoorRows
import Derived.LaidByTextLater
import Derived.SevenTiedAt
import Derived.LaidSub
import Derived.LaidOnce
namespace Go.Proofs.YtoobbkckpabamaaDoor
open Go
set_option maxRecDepth 100000
theorem seatTie1 : Tryd.prog.laidByTextLater [("creed/signs.sorts", Rows.laid_creed_signs_sorts), ("creed/operators.kindNames", Rows.laid_creed_operators_kindNames), ("creed/operators.first", Rows.laid_creed_operators_first)] [.data, .data, .data] true :=
  Program.laidByTextLater_by_one 38 8 129 (by kernel_rfl) (by kernel_rfl) (by kernel_rfl) (by kernel_rfl) (by kernel_rfl) (by kernel_rfl) (fun _ _ => by kernel_rfl)
theorem noOwnUnsafe : Tryd.pinned.checked.prog.headLifts.contains "ownunsafe" = false := by kernel_rfl
theorem tie : Tryd.prog.laidByTextLater [("creed/signs.sorts", Rows.laid_creed_signs_sorts), ("creed/operators.kindNames", Rows.laid_creed_operators_kindNames), ("creed/operators.first", Rows.laid_creed_operators_first)] [.data, .data, .data] true :=
  Program.laidByTextLater.sub seatTie1 ["creed/signs.sorts", "creed/operators.kindNames", "creed/operators.first"] (by kernel_rfl) (by kernel_rfl)
theorem turns_row_tie : Rows.turnsRow.laidByTextAt .later Tryd.pinned [.data, .data, .data] true :=
  OpenClaim.laidByTextAt_later rfl rfl tie noOwnUnsafe
theorem unmade_row_tie : Rows.unmadeRow.laidByTextAt .later Tryd.pinned [.data, .data, .data] true :=
  OpenClaim.laidByTextAt_later rfl rfl tie noOwnUnsafe
theorem turnsUpto_row_tie : Rows.turnsUptoRow.laidByTextAt .later Tryd.pinned [.data, .data, .data] true :=
  OpenClaim.laidByTextAt_later rfl rfl tie noOwnUnsafe
theorem unmadeUpto_row_tie : Rows.unmadeUptoRow.laidByTextAt .later Tryd.pinned [.data, .data, .data] true :=
  OpenClaim.laidByTextAt_later rfl rfl tie noOwnUnsafe
end Go.Proofs.YtoobbkckpabamaaDoor
