/-
  DERIVED. GIVEN WITH THE SEED: THE PROGRAM's TIES (one call each: nine closed facts by the kernel) AND EACH ROW's TIE, after the 31st guide's Derived/Test/Toyas{Tie, Card}.lean. No idea stands in it: it is a product of the set-up. Laid BY PROGRAM, IN A SANDBOX (cutbox-door.mjs). By AI agents, Wed Nov 11 2026. No macro, syntax, notation, axiom, sorry.
-/
import Derived.Test.YtfklinjaajafgaaDoorRows
import Derived.LaidByTextLater
import Derived.SevenTiedAt
import Derived.LaidSub
import Derived.LaidOnce
namespace Go.Proofs.YtfklinjaajafgaaDoor
open Go
set_option maxRecDepth 100000
theorem seatTie1 : Tryd.prog.laidByTextLater [("lenses/reading.ErrLong", Rows.laid_lenses_reading_ErrLong), ("lenses/reading.ErrSyntax", Rows.laid_lenses_reading_ErrSyntax), ("lenses/reading.ErrSize", Rows.laid_lenses_reading_ErrSize), ("lenses/programs.ErrType", Rows.laid_lenses_programs_ErrType)] [.sentinel, .sentinel, .sentinel, .sentinel] true :=
  Program.laidByTextLater_by_one 85 8 2 (by kernel_rfl) (by kernel_rfl) (by kernel_rfl) (by kernel_rfl) (by kernel_rfl) (by kernel_rfl) (fun _ _ => by kernel_rfl)
theorem noOwnUnsafe : Tryd.pinned.checked.prog.headLifts.contains "ownunsafe" = false := by kernel_rfl
theorem tie : Tryd.prog.laidByTextLater [("lenses/reading.ErrLong", Rows.laid_lenses_reading_ErrLong), ("lenses/reading.ErrSyntax", Rows.laid_lenses_reading_ErrSyntax), ("lenses/reading.ErrSize", Rows.laid_lenses_reading_ErrSize), ("lenses/programs.ErrType", Rows.laid_lenses_programs_ErrType)] [.sentinel, .sentinel, .sentinel, .sentinel] true :=
  Program.laidByTextLater.sub seatTie1 ["lenses/reading.ErrLong", "lenses/reading.ErrSyntax", "lenses/reading.ErrSize", "lenses/programs.ErrType"] (by kernel_rfl) (by kernel_rfl)
theorem matches_row_tie : Rows.matchesRow.laidByTextAt .later Tryd.pinned [.sentinel, .sentinel, .sentinel, .sentinel] true :=
  OpenClaim.laidByTextAt_later rfl rfl tie noOwnUnsafe
theorem fits_row_tie : Rows.fitsRow.laidByTextAt .later Tryd.pinned [.sentinel, .sentinel, .sentinel, .sentinel] true :=
  OpenClaim.laidByTextAt_later rfl rfl tie noOwnUnsafe
theorem matchesUpto_row_tie : Rows.matchesUptoRow.laidByTextAt .later Tryd.pinned [.sentinel, .sentinel, .sentinel, .sentinel] true :=
  OpenClaim.laidByTextAt_later rfl rfl tie noOwnUnsafe
theorem fitsUpto_row_tie : Rows.fitsUptoRow.laidByTextAt .later Tryd.pinned [.sentinel, .sentinel, .sentinel, .sentinel] true :=
  OpenClaim.laidByTextAt_later rfl rfl tie noOwnUnsafe
end Go.Proofs.YtfklinjaajafgaaDoor
