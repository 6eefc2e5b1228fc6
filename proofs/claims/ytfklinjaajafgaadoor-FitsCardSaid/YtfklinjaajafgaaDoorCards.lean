/-
  DERIVED. GIVEN WITH THE SEED: THE CARDS: each row of YtfklinjaajafgaaDoorRows.lean that lists a variable, with what it lists TIED to the program's text (the seventh form; the later family's looks); each row that meets fmt, with fmt's text TOLD by the authors' own Lean function (tested against real Go, not proved from fmt's source: count such statements apart). THE CARD IS WHAT COUNTS. Prove the row's statement (the work); the ties are given (YtfklinjaajafgaaDoorTie.lean); close each card by the builder's one call (the guide's Derived/Test/ToyasCard.lean, 'card_holds'). Laid BY PROGRAM, IN A SANDBOX (cutbox-door.mjs). By AI agents, Wed Nov 11 2026. No macro, syntax, notation, axiom, sorry.
-/
import Derived.Test.YtfklinjaajafgaaDoorRows
import GoSem.ClaimSeven
namespace Go.Proofs.YtfklinjaajafgaaDoor
namespace Rows

/-- THE TIED CARD OF 'lenseslaw.Matches'. -/
def matchesCard : Claim7 := { stood := { row := matchesRow, standIns := [], harness := (true, "1b7c3c6aadf42d9ebd67378c55bd13cfe50c3093d3a18fbf48d3a85eb54e581e"), looks := true }, kinds := [], alts := [], laidByText := true, laidKinds := [.sentinel, .sentinel, .sentinel, .sentinel], laidTests := true, laidLooks := .later }
def MatchesCardSaid : Prop := Claim7.holds Tryd.pinned (.plain (OpenSpec.ofChange matchesSpec)) matchesCard

/-- THE TIED CARD OF 'lenseskeep.Fits'. -/
def fitsCard : Claim7 := { stood := { row := fitsRow, standIns := [], harness := (true, "1b7c3c6aadf42d9ebd67378c55bd13cfe50c3093d3a18fbf48d3a85eb54e581e"), looks := true }, kinds := [], alts := [], laidByText := true, laidKinds := [.sentinel, .sentinel, .sentinel, .sentinel], laidTests := true, laidLooks := .later }
def FitsCardSaid : Prop := Claim7.holds Tryd.pinned (.plain (OpenSpec.ofChange fitsSpec)) fitsCard

/-- THE SECOND FORM's CARD OF 'lenseslaw.Matches'. -/
def matchesUptoCard : Claim7 := { stood := { row := matchesUptoRow, standIns := [], harness := (true, "1b7c3c6aadf42d9ebd67378c55bd13cfe50c3093d3a18fbf48d3a85eb54e581e"), looks := true }, kinds := [], alts := [], laidByText := true, laidKinds := [.sentinel, .sentinel, .sentinel, .sentinel], laidTests := true, laidLooks := .later }
def MatchesUptoCardSaid : Prop := Claim7.holds Tryd.pinned (.plain (OpenSpec.upto matchesSpec)) matchesUptoCard

/-- THE SECOND FORM's CARD OF 'lenseskeep.Fits'. -/
def fitsUptoCard : Claim7 := { stood := { row := fitsUptoRow, standIns := [], harness := (true, "1b7c3c6aadf42d9ebd67378c55bd13cfe50c3093d3a18fbf48d3a85eb54e581e"), looks := true }, kinds := [], alts := [], laidByText := true, laidKinds := [.sentinel, .sentinel, .sentinel, .sentinel], laidTests := true, laidLooks := .later }
def FitsUptoCardSaid : Prop := Claim7.holds Tryd.pinned (.plain (OpenSpec.upto fitsSpec)) fitsUptoCard
end Rows
end Go.Proofs.YtfklinjaajafgaaDoor
