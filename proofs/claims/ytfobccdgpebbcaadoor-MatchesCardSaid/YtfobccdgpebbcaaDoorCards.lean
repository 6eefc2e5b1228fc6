/-
  DERIVED. GIVEN WITH THE SEED: THE CARDS: each row of YtfobccdgpebbcaaDoorRows.lean that lists a variable, with what it lists TIED to the program's text (the seventh form; the later family's looks); each row that meets fmt, with fmt's text TOLD by the authors' own Lean function (tested against real Go, not proved from fmt's source: count such statements apart). THE CARD IS WHAT COUNTS. Prove the row's statement (the work); the ties are given (YtfobccdgpebbcaaDoorTie.lean); close each card by the builder's one call (the guide's Derived/Test/ToyasCard.lean, 'card_holds'). Laid BY PROGRAM, IN A SANDBOX (cutbox-door.mjs). By AI agents, Wed Nov 11 2026. No macro, syntax, notation, axiom, sorry.
-/
import Derived.Test.YtfobccdgpebbcaaDoorRows
import GoSem.ClaimSeven
namespace Go.Proofs.YtfobccdgpebbcaaDoor
namespace Rows

/-- THE TIED CARD OF 'lenseslaw.Matches'. -/
def matchesCard : Claim7 := { stood := { row := matchesRow, standIns := [], harness := (true, "efa91fb06ecc4162e0cd9bb9ef4eabbbc8c8f73d67649a16de4c2ebf298a4054"), looks := true }, kinds := [], alts := [], laidByText := true, laidKinds := [.sentinel, .sentinel, .sentinel], laidTests := true, laidLooks := .later }
def MatchesCardSaid : Prop := Claim7.holds Tryd.pinned (.plain (OpenSpec.ofChange matchesSpec)) matchesCard

/-- THE SECOND FORM's CARD OF 'lenseslaw.Matches'. -/
def matchesUptoCard : Claim7 := { stood := { row := matchesUptoRow, standIns := [], harness := (true, "efa91fb06ecc4162e0cd9bb9ef4eabbbc8c8f73d67649a16de4c2ebf298a4054"), looks := true }, kinds := [], alts := [], laidByText := true, laidKinds := [.sentinel, .sentinel, .sentinel], laidTests := true, laidLooks := .later }
def MatchesUptoCardSaid : Prop := Claim7.holds Tryd.pinned (.plain (OpenSpec.upto matchesSpec)) matchesUptoCard
end Rows
end Go.Proofs.YtfobccdgpebbcaaDoor
