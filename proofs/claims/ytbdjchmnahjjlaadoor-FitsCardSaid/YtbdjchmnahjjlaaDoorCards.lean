/-
  DERIVED. GIVEN WITH THE SEED: THE CARDS: each row of YtbdjchmnahjjlaaDoorRows.lean that lists a variable, with what it lists TIED to the program's text (the seventh form; the later family's looks); each row that meets fmt, with fmt's text TOLD by the authors' own Lean function (tested against real Go, not proved from fmt's source: count such statements apart). THE CARD IS WHAT COUNTS. Prove the row's statement (the work); the ties are given (YtbdjchmnahjjlaaDoorTie.lean); close each card by the builder's one call (the guide's Derived/Test/ToyasCard.lean, 'card_holds'). Laid BY PROGRAM, IN A SANDBOX (cutbox-door.mjs). By AI agents, Wed Nov 11 2026. No macro, syntax, notation, axiom, sorry.
-/
import Derived.Test.YtbdjchmnahjjlaaDoorRows
import GoSem.ClaimSeven
namespace Go.Proofs.YtbdjchmnahjjlaaDoor
namespace Rows

/-- THE TIED CARD OF 'lenseslaw.Matches'. -/
def matchesCard : Claim7 := { stood := { row := matchesRow, standIns := [], harness := (true, "f4e1575f9e66fbd98e460b4c127ab5464742ffa7e45b7a0c150c97f0a189789c"), looks := true }, kinds := [], alts := [], laidByText := true, laidKinds := [.sentinel, .sentinel, .sentinel], laidTests := true, laidLooks := .later }
def MatchesCardSaid : Prop := Claim7.holds Tryd.pinned (.plain (OpenSpec.ofChange matchesSpec)) matchesCard

/-- THE TIED CARD OF 'lenseslaw.Cuts'. -/
def cutsCard : Claim7 := { stood := { row := cutsRow, standIns := [], harness := (true, "f4e1575f9e66fbd98e460b4c127ab5464742ffa7e45b7a0c150c97f0a189789c"), looks := true }, kinds := [], alts := [], laidByText := true, laidKinds := [.sentinel, .sentinel, .sentinel], laidTests := true, laidLooks := .later }
def CutsCardSaid : Prop := Claim7.holds Tryd.pinned (.plain (OpenSpec.ofChange cutsSpec)) cutsCard

/-- THE TIED CARD OF 'lenseskeep.Fits'. -/
def fitsCard : Claim7 := { stood := { row := fitsRow, standIns := [], harness := (true, "f4e1575f9e66fbd98e460b4c127ab5464742ffa7e45b7a0c150c97f0a189789c"), looks := true }, kinds := [], alts := [], laidByText := true, laidKinds := [.sentinel, .sentinel, .sentinel], laidTests := true, laidLooks := .later }
def FitsCardSaid : Prop := Claim7.holds Tryd.pinned (.plain (OpenSpec.ofChange fitsSpec)) fitsCard

/-- THE SECOND FORM's CARD OF 'lenseslaw.Matches'. -/
def matchesUptoCard : Claim7 := { stood := { row := matchesUptoRow, standIns := [], harness := (true, "f4e1575f9e66fbd98e460b4c127ab5464742ffa7e45b7a0c150c97f0a189789c"), looks := true }, kinds := [], alts := [], laidByText := true, laidKinds := [.sentinel, .sentinel, .sentinel], laidTests := true, laidLooks := .later }
def MatchesUptoCardSaid : Prop := Claim7.holds Tryd.pinned (.plain (OpenSpec.upto matchesSpec)) matchesUptoCard

/-- THE SECOND FORM's CARD OF 'lenseslaw.Cuts'. -/
def cutsUptoCard : Claim7 := { stood := { row := cutsUptoRow, standIns := [], harness := (true, "f4e1575f9e66fbd98e460b4c127ab5464742ffa7e45b7a0c150c97f0a189789c"), looks := true }, kinds := [], alts := [], laidByText := true, laidKinds := [.sentinel, .sentinel, .sentinel], laidTests := true, laidLooks := .later }
def CutsUptoCardSaid : Prop := Claim7.holds Tryd.pinned (.plain (OpenSpec.upto cutsSpec)) cutsUptoCard

/-- THE SECOND FORM's CARD OF 'lenseskeep.Fits'. -/
def fitsUptoCard : Claim7 := { stood := { row := fitsUptoRow, standIns := [], harness := (true, "f4e1575f9e66fbd98e460b4c127ab5464742ffa7e45b7a0c150c97f0a189789c"), looks := true }, kinds := [], alts := [], laidByText := true, laidKinds := [.sentinel, .sentinel, .sentinel], laidTests := true, laidLooks := .later }
def FitsUptoCardSaid : Prop := Claim7.holds Tryd.pinned (.plain (OpenSpec.upto fitsSpec)) fitsUptoCard
end Rows
end Go.Proofs.YtbdjchmnahjjlaaDoor
