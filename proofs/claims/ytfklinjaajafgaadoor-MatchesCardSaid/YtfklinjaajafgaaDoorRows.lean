/-
  NARROWER THAN 'FOR EVERY INPUT', by the rows' own cells (each row's printed sentence says how): Matches: laid · Fits: laid.
  DERIVED. THE GIVEN ROWS OF THIS SEAT. 2 by the template 'for every input the law returns true; each argument reads behind the call as it read before'; 0 by the template 'total and deterministic' (their statements: YtfklinjaajafgaaDoorTotals.lean).
  GIVEN WITH THE SEED: the statements are not yours to turn. If you find one false, say at which input.
  Laid BY PROGRAM, IN A SANDBOX (cutbox-rows.mjs): the forced cells as the released guide's own fill.sh prints them over the translation c7ffcce2ad6c110b… (all of the seat's roots in one cut). By AI agents, Wed Nov 11 2026. No macro, syntax, notation, axiom, sorry.
-/
import Derived.Test.YtfklinjaajafgaaDoorChecked
import GoSem.Claim
import GoSem.ClaimJoined
import GoSem.ClaimMapViews
import Derived.JoinedTies
import Derived.KernelRfl
namespace Go.Proofs.YtfklinjaajafgaaDoor
/- THE CELL 'sum', in the pinned program and in every row, IS THE sha256 OF THE DUMP (.gsa) THAT YtfklinjaajafgaaDoorProg.lean LOADS. Nothing in Lean hashes anything: it is a label: what it is worth is what the hold of that sum in a sandbox is worth. -/
noncomputable def Tryd.pinned : Pinned := { name := "ytfklinjaajafgaadoor", sum := "c7ffcce2ad6c110bf25ac021dbc21738eb32cbff514200c72b2a2ce58df0645d", checked := Tryd.checked }
namespace Rows
def none {H : Type} : Left H := { results := [], args := [] }

/- WHAT THE LISTED PACKAGE-LEVEL VARIABLES READ AS WHEN THE CALL BEGINS. Each datum BY PROGRAM (the guide's laid-datum.mjs) off the statement by which the dump's own 'gosem.cut.vars' lays the variable. In a bare row this is a premise. The card (YtfklinjaajafgaaDoorCards.lean) ties it to the program's text. -/
def laid_lenses_reading_ErrLong {H : Type} : DataW H := .iface "*errors.errorString" (.ptr (.agg [.lit (.string [116, 104, 101, 32, 116, 101, 120, 116, 32, 105, 115, 32, 116, 111, 111, 32, 108, 111, 110, 103])]))
def laid_lenses_reading_ErrSyntax {H : Type} : DataW H := .iface "*errors.errorString" (.ptr (.agg [.lit (.string [105, 116, 32, 105, 115, 32, 110, 111, 32, 112, 97, 116, 116, 101, 114, 110, 44, 32, 111, 114, 32, 110, 111, 32, 112, 114, 111, 103, 114, 97, 109])]))
def laid_lenses_reading_ErrSize {H : Type} : DataW H := .iface "*errors.errorString" (.ptr (.agg [.lit (.string [116, 104, 101, 114, 101, 32, 105, 115, 32, 116, 111, 111, 32, 109, 117, 99, 104, 32, 105, 110, 32, 105, 116])]))
def laid_lenses_programs_ErrType {H : Type} : DataW H := .iface "*errors.errorString" (.ptr (.agg [.lit (.string [105, 116, 32, 99, 111, 117, 108, 100, 32, 98, 101, 32, 114, 101, 97, 100, 32, 105, 110, 32, 116, 119, 111, 32, 119, 97, 121, 115, 44, 32, 111, 114, 32, 97, 32, 119, 111, 114, 100, 32, 100, 111, 101, 115, 32, 110, 111, 116, 32, 102, 105, 116])]))

/-- 'lenseslaw.Matches': WHATEVER THE INPUT: true; the input reads as it did. -/
def matchesSpec : ChangeSpec := { name := "matches", fn := fun _ => fun
  | [d1, d2] => { results := [.lit (.bool true)], args := [d1, d2] }
  | _ => none }
def matchesRow : OpenClaim := { program := "ytfklinjaajafgaadoor", sum := "c7ffcce2ad6c110bf25ac021dbc21738eb32cbff514200c72b2a2ce58df0645d", func := "lenses/lenseslaw.Matches", spec := "matches", inPlace := ["internal/bytealg.IndexByteString", "internal/reflectlite.TypeOf"], unfollowed := true, recurses := true, named := ["lenses/reading.ErrLong", "lenses/reading.ErrSize", "lenses/reading.ErrSyntax", "lenses/programs.ErrType"], plainKeys := false, apart := false, laid := [("lenses/reading.ErrLong", laid_lenses_reading_ErrLong), ("lenses/reading.ErrSyntax", laid_lenses_reading_ErrSyntax), ("lenses/reading.ErrSize", laid_lenses_reading_ErrSize), ("lenses/programs.ErrType", laid_lenses_programs_ErrType)] }
def MatchesSaid : Prop := matchesRow.holds Tryd.pinned (OpenSpec.ofChange matchesSpec)

/-- ITS FALSE NEIGHBOUR: 'it returns false'. Refute it at one input. -/
def matchesWrong : ChangeSpec := { name := "matches", fn := fun _ => fun
  | [d1, d2] => { results := [.lit (.bool false)], args := [d1, d2] }
  | _ => none }
def MatchesWrongFalsely : Prop := matchesRow.holds Tryd.pinned (OpenSpec.ofChange matchesWrong)

/-- 'lenseskeep.Fits': WHATEVER THE INPUT: true; the input reads as it did. -/
def fitsSpec : ChangeSpec := { name := "fits", fn := fun _ => fun
  | [d1, d2, d3] => { results := [.lit (.bool true)], args := [d1, d2, d3] }
  | _ => none }
def fitsRow : OpenClaim := { program := "ytfklinjaajafgaadoor", sum := "c7ffcce2ad6c110bf25ac021dbc21738eb32cbff514200c72b2a2ce58df0645d", func := "lenses/lenseskeep.Fits", spec := "fits", inPlace := ["internal/bytealg.IndexByteString", "internal/reflectlite.TypeOf"], unfollowed := true, recurses := true, named := ["lenses/reading.ErrLong", "lenses/reading.ErrSize", "lenses/reading.ErrSyntax", "lenses/programs.ErrType"], plainKeys := false, apart := false, laid := [("lenses/reading.ErrLong", laid_lenses_reading_ErrLong), ("lenses/reading.ErrSyntax", laid_lenses_reading_ErrSyntax), ("lenses/reading.ErrSize", laid_lenses_reading_ErrSize), ("lenses/programs.ErrType", laid_lenses_programs_ErrType)] }
def FitsSaid : Prop := fitsRow.holds Tryd.pinned (OpenSpec.ofChange fitsSpec)

/-- ITS FALSE NEIGHBOUR: 'it returns false'. Refute it at one input. -/
def fitsWrong : ChangeSpec := { name := "fits", fn := fun _ => fun
  | [d1, d2, d3] => { results := [.lit (.bool false)], args := [d1, d2, d3] }
  | _ => none }
def FitsWrongFalsely : Prop := fitsRow.holds Tryd.pinned (OpenSpec.ofChange fitsWrong)

/- THE SECOND FORM. 'bulk': how many values and letters a reading holds, each counted each time it is reached (what is shared counts as often as it is met; a slice's spare places count too). A statement '..UptoSaid' is the law's where the arguments, and the package variables that the reading takes, are together of bulk at most 1048576: NARROWER than '..Said'. Prove '..Said' where nothing that the law and all that it calls make is longer than what came in: it says more and counts as full. Else prove '..UptoSaid'. A law counts once. -/
mutual
def uptoBulk {H : Type} : DataW H → Nat
  | .lit (.string bytes) => bytes.length + 1
  | .lit _ => 1
  | .nil => 1
  | .ptr d => uptoBulk d + 1
  | .slice elems spare => uptoBulkAll elems + uptoBulkAll spare + 1
  | .agg parts => uptoBulkAll parts + 1
  | .iface _ d => uptoBulk d + 1
  | .map entries => uptoBulkEntries entries + 1
  | .held _ => 1
def uptoBulkAll {H : Type} : List (DataW H) → Nat
  | [] => 0
  | d :: r => uptoBulk d + uptoBulkAll r
def uptoBulkEntries {H : Type} : List (Lit × DataW H) → Nat
  | [] => 0
  | x :: r => uptoBulkEntry x + uptoBulkEntries r
def uptoBulkEntry {H : Type} : Lit × DataW H → Nat
  | (.string bytes, d) => bytes.length + uptoBulk d + 1
  | (_, d) => uptoBulk d + 1
 end
def uptoSmall : (H : Type) → List (DataW H) → Bool := fun _ ds => decide (uptoBulkAll ds ≤ 1048576)
def OpenSpec.upto (s : _root_.Go.ChangeSpec) : _root_.Go.OpenSpec := { _root_.Go.OpenSpec.ofChange s with cond := some uptoSmall }

/-- 'lenseslaw.Matches', WHERE WHAT IT READS IS OF BULK AT MOST 1048576: true; the input reads as it did. -/
def matchesUptoRow : OpenClaim := { program := "ytfklinjaajafgaadoor", sum := "c7ffcce2ad6c110bf25ac021dbc21738eb32cbff514200c72b2a2ce58df0645d", func := "lenses/lenseslaw.Matches", spec := "matches", inPlace := ["internal/bytealg.IndexByteString", "internal/reflectlite.TypeOf"], unfollowed := true, recurses := true, named := ["lenses/reading.ErrLong", "lenses/reading.ErrSize", "lenses/reading.ErrSyntax", "lenses/programs.ErrType"], plainKeys := false, apart := false, laid := [("lenses/reading.ErrLong", laid_lenses_reading_ErrLong), ("lenses/reading.ErrSyntax", laid_lenses_reading_ErrSyntax), ("lenses/reading.ErrSize", laid_lenses_reading_ErrSize), ("lenses/programs.ErrType", laid_lenses_programs_ErrType)], narrowed := true }
def MatchesUptoSaid : Prop := matchesUptoRow.holds Tryd.pinned (OpenSpec.upto matchesSpec)

/-- 'lenseskeep.Fits', WHERE WHAT IT READS IS OF BULK AT MOST 1048576: true; the input reads as it did. -/
def fitsUptoRow : OpenClaim := { program := "ytfklinjaajafgaadoor", sum := "c7ffcce2ad6c110bf25ac021dbc21738eb32cbff514200c72b2a2ce58df0645d", func := "lenses/lenseskeep.Fits", spec := "fits", inPlace := ["internal/bytealg.IndexByteString", "internal/reflectlite.TypeOf"], unfollowed := true, recurses := true, named := ["lenses/reading.ErrLong", "lenses/reading.ErrSize", "lenses/reading.ErrSyntax", "lenses/programs.ErrType"], plainKeys := false, apart := false, laid := [("lenses/reading.ErrLong", laid_lenses_reading_ErrLong), ("lenses/reading.ErrSyntax", laid_lenses_reading_ErrSyntax), ("lenses/reading.ErrSize", laid_lenses_reading_ErrSize), ("lenses/programs.ErrType", laid_lenses_programs_ErrType)], narrowed := true }
def FitsUptoSaid : Prop := fitsUptoRow.holds Tryd.pinned (OpenSpec.upto fitsSpec)

end Rows
end Go.Proofs.YtfklinjaajafgaaDoor
