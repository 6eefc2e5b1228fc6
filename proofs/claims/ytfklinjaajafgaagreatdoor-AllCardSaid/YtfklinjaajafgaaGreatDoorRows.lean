/-
  NARROWER THAN 'FOR EVERY INPUT', by the rows' own cells (each row's printed sentence says how): Cuts: laid · Compiles: laid · Reads: laid · Creates: laid · Puts: laid · Converts: laid · All: laid · Round: laid · Ships: laid · Keyed: laid.
  DERIVED. THE GIVEN ROWS OF THIS SEAT. 10 by the template 'for every input the law returns true; each argument reads behind the call as it read before'; 0 by the template 'total and deterministic' (their statements: YtfklinjaajafgaaGreatDoorTotals.lean).
  GIVEN WITH THE SEED: the statements are not yours to turn. If you find one false, say at which input.
  Laid BY PROGRAM, IN A SANDBOX (cutbox-rows.mjs): the forced cells as the released guide's own fill.sh prints them over the translation 483059a104f3392e… (all of the seat's roots in one cut). By AI agents, Wed Nov 11 2026. No macro, syntax, notation, axiom, sorry.
-/
import Derived.Test.YtfklinjaajafgaaGreatDoorChecked
import GoSem.Claim
import GoSem.ClaimJoined
import GoSem.ClaimMapViews
import Derived.JoinedTies
import Derived.KernelRfl
namespace Go.Proofs.YtfklinjaajafgaaGreatDoor
/- THE CELL 'sum', in the pinned program and in every row, IS THE sha256 OF THE DUMP (.gsa) THAT YtfklinjaajafgaaGreatDoorProg.lean LOADS. Nothing in Lean hashes anything: it is a label: what it is worth is what the hold of that sum in a sandbox is worth. -/
noncomputable def Tryz.pinned : Pinned := { name := "ytfklinjaajafgaagreatdoor", sum := "483059a104f3392ece61d3edb281321e2c58e0c07d584699ce10866b441ce626", checked := Tryz.checked }
namespace Rows
def none {H : Type} : Left H := { results := [], args := [] }

/- WHAT THE LISTED PACKAGE-LEVEL VARIABLES READ AS WHEN THE CALL BEGINS. Each datum BY PROGRAM (the guide's laid-datum.mjs) off the statement by which the dump's own 'gosem.cut.vars' lays the variable. In a bare row this is a premise. The card (YtfklinjaajafgaaGreatDoorCards.lean) ties it to the program's text. -/
def laid_lenses_reading_ErrLong {H : Type} : DataW H := .iface "*errors.errorString" (.ptr (.agg [.lit (.string [116, 104, 101, 32, 116, 101, 120, 116, 32, 105, 115, 32, 116, 111, 111, 32, 108, 111, 110, 103])]))
def laid_lenses_reading_ErrSyntax {H : Type} : DataW H := .iface "*errors.errorString" (.ptr (.agg [.lit (.string [105, 116, 32, 105, 115, 32, 110, 111, 32, 112, 97, 116, 116, 101, 114, 110, 44, 32, 111, 114, 32, 110, 111, 32, 112, 114, 111, 103, 114, 97, 109])]))
def laid_lenses_reading_ErrSize {H : Type} : DataW H := .iface "*errors.errorString" (.ptr (.agg [.lit (.string [116, 104, 101, 114, 101, 32, 105, 115, 32, 116, 111, 111, 32, 109, 117, 99, 104, 32, 105, 110, 32, 105, 116])]))
def laid_lenses_programs_ErrType {H : Type} : DataW H := .iface "*errors.errorString" (.ptr (.agg [.lit (.string [105, 116, 32, 99, 111, 117, 108, 100, 32, 98, 101, 32, 114, 101, 97, 100, 32, 105, 110, 32, 116, 119, 111, 32, 119, 97, 121, 115, 44, 32, 111, 114, 32, 97, 32, 119, 111, 114, 100, 32, 100, 111, 101, 115, 32, 110, 111, 116, 32, 102, 105, 116])]))

/-- 'lenseslaw.Cuts': WHATEVER THE INPUT: true; the input reads as it did. -/
def cutsSpec : ChangeSpec := { name := "cuts", fn := fun _ => fun
  | [d1, d2] => { results := [.lit (.bool true)], args := [d1, d2] }
  | _ => none }
def cutsRow : OpenClaim := { program := "ytfklinjaajafgaagreatdoor", sum := "483059a104f3392ece61d3edb281321e2c58e0c07d584699ce10866b441ce626", func := "lenses/lenseslaw.Cuts", spec := "cuts", inPlace := ["internal/bytealg.IndexByteString", "internal/reflectlite.TypeOf"], unfollowed := true, recurses := true, named := ["lenses/reading.ErrLong", "lenses/reading.ErrSize", "lenses/reading.ErrSyntax", "lenses/programs.ErrType"], plainKeys := false, apart := false, laid := [("lenses/reading.ErrLong", laid_lenses_reading_ErrLong), ("lenses/reading.ErrSyntax", laid_lenses_reading_ErrSyntax), ("lenses/reading.ErrSize", laid_lenses_reading_ErrSize), ("lenses/programs.ErrType", laid_lenses_programs_ErrType)] }
def CutsSaid : Prop := cutsRow.holds Tryz.pinned (OpenSpec.ofChange cutsSpec)

/-- ITS FALSE NEIGHBOUR: 'it returns false'. Refute it at one input. -/
def cutsWrong : ChangeSpec := { name := "cuts", fn := fun _ => fun
  | [d1, d2] => { results := [.lit (.bool false)], args := [d1, d2] }
  | _ => none }
def CutsWrongFalsely : Prop := cutsRow.holds Tryz.pinned (OpenSpec.ofChange cutsWrong)

/-- 'lenseslaw.Compiles': WHATEVER THE INPUT: true; the input reads as it did. -/
def compilesSpec : ChangeSpec := { name := "compiles", fn := fun _ => fun
  | [d] => { results := [.lit (.bool true)], args := [d] }
  | _ => none }
def compilesRow : OpenClaim := { program := "ytfklinjaajafgaagreatdoor", sum := "483059a104f3392ece61d3edb281321e2c58e0c07d584699ce10866b441ce626", func := "lenses/lenseslaw.Compiles", spec := "compiles", inPlace := ["internal/bytealg.IndexByteString", "internal/abi.NoEscape", "internal/reflectlite.TypeOf"], unfollowed := true, recurses := true, named := ["lenses/reading.ErrLong", "lenses/reading.ErrSize", "lenses/reading.ErrSyntax", "lenses/programs.ErrType"], plainKeys := false, apart := false, laid := [("lenses/reading.ErrLong", laid_lenses_reading_ErrLong), ("lenses/reading.ErrSyntax", laid_lenses_reading_ErrSyntax), ("lenses/reading.ErrSize", laid_lenses_reading_ErrSize), ("lenses/programs.ErrType", laid_lenses_programs_ErrType)] }
def CompilesSaid : Prop := compilesRow.holds Tryz.pinned (OpenSpec.ofChange compilesSpec)

/-- ITS FALSE NEIGHBOUR: 'it returns false'. Refute it at one input. -/
def compilesWrong : ChangeSpec := { name := "compiles", fn := fun _ => fun
  | [d] => { results := [.lit (.bool false)], args := [d] }
  | _ => none }
def CompilesWrongFalsely : Prop := compilesRow.holds Tryz.pinned (OpenSpec.ofChange compilesWrong)

/-- 'lenseslaw.Reads': WHATEVER THE INPUT: true; the input reads as it did. -/
def readsSpec : ChangeSpec := { name := "reads", fn := fun _ => fun
  | [d1, d2] => { results := [.lit (.bool true)], args := [d1, d2] }
  | _ => none }
def readsRow : OpenClaim := { program := "ytfklinjaajafgaagreatdoor", sum := "483059a104f3392ece61d3edb281321e2c58e0c07d584699ce10866b441ce626", func := "lenses/lenseslaw.Reads", spec := "reads", inPlace := ["internal/bytealg.IndexByteString", "internal/abi.NoEscape", "internal/reflectlite.TypeOf"], unfollowed := true, recurses := true, named := ["lenses/reading.ErrLong", "lenses/reading.ErrSize", "lenses/reading.ErrSyntax", "lenses/programs.ErrType"], plainKeys := false, apart := false, laid := [("lenses/reading.ErrLong", laid_lenses_reading_ErrLong), ("lenses/reading.ErrSyntax", laid_lenses_reading_ErrSyntax), ("lenses/reading.ErrSize", laid_lenses_reading_ErrSize), ("lenses/programs.ErrType", laid_lenses_programs_ErrType)] }
def ReadsSaid : Prop := readsRow.holds Tryz.pinned (OpenSpec.ofChange readsSpec)

/-- ITS FALSE NEIGHBOUR: 'it returns false'. Refute it at one input. -/
def readsWrong : ChangeSpec := { name := "reads", fn := fun _ => fun
  | [d1, d2] => { results := [.lit (.bool false)], args := [d1, d2] }
  | _ => none }
def ReadsWrongFalsely : Prop := readsRow.holds Tryz.pinned (OpenSpec.ofChange readsWrong)

/-- 'lenseslaw.Creates': WHATEVER THE INPUT: true; the input reads as it did. -/
def createsSpec : ChangeSpec := { name := "creates", fn := fun _ => fun
  | [d1, d2] => { results := [.lit (.bool true)], args := [d1, d2] }
  | _ => none }
def createsRow : OpenClaim := { program := "ytfklinjaajafgaagreatdoor", sum := "483059a104f3392ece61d3edb281321e2c58e0c07d584699ce10866b441ce626", func := "lenses/lenseslaw.Creates", spec := "creates", inPlace := ["internal/bytealg.IndexByteString", "internal/abi.NoEscape", "internal/reflectlite.TypeOf"], unfollowed := true, recurses := true, named := ["lenses/reading.ErrLong", "lenses/reading.ErrSize", "lenses/reading.ErrSyntax", "lenses/programs.ErrType"], plainKeys := false, apart := false, laid := [("lenses/reading.ErrLong", laid_lenses_reading_ErrLong), ("lenses/reading.ErrSyntax", laid_lenses_reading_ErrSyntax), ("lenses/reading.ErrSize", laid_lenses_reading_ErrSize), ("lenses/programs.ErrType", laid_lenses_programs_ErrType)] }
def CreatesSaid : Prop := createsRow.holds Tryz.pinned (OpenSpec.ofChange createsSpec)

/-- ITS FALSE NEIGHBOUR: 'it returns false'. Refute it at one input. -/
def createsWrong : ChangeSpec := { name := "creates", fn := fun _ => fun
  | [d1, d2] => { results := [.lit (.bool false)], args := [d1, d2] }
  | _ => none }
def CreatesWrongFalsely : Prop := createsRow.holds Tryz.pinned (OpenSpec.ofChange createsWrong)

/-- 'lenseslaw.Puts': WHATEVER THE INPUT: true; the input reads as it did. -/
def putsSpec : ChangeSpec := { name := "puts", fn := fun _ => fun
  | [d1, d2, d3] => { results := [.lit (.bool true)], args := [d1, d2, d3] }
  | _ => none }
def putsRow : OpenClaim := { program := "ytfklinjaajafgaagreatdoor", sum := "483059a104f3392ece61d3edb281321e2c58e0c07d584699ce10866b441ce626", func := "lenses/lenseslaw.Puts", spec := "puts", inPlace := ["internal/bytealg.IndexByteString", "internal/abi.NoEscape", "internal/reflectlite.TypeOf"], unfollowed := true, recurses := true, named := ["lenses/reading.ErrLong", "lenses/reading.ErrSize", "lenses/reading.ErrSyntax", "lenses/programs.ErrType"], plainKeys := false, apart := false, laid := [("lenses/reading.ErrLong", laid_lenses_reading_ErrLong), ("lenses/reading.ErrSyntax", laid_lenses_reading_ErrSyntax), ("lenses/reading.ErrSize", laid_lenses_reading_ErrSize), ("lenses/programs.ErrType", laid_lenses_programs_ErrType)] }
def PutsSaid : Prop := putsRow.holds Tryz.pinned (OpenSpec.ofChange putsSpec)

/-- ITS FALSE NEIGHBOUR: 'it returns false'. Refute it at one input. -/
def putsWrong : ChangeSpec := { name := "puts", fn := fun _ => fun
  | [d1, d2, d3] => { results := [.lit (.bool false)], args := [d1, d2, d3] }
  | _ => none }
def PutsWrongFalsely : Prop := putsRow.holds Tryz.pinned (OpenSpec.ofChange putsWrong)

/-- 'lenseslaw.Converts': WHATEVER THE INPUT: true; the input reads as it did. -/
def convertsSpec : ChangeSpec := { name := "converts", fn := fun _ => fun
  | [d1, d2, d3] => { results := [.lit (.bool true)], args := [d1, d2, d3] }
  | _ => none }
def convertsRow : OpenClaim := { program := "ytfklinjaajafgaagreatdoor", sum := "483059a104f3392ece61d3edb281321e2c58e0c07d584699ce10866b441ce626", func := "lenses/lenseslaw.Converts", spec := "converts", inPlace := ["internal/bytealg.IndexByteString", "internal/abi.NoEscape", "internal/reflectlite.TypeOf"], unfollowed := true, recurses := true, named := ["lenses/reading.ErrLong", "lenses/reading.ErrSize", "lenses/reading.ErrSyntax", "lenses/programs.ErrType"], plainKeys := false, apart := false, laid := [("lenses/reading.ErrLong", laid_lenses_reading_ErrLong), ("lenses/reading.ErrSyntax", laid_lenses_reading_ErrSyntax), ("lenses/reading.ErrSize", laid_lenses_reading_ErrSize), ("lenses/programs.ErrType", laid_lenses_programs_ErrType)] }
def ConvertsSaid : Prop := convertsRow.holds Tryz.pinned (OpenSpec.ofChange convertsSpec)

/-- ITS FALSE NEIGHBOUR: 'it returns false'. Refute it at one input. -/
def convertsWrong : ChangeSpec := { name := "converts", fn := fun _ => fun
  | [d1, d2, d3] => { results := [.lit (.bool false)], args := [d1, d2, d3] }
  | _ => none }
def ConvertsWrongFalsely : Prop := convertsRow.holds Tryz.pinned (OpenSpec.ofChange convertsWrong)

/-- 'lenseslaw.All': WHATEVER THE INPUT: true; the input reads as it did. -/
def allSpec : ChangeSpec := { name := "all", fn := fun _ => fun
  | [d1, d2, d3, d4, d5, d6] => { results := [.lit (.bool true)], args := [d1, d2, d3, d4, d5, d6] }
  | _ => none }
def allRow : OpenClaim := { program := "ytfklinjaajafgaagreatdoor", sum := "483059a104f3392ece61d3edb281321e2c58e0c07d584699ce10866b441ce626", func := "lenses/lenseslaw.All", spec := "all", inPlace := ["internal/bytealg.IndexByteString", "internal/reflectlite.TypeOf", "internal/abi.NoEscape"], unfollowed := true, recurses := true, named := ["lenses/reading.ErrLong", "lenses/reading.ErrSize", "lenses/reading.ErrSyntax", "lenses/programs.ErrType"], plainKeys := false, apart := false, laid := [("lenses/reading.ErrLong", laid_lenses_reading_ErrLong), ("lenses/reading.ErrSyntax", laid_lenses_reading_ErrSyntax), ("lenses/reading.ErrSize", laid_lenses_reading_ErrSize), ("lenses/programs.ErrType", laid_lenses_programs_ErrType)] }
def AllSaid : Prop := allRow.holds Tryz.pinned (OpenSpec.ofChange allSpec)

/-- ITS FALSE NEIGHBOUR: 'it returns false'. Refute it at one input. -/
def allWrong : ChangeSpec := { name := "all", fn := fun _ => fun
  | [d1, d2, d3, d4, d5, d6] => { results := [.lit (.bool false)], args := [d1, d2, d3, d4, d5, d6] }
  | _ => none }
def AllWrongFalsely : Prop := allRow.holds Tryz.pinned (OpenSpec.ofChange allWrong)

/-- 'lenseskeep.Round': WHATEVER THE INPUT: true; the input reads as it did. -/
def roundSpec : ChangeSpec := { name := "round", fn := fun _ => fun
  | [d1, d2, d3] => { results := [.lit (.bool true)], args := [d1, d2, d3] }
  | _ => none }
def roundRow : OpenClaim := { program := "ytfklinjaajafgaagreatdoor", sum := "483059a104f3392ece61d3edb281321e2c58e0c07d584699ce10866b441ce626", func := "lenses/lenseskeep.Round", spec := "round", inPlace := ["internal/bytealg.IndexByteString", "internal/abi.NoEscape", "internal/reflectlite.TypeOf"], unfollowed := true, recurses := true, named := ["lenses/reading.ErrLong", "lenses/reading.ErrSize", "lenses/reading.ErrSyntax", "lenses/programs.ErrType"], plainKeys := false, apart := false, laid := [("lenses/reading.ErrLong", laid_lenses_reading_ErrLong), ("lenses/reading.ErrSyntax", laid_lenses_reading_ErrSyntax), ("lenses/reading.ErrSize", laid_lenses_reading_ErrSize), ("lenses/programs.ErrType", laid_lenses_programs_ErrType)] }
def RoundSaid : Prop := roundRow.holds Tryz.pinned (OpenSpec.ofChange roundSpec)

/-- ITS FALSE NEIGHBOUR: 'it returns false'. Refute it at one input. -/
def roundWrong : ChangeSpec := { name := "round", fn := fun _ => fun
  | [d1, d2, d3] => { results := [.lit (.bool false)], args := [d1, d2, d3] }
  | _ => none }
def RoundWrongFalsely : Prop := roundRow.holds Tryz.pinned (OpenSpec.ofChange roundWrong)

/-- 'lenseskeep.Ships': WHATEVER THE INPUT: true; the input reads as it did. -/
def shipsSpec : ChangeSpec := { name := "ships", fn := fun _ => fun
  | [d] => { results := [.lit (.bool true)], args := [d] }
  | _ => none }
def shipsRow : OpenClaim := { program := "ytfklinjaajafgaagreatdoor", sum := "483059a104f3392ece61d3edb281321e2c58e0c07d584699ce10866b441ce626", func := "lenses/lenseskeep.Ships", spec := "ships", inPlace := ["internal/bytealg.IndexByteString", "internal/abi.NoEscape", "internal/reflectlite.TypeOf"], unfollowed := true, recurses := true, named := ["lenses/reading.ErrLong", "lenses/reading.ErrSize", "lenses/reading.ErrSyntax", "lenses/programs.ErrType"], plainKeys := false, apart := false, laid := [("lenses/reading.ErrLong", laid_lenses_reading_ErrLong), ("lenses/reading.ErrSyntax", laid_lenses_reading_ErrSyntax), ("lenses/reading.ErrSize", laid_lenses_reading_ErrSize), ("lenses/programs.ErrType", laid_lenses_programs_ErrType)] }
def ShipsSaid : Prop := shipsRow.holds Tryz.pinned (OpenSpec.ofChange shipsSpec)

/-- ITS FALSE NEIGHBOUR: 'it returns false'. Refute it at one input. -/
def shipsWrong : ChangeSpec := { name := "ships", fn := fun _ => fun
  | [d] => { results := [.lit (.bool false)], args := [d] }
  | _ => none }
def ShipsWrongFalsely : Prop := shipsRow.holds Tryz.pinned (OpenSpec.ofChange shipsWrong)

/-- 'lenseskeep.Keyed': WHATEVER THE INPUT: true; the input reads as it did. -/
def keyedSpec : ChangeSpec := { name := "keyed", fn := fun _ => fun
  | [d1, d2, d3] => { results := [.lit (.bool true)], args := [d1, d2, d3] }
  | _ => none }
def keyedRow : OpenClaim := { program := "ytfklinjaajafgaagreatdoor", sum := "483059a104f3392ece61d3edb281321e2c58e0c07d584699ce10866b441ce626", func := "lenses/lenseskeep.Keyed", spec := "keyed", inPlace := ["internal/bytealg.IndexByteString", "internal/abi.NoEscape", "internal/reflectlite.TypeOf"], unfollowed := true, recurses := true, named := ["lenses/reading.ErrLong", "lenses/reading.ErrSize", "lenses/reading.ErrSyntax", "lenses/programs.ErrType"], plainKeys := false, apart := false, laid := [("lenses/reading.ErrLong", laid_lenses_reading_ErrLong), ("lenses/reading.ErrSyntax", laid_lenses_reading_ErrSyntax), ("lenses/reading.ErrSize", laid_lenses_reading_ErrSize), ("lenses/programs.ErrType", laid_lenses_programs_ErrType)] }
def KeyedSaid : Prop := keyedRow.holds Tryz.pinned (OpenSpec.ofChange keyedSpec)

/-- ITS FALSE NEIGHBOUR: 'it returns false'. Refute it at one input. -/
def keyedWrong : ChangeSpec := { name := "keyed", fn := fun _ => fun
  | [d1, d2, d3] => { results := [.lit (.bool false)], args := [d1, d2, d3] }
  | _ => none }
def KeyedWrongFalsely : Prop := keyedRow.holds Tryz.pinned (OpenSpec.ofChange keyedWrong)

/- THE SECOND FORM. 'bulk': how many values and letters a reading holds, each counted each time it is reached (what is shared counts as often as it is met; a slice's spare places count too). A statement '..UptoSaid' is the law's where the arguments, and the package variables that the reading takes, are together of bulk at most 1048576: NARROWER than '..Said'. Prove '..Said' where nothing that the law and all that it calls make is longer than what came in: it says more and counts as full. Else prove '..UptoSaid'. A law counts once. -/
mutual
def uptoBulk {H : Type} : DataW H → Nat
  | .lit (.string bytes) => bytes.length + 1
  | .lit _ => 1
  | .nil => 1
  | .ptr d => uptoBulk d + 1
  | .slice elems spare => uptoBulkAll elems + uptoBulkAll spare + 1
  | .agg parts => uptoBulkAll parts + 1
  | .iface _ d => uptoBulk d + 1
  | .map entries => uptoBulkEntries entries + 1
  | .held _ => 1
def uptoBulkAll {H : Type} : List (DataW H) → Nat
  | [] => 0
  | d :: r => uptoBulk d + uptoBulkAll r
def uptoBulkEntries {H : Type} : List (Lit × DataW H) → Nat
  | [] => 0
  | x :: r => uptoBulkEntry x + uptoBulkEntries r
def uptoBulkEntry {H : Type} : Lit × DataW H → Nat
  | (.string bytes, d) => bytes.length + uptoBulk d + 1
  | (_, d) => uptoBulk d + 1
 end
def uptoSmall : (H : Type) → List (DataW H) → Bool := fun _ ds => decide (uptoBulkAll ds ≤ 1048576)
def OpenSpec.upto (s : _root_.Go.ChangeSpec) : _root_.Go.OpenSpec := { _root_.Go.OpenSpec.ofChange s with cond := some uptoSmall }

/-- 'lenseslaw.Cuts', WHERE WHAT IT READS IS OF BULK AT MOST 1048576: true; the input reads as it did. -/
def cutsUptoRow : OpenClaim := { program := "ytfklinjaajafgaagreatdoor", sum := "483059a104f3392ece61d3edb281321e2c58e0c07d584699ce10866b441ce626", func := "lenses/lenseslaw.Cuts", spec := "cuts", inPlace := ["internal/bytealg.IndexByteString", "internal/reflectlite.TypeOf"], unfollowed := true, recurses := true, named := ["lenses/reading.ErrLong", "lenses/reading.ErrSize", "lenses/reading.ErrSyntax", "lenses/programs.ErrType"], plainKeys := false, apart := false, laid := [("lenses/reading.ErrLong", laid_lenses_reading_ErrLong), ("lenses/reading.ErrSyntax", laid_lenses_reading_ErrSyntax), ("lenses/reading.ErrSize", laid_lenses_reading_ErrSize), ("lenses/programs.ErrType", laid_lenses_programs_ErrType)], narrowed := true }
def CutsUptoSaid : Prop := cutsUptoRow.holds Tryz.pinned (OpenSpec.upto cutsSpec)

/-- 'lenseslaw.Compiles', WHERE WHAT IT READS IS OF BULK AT MOST 1048576: true; the input reads as it did. -/
def compilesUptoRow : OpenClaim := { program := "ytfklinjaajafgaagreatdoor", sum := "483059a104f3392ece61d3edb281321e2c58e0c07d584699ce10866b441ce626", func := "lenses/lenseslaw.Compiles", spec := "compiles", inPlace := ["internal/bytealg.IndexByteString", "internal/abi.NoEscape", "internal/reflectlite.TypeOf"], unfollowed := true, recurses := true, named := ["lenses/reading.ErrLong", "lenses/reading.ErrSize", "lenses/reading.ErrSyntax", "lenses/programs.ErrType"], plainKeys := false, apart := false, laid := [("lenses/reading.ErrLong", laid_lenses_reading_ErrLong), ("lenses/reading.ErrSyntax", laid_lenses_reading_ErrSyntax), ("lenses/reading.ErrSize", laid_lenses_reading_ErrSize), ("lenses/programs.ErrType", laid_lenses_programs_ErrType)], narrowed := true }
def CompilesUptoSaid : Prop := compilesUptoRow.holds Tryz.pinned (OpenSpec.upto compilesSpec)

/-- 'lenseslaw.Reads', WHERE WHAT IT READS IS OF BULK AT MOST 1048576: true; the input reads as it did. -/
def readsUptoRow : OpenClaim := { program := "ytfklinjaajafgaagreatdoor", sum := "483059a104f3392ece61d3edb281321e2c58e0c07d584699ce10866b441ce626", func := "lenses/lenseslaw.Reads", spec := "reads", inPlace := ["internal/bytealg.IndexByteString", "internal/abi.NoEscape", "internal/reflectlite.TypeOf"], unfollowed := true, recurses := true, named := ["lenses/reading.ErrLong", "lenses/reading.ErrSize", "lenses/reading.ErrSyntax", "lenses/programs.ErrType"], plainKeys := false, apart := false, laid := [("lenses/reading.ErrLong", laid_lenses_reading_ErrLong), ("lenses/reading.ErrSyntax", laid_lenses_reading_ErrSyntax), ("lenses/reading.ErrSize", laid_lenses_reading_ErrSize), ("lenses/programs.ErrType", laid_lenses_programs_ErrType)], narrowed := true }
def ReadsUptoSaid : Prop := readsUptoRow.holds Tryz.pinned (OpenSpec.upto readsSpec)

/-- 'lenseslaw.Creates', WHERE WHAT IT READS IS OF BULK AT MOST 1048576: true; the input reads as it did. -/
def createsUptoRow : OpenClaim := { program := "ytfklinjaajafgaagreatdoor", sum := "483059a104f3392ece61d3edb281321e2c58e0c07d584699ce10866b441ce626", func := "lenses/lenseslaw.Creates", spec := "creates", inPlace := ["internal/bytealg.IndexByteString", "internal/abi.NoEscape", "internal/reflectlite.TypeOf"], unfollowed := true, recurses := true, named := ["lenses/reading.ErrLong", "lenses/reading.ErrSize", "lenses/reading.ErrSyntax", "lenses/programs.ErrType"], plainKeys := false, apart := false, laid := [("lenses/reading.ErrLong", laid_lenses_reading_ErrLong), ("lenses/reading.ErrSyntax", laid_lenses_reading_ErrSyntax), ("lenses/reading.ErrSize", laid_lenses_reading_ErrSize), ("lenses/programs.ErrType", laid_lenses_programs_ErrType)], narrowed := true }
def CreatesUptoSaid : Prop := createsUptoRow.holds Tryz.pinned (OpenSpec.upto createsSpec)

/-- 'lenseslaw.Puts', WHERE WHAT IT READS IS OF BULK AT MOST 1048576: true; the input reads as it did. -/
def putsUptoRow : OpenClaim := { program := "ytfklinjaajafgaagreatdoor", sum := "483059a104f3392ece61d3edb281321e2c58e0c07d584699ce10866b441ce626", func := "lenses/lenseslaw.Puts", spec := "puts", inPlace := ["internal/bytealg.IndexByteString", "internal/abi.NoEscape", "internal/reflectlite.TypeOf"], unfollowed := true, recurses := true, named := ["lenses/reading.ErrLong", "lenses/reading.ErrSize", "lenses/reading.ErrSyntax", "lenses/programs.ErrType"], plainKeys := false, apart := false, laid := [("lenses/reading.ErrLong", laid_lenses_reading_ErrLong), ("lenses/reading.ErrSyntax", laid_lenses_reading_ErrSyntax), ("lenses/reading.ErrSize", laid_lenses_reading_ErrSize), ("lenses/programs.ErrType", laid_lenses_programs_ErrType)], narrowed := true }
def PutsUptoSaid : Prop := putsUptoRow.holds Tryz.pinned (OpenSpec.upto putsSpec)

/-- 'lenseslaw.Converts', WHERE WHAT IT READS IS OF BULK AT MOST 1048576: true; the input reads as it did. -/
def convertsUptoRow : OpenClaim := { program := "ytfklinjaajafgaagreatdoor", sum := "483059a104f3392ece61d3edb281321e2c58e0c07d584699ce10866b441ce626", func := "lenses/lenseslaw.Converts", spec := "converts", inPlace := ["internal/bytealg.IndexByteString", "internal/abi.NoEscape", "internal/reflectlite.TypeOf"], unfollowed := true, recurses := true, named := ["lenses/reading.ErrLong", "lenses/reading.ErrSize", "lenses/reading.ErrSyntax", "lenses/programs.ErrType"], plainKeys := false, apart := false, laid := [("lenses/reading.ErrLong", laid_lenses_reading_ErrLong), ("lenses/reading.ErrSyntax", laid_lenses_reading_ErrSyntax), ("lenses/reading.ErrSize", laid_lenses_reading_ErrSize), ("lenses/programs.ErrType", laid_lenses_programs_ErrType)], narrowed := true }
def ConvertsUptoSaid : Prop := convertsUptoRow.holds Tryz.pinned (OpenSpec.upto convertsSpec)

/-- 'lenseslaw.All', WHERE WHAT IT READS IS OF BULK AT MOST 1048576: true; the input reads as it did. -/
def allUptoRow : OpenClaim := { program := "ytfklinjaajafgaagreatdoor", sum := "483059a104f3392ece61d3edb281321e2c58e0c07d584699ce10866b441ce626", func := "lenses/lenseslaw.All", spec := "all", inPlace := ["internal/bytealg.IndexByteString", "internal/reflectlite.TypeOf", "internal/abi.NoEscape"], unfollowed := true, recurses := true, named := ["lenses/reading.ErrLong", "lenses/reading.ErrSize", "lenses/reading.ErrSyntax", "lenses/programs.ErrType"], plainKeys := false, apart := false, laid := [("lenses/reading.ErrLong", laid_lenses_reading_ErrLong), ("lenses/reading.ErrSyntax", laid_lenses_reading_ErrSyntax), ("lenses/reading.ErrSize", laid_lenses_reading_ErrSize), ("lenses/programs.ErrType", laid_lenses_programs_ErrType)], narrowed := true }
def AllUptoSaid : Prop := allUptoRow.holds Tryz.pinned (OpenSpec.upto allSpec)

/-- 'lenseskeep.Round', WHERE WHAT IT READS IS OF BULK AT MOST 1048576: true; the input reads as it did. -/
def roundUptoRow : OpenClaim := { program := "ytfklinjaajafgaagreatdoor", sum := "483059a104f3392ece61d3edb281321e2c58e0c07d584699ce10866b441ce626", func := "lenses/lenseskeep.Round", spec := "round", inPlace := ["internal/bytealg.IndexByteString", "internal/abi.NoEscape", "internal/reflectlite.TypeOf"], unfollowed := true, recurses := true, named := ["lenses/reading.ErrLong", "lenses/reading.ErrSize", "lenses/reading.ErrSyntax", "lenses/programs.ErrType"], plainKeys := false, apart := false, laid := [("lenses/reading.ErrLong", laid_lenses_reading_ErrLong), ("lenses/reading.ErrSyntax", laid_lenses_reading_ErrSyntax), ("lenses/reading.ErrSize", laid_lenses_reading_ErrSize), ("lenses/programs.ErrType", laid_lenses_programs_ErrType)], narrowed := true }
def RoundUptoSaid : Prop := roundUptoRow.holds Tryz.pinned (OpenSpec.upto roundSpec)

/-- 'lenseskeep.Ships', WHERE WHAT IT READS IS OF BULK AT MOST 1048576: true; the input reads as it did. -/
def shipsUptoRow : OpenClaim := { program := "ytfklinjaajafgaagreatdoor", sum := "483059a104f3392ece61d3edb281321e2c58e0c07d584699ce10866b441ce626", func := "lenses/lenseskeep.Ships", spec := "ships", inPlace := ["internal/bytealg.IndexByteString", "internal/abi.NoEscape", "internal/reflectlite.TypeOf"], unfollowed := true, recurses := true, named := ["lenses/reading.ErrLong", "lenses/reading.ErrSize", "lenses/reading.ErrSyntax", "lenses/programs.ErrType"], plainKeys := false, apart := false, laid := [("lenses/reading.ErrLong", laid_lenses_reading_ErrLong), ("lenses/reading.ErrSyntax", laid_lenses_reading_ErrSyntax), ("lenses/reading.ErrSize", laid_lenses_reading_ErrSize), ("lenses/programs.ErrType", laid_lenses_programs_ErrType)], narrowed := true }
def ShipsUptoSaid : Prop := shipsUptoRow.holds Tryz.pinned (OpenSpec.upto shipsSpec)

/-- 'lenseskeep.Keyed', WHERE WHAT IT READS IS OF BULK AT MOST 1048576: true; the input reads as it did. -/
def keyedUptoRow : OpenClaim := { program := "ytfklinjaajafgaagreatdoor", sum := "483059a104f3392ece61d3edb281321e2c58e0c07d584699ce10866b441ce626", func := "lenses/lenseskeep.Keyed", spec := "keyed", inPlace := ["internal/bytealg.IndexByteString", "internal/abi.NoEscape", "internal/reflectlite.TypeOf"], unfollowed := true, recurses := true, named := ["lenses/reading.ErrLong", "lenses/reading.ErrSize", "lenses/reading.ErrSyntax", "lenses/programs.ErrType"], plainKeys := false, apart := false, laid := [("lenses/reading.ErrLong", laid_lenses_reading_ErrLong), ("lenses/reading.ErrSyntax", laid_lenses_reading_ErrSyntax), ("lenses/reading.ErrSize", laid_lenses_reading_ErrSize), ("lenses/programs.ErrType", laid_lenses_programs_ErrType)], narrowed := true }
def KeyedUptoSaid : Prop := keyedUptoRow.holds Tryz.pinned (OpenSpec.upto keyedSpec)

end Rows
end Go.Proofs.YtfklinjaajafgaaGreatDoor
