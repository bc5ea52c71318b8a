/-
  NARROWER THAN 'FOR EVERY INPUT', by the rows' own cells (each row's printed sentence says how): WindBeside: laid · SplitPieces: laid · SplitApart: laid · SplitAgain: laid · SplitCovers: laid · SplitLong: laid.
  DERIVED. THE GIVEN ROWS OF THIS SEAT. 6 by the template 'for every input the law returns true; each argument reads behind the call as it read before'; 0 by the template 'total and deterministic' (their statements: YtamdnbbgpacfkaaGreatDoorTotals.lean).
  GIVEN WITH THE SEED: the statements are not yours to turn. If you find one false, say at which input.
  Laid BY PROGRAM, IN A SANDBOX (cutbox-rows.mjs): the forced cells as the released guide's own fill.sh prints them over the translation 3706a72d90d3845c… (all of the seat's roots in one cut). By AI agents, Wed Nov 11 2026. No macro, syntax, notation, axiom, sorry.
-/
import Derived.Test.YtamdnbbgpacfkaaGreatDoorChecked
import GoSem.Claim
import GoSem.ClaimJoined
import GoSem.ClaimMapViews
import Derived.JoinedTies
import Derived.KernelRfl
namespace Go.Proofs.YtamdnbbgpacfkaaGreatDoor
/- THE CELL 'sum', in the pinned program and in every row, IS THE sha256 OF THE DUMP (.gsa) THAT YtamdnbbgpacfkaaGreatDoorProg.lean LOADS. Nothing in Lean hashes anything: it is a label: what it is worth is what the hold of that sum in a sandbox is worth. -/
noncomputable def Tryz.pinned : Pinned := { name := "ytamdnbbgpacfkaagreatdoor", sum := "3706a72d90d3845cb96a0871344258213895d1cd9d076a72d997f934b80166c5", checked := Tryz.checked }
namespace Rows
def none {H : Type} : Left H := { results := [], args := [] }

/- WHAT THE LISTED PACKAGE-LEVEL VARIABLES READ AS WHEN THE CALL BEGINS. Each datum BY PROGRAM (the guide's laid-datum.mjs) off the statement by which the dump's own 'gosem.cut.vars' lays the variable. In a bare row this is a premise. The card (YtamdnbbgpacfkaaGreatDoorCards.lean) ties it to the program's text. -/
def laid_math_bits_deBruijn64tab {H : Type} : DataW H := .agg [.lit (.int .u8 0), .lit (.int .u8 1), .lit (.int .u8 56), .lit (.int .u8 2), .lit (.int .u8 57), .lit (.int .u8 49), .lit (.int .u8 28), .lit (.int .u8 3), .lit (.int .u8 61), .lit (.int .u8 58), .lit (.int .u8 42), .lit (.int .u8 50), .lit (.int .u8 38), .lit (.int .u8 29), .lit (.int .u8 17), .lit (.int .u8 4), .lit (.int .u8 62), .lit (.int .u8 47), .lit (.int .u8 59), .lit (.int .u8 36), .lit (.int .u8 45), .lit (.int .u8 43), .lit (.int .u8 51), .lit (.int .u8 22), .lit (.int .u8 53), .lit (.int .u8 39), .lit (.int .u8 33), .lit (.int .u8 30), .lit (.int .u8 24), .lit (.int .u8 18), .lit (.int .u8 12), .lit (.int .u8 5), .lit (.int .u8 63), .lit (.int .u8 55), .lit (.int .u8 48), .lit (.int .u8 27), .lit (.int .u8 60), .lit (.int .u8 41), .lit (.int .u8 37), .lit (.int .u8 16), .lit (.int .u8 46), .lit (.int .u8 35), .lit (.int .u8 44), .lit (.int .u8 21), .lit (.int .u8 52), .lit (.int .u8 32), .lit (.int .u8 23), .lit (.int .u8 11), .lit (.int .u8 54), .lit (.int .u8 26), .lit (.int .u8 40), .lit (.int .u8 15), .lit (.int .u8 34), .lit (.int .u8 20), .lit (.int .u8 31), .lit (.int .u8 10), .lit (.int .u8 25), .lit (.int .u8 14), .lit (.int .u8 19), .lit (.int .u8 9), .lit (.int .u8 13), .lit (.int .u8 8), .lit (.int .u8 7), .lit (.int .u8 6)]

/-- 'pelliclelaw13.WindBeside': WHATEVER THE INPUT: true; the input reads as it did. -/
def windBesideSpec : ChangeSpec := { name := "windBeside", fn := fun _ => fun
  | [d1, d2, d3] => { results := [.lit (.bool true)], args := [d1, d2, d3] }
  | _ => none }
def windBesideRow : OpenClaim := { program := "ytamdnbbgpacfkaagreatdoor", sum := "3706a72d90d3845cb96a0871344258213895d1cd9d076a72d997f934b80166c5", func := "pellicle/pelliclelaw13.WindBeside", spec := "windBeside", inPlace := ["math/bits.Add64", "math/bits.Sub64"], unfollowed := true, recurses := true, named := ["math/bits.divideError", "math/bits.overflowError", "math/bits.deBruijn64tab"], apart := false, laid := [("math/bits.deBruijn64tab", laid_math_bits_deBruijn64tab)] }
def WindBesideSaid : Prop := windBesideRow.holds Tryz.pinned (OpenSpec.ofChange windBesideSpec)

/-- ITS FALSE NEIGHBOUR: 'it returns false'. Refute it at one input. -/
def windBesideWrong : ChangeSpec := { name := "windBeside", fn := fun _ => fun
  | [d1, d2, d3] => { results := [.lit (.bool false)], args := [d1, d2, d3] }
  | _ => none }
def WindBesideWrongFalsely : Prop := windBesideRow.holds Tryz.pinned (OpenSpec.ofChange windBesideWrong)

/-- 'pelliclelaw14.SplitPieces': WHATEVER THE INPUT: true; the input reads as it did. -/
def splitPiecesSpec : ChangeSpec := { name := "splitPieces", fn := fun _ => fun
  | [d] => { results := [.lit (.bool true)], args := [d] }
  | _ => none }
def splitPiecesRow : OpenClaim := { program := "ytamdnbbgpacfkaagreatdoor", sum := "3706a72d90d3845cb96a0871344258213895d1cd9d076a72d997f934b80166c5", func := "pellicle/pelliclelaw14.SplitPieces", spec := "splitPieces", inPlace := ["math/bits.Add64", "math/bits.Sub64", "slices.overlaps[*pellicle/split.bar]"], unfollowed := true, recurses := true, named := ["math/bits.divideError", "math/bits.overflowError", "math/bits.deBruijn64tab"], apart := false, laid := [("math/bits.deBruijn64tab", laid_math_bits_deBruijn64tab)] }
def SplitPiecesSaid : Prop := splitPiecesRow.holds Tryz.pinned (OpenSpec.ofChange splitPiecesSpec)

/-- ITS FALSE NEIGHBOUR: 'it returns false'. Refute it at one input. -/
def splitPiecesWrong : ChangeSpec := { name := "splitPieces", fn := fun _ => fun
  | [d] => { results := [.lit (.bool false)], args := [d] }
  | _ => none }
def SplitPiecesWrongFalsely : Prop := splitPiecesRow.holds Tryz.pinned (OpenSpec.ofChange splitPiecesWrong)

/-- 'pelliclelaw14.SplitApart': WHATEVER THE INPUT: true; the input reads as it did. -/
def splitApartSpec : ChangeSpec := { name := "splitApart", fn := fun _ => fun
  | [d] => { results := [.lit (.bool true)], args := [d] }
  | _ => none }
def splitApartRow : OpenClaim := { program := "ytamdnbbgpacfkaagreatdoor", sum := "3706a72d90d3845cb96a0871344258213895d1cd9d076a72d997f934b80166c5", func := "pellicle/pelliclelaw14.SplitApart", spec := "splitApart", inPlace := ["math/bits.Add64", "math/bits.Sub64", "slices.overlaps[*pellicle/split.bar]"], unfollowed := true, recurses := true, named := ["math/bits.divideError", "math/bits.overflowError", "math/bits.deBruijn64tab"], apart := false, laid := [("math/bits.deBruijn64tab", laid_math_bits_deBruijn64tab)] }
def SplitApartSaid : Prop := splitApartRow.holds Tryz.pinned (OpenSpec.ofChange splitApartSpec)

/-- ITS FALSE NEIGHBOUR: 'it returns false'. Refute it at one input. -/
def splitApartWrong : ChangeSpec := { name := "splitApart", fn := fun _ => fun
  | [d] => { results := [.lit (.bool false)], args := [d] }
  | _ => none }
def SplitApartWrongFalsely : Prop := splitApartRow.holds Tryz.pinned (OpenSpec.ofChange splitApartWrong)

/-- 'pelliclelaw14.SplitAgain': WHATEVER THE INPUT: true; the input reads as it did. -/
def splitAgainSpec : ChangeSpec := { name := "splitAgain", fn := fun _ => fun
  | [d1, d2] => { results := [.lit (.bool true)], args := [d1, d2] }
  | _ => none }
def splitAgainRow : OpenClaim := { program := "ytamdnbbgpacfkaagreatdoor", sum := "3706a72d90d3845cb96a0871344258213895d1cd9d076a72d997f934b80166c5", func := "pellicle/pelliclelaw14.SplitAgain", spec := "splitAgain", inPlace := ["math/bits.Add64", "math/bits.Sub64", "slices.overlaps[*pellicle/split.bar]"], unfollowed := true, recurses := true, named := ["math/bits.divideError", "math/bits.overflowError", "math/bits.deBruijn64tab"], apart := false, laid := [("math/bits.deBruijn64tab", laid_math_bits_deBruijn64tab)] }
def SplitAgainSaid : Prop := splitAgainRow.holds Tryz.pinned (OpenSpec.ofChange splitAgainSpec)

/-- ITS FALSE NEIGHBOUR: 'it returns false'. Refute it at one input. -/
def splitAgainWrong : ChangeSpec := { name := "splitAgain", fn := fun _ => fun
  | [d1, d2] => { results := [.lit (.bool false)], args := [d1, d2] }
  | _ => none }
def SplitAgainWrongFalsely : Prop := splitAgainRow.holds Tryz.pinned (OpenSpec.ofChange splitAgainWrong)

/-- 'pelliclelaw14.SplitCovers': WHATEVER THE INPUT: true; the input reads as it did. -/
def splitCoversSpec : ChangeSpec := { name := "splitCovers", fn := fun _ => fun
  | [d1, d2] => { results := [.lit (.bool true)], args := [d1, d2] }
  | _ => none }
def splitCoversRow : OpenClaim := { program := "ytamdnbbgpacfkaagreatdoor", sum := "3706a72d90d3845cb96a0871344258213895d1cd9d076a72d997f934b80166c5", func := "pellicle/pelliclelaw14.SplitCovers", spec := "splitCovers", inPlace := ["math/bits.Add64", "math/bits.Sub64", "slices.overlaps[*pellicle/split.bar]"], unfollowed := true, recurses := true, named := ["math/bits.divideError", "math/bits.overflowError", "math/bits.deBruijn64tab"], apart := false, laid := [("math/bits.deBruijn64tab", laid_math_bits_deBruijn64tab)] }
def SplitCoversSaid : Prop := splitCoversRow.holds Tryz.pinned (OpenSpec.ofChange splitCoversSpec)

/-- ITS FALSE NEIGHBOUR: 'it returns false'. Refute it at one input. -/
def splitCoversWrong : ChangeSpec := { name := "splitCovers", fn := fun _ => fun
  | [d1, d2] => { results := [.lit (.bool false)], args := [d1, d2] }
  | _ => none }
def SplitCoversWrongFalsely : Prop := splitCoversRow.holds Tryz.pinned (OpenSpec.ofChange splitCoversWrong)

/-- 'pelliclelaw14.SplitLong': WHATEVER THE INPUT: true; the input reads as it did. -/
def splitLongSpec : ChangeSpec := { name := "splitLong", fn := fun _ => fun
  | [d] => { results := [.lit (.bool true)], args := [d] }
  | _ => none }
def splitLongRow : OpenClaim := { program := "ytamdnbbgpacfkaagreatdoor", sum := "3706a72d90d3845cb96a0871344258213895d1cd9d076a72d997f934b80166c5", func := "pellicle/pelliclelaw14.SplitLong", spec := "splitLong", inPlace := ["math/bits.Add64", "math/bits.Sub64", "slices.overlaps[*pellicle/split.bar]"], unfollowed := true, recurses := true, named := ["math/bits.divideError", "math/bits.overflowError", "math/bits.deBruijn64tab"], apart := false, laid := [("math/bits.deBruijn64tab", laid_math_bits_deBruijn64tab)] }
def SplitLongSaid : Prop := splitLongRow.holds Tryz.pinned (OpenSpec.ofChange splitLongSpec)

/-- ITS FALSE NEIGHBOUR: 'it returns false'. Refute it at one input. -/
def splitLongWrong : ChangeSpec := { name := "splitLong", fn := fun _ => fun
  | [d] => { results := [.lit (.bool false)], args := [d] }
  | _ => none }
def SplitLongWrongFalsely : Prop := splitLongRow.holds Tryz.pinned (OpenSpec.ofChange splitLongWrong)

/- THE SECOND FORM. 'bulk': how many values and letters a reading holds, each counted each time it is reached (what is shared counts as often as it is met; a slice's spare places count too). A statement '..UptoSaid' is the law's where the arguments, and the package variables that the reading takes, are together of bulk at most 1048576: NARROWER than '..Said'. Prove '..Said' where nothing that the law and all that it calls make is longer than what came in: it says more and counts as full. Else prove '..UptoSaid'. A law counts once. -/
mutual
def uptoBulk {H : Type} : DataW H → Nat
  | .lit (.string bytes) => bytes.length + 1
  | .lit _ => 1
  | .nil => 1
  | .ptr d => uptoBulk d + 1
  | .slice elems spare => uptoBulkAll elems + uptoBulkAll spare + 1
  | .agg parts => uptoBulkAll parts + 1
  | .iface _ d => uptoBulk d + 1
  | .map entries => uptoBulkEntries entries + 1
  | .held _ => 1
def uptoBulkAll {H : Type} : List (DataW H) → Nat
  | [] => 0
  | d :: r => uptoBulk d + uptoBulkAll r
def uptoBulkEntries {H : Type} : List (Lit × DataW H) → Nat
  | [] => 0
  | x :: r => uptoBulkEntry x + uptoBulkEntries r
def uptoBulkEntry {H : Type} : Lit × DataW H → Nat
  | (.string bytes, d) => bytes.length + uptoBulk d + 1
  | (_, d) => uptoBulk d + 1
 end
def uptoSmall : (H : Type) → List (DataW H) → Bool := fun _ ds => decide (uptoBulkAll ds ≤ 1048576)
def OpenSpec.upto (s : _root_.Go.ChangeSpec) : _root_.Go.OpenSpec := { _root_.Go.OpenSpec.ofChange s with cond := some uptoSmall }

/-- 'pelliclelaw13.WindBeside', WHERE WHAT IT READS IS OF BULK AT MOST 1048576: true; the input reads as it did. -/
def windBesideUptoRow : OpenClaim := { program := "ytamdnbbgpacfkaagreatdoor", sum := "3706a72d90d3845cb96a0871344258213895d1cd9d076a72d997f934b80166c5", func := "pellicle/pelliclelaw13.WindBeside", spec := "windBeside", inPlace := ["math/bits.Add64", "math/bits.Sub64"], unfollowed := true, recurses := true, named := ["math/bits.divideError", "math/bits.overflowError", "math/bits.deBruijn64tab"], apart := false, laid := [("math/bits.deBruijn64tab", laid_math_bits_deBruijn64tab)], narrowed := true }
def WindBesideUptoSaid : Prop := windBesideUptoRow.holds Tryz.pinned (OpenSpec.upto windBesideSpec)

/-- 'pelliclelaw14.SplitPieces', WHERE WHAT IT READS IS OF BULK AT MOST 1048576: true; the input reads as it did. -/
def splitPiecesUptoRow : OpenClaim := { program := "ytamdnbbgpacfkaagreatdoor", sum := "3706a72d90d3845cb96a0871344258213895d1cd9d076a72d997f934b80166c5", func := "pellicle/pelliclelaw14.SplitPieces", spec := "splitPieces", inPlace := ["math/bits.Add64", "math/bits.Sub64", "slices.overlaps[*pellicle/split.bar]"], unfollowed := true, recurses := true, named := ["math/bits.divideError", "math/bits.overflowError", "math/bits.deBruijn64tab"], apart := false, laid := [("math/bits.deBruijn64tab", laid_math_bits_deBruijn64tab)], narrowed := true }
def SplitPiecesUptoSaid : Prop := splitPiecesUptoRow.holds Tryz.pinned (OpenSpec.upto splitPiecesSpec)

/-- 'pelliclelaw14.SplitApart', WHERE WHAT IT READS IS OF BULK AT MOST 1048576: true; the input reads as it did. -/
def splitApartUptoRow : OpenClaim := { program := "ytamdnbbgpacfkaagreatdoor", sum := "3706a72d90d3845cb96a0871344258213895d1cd9d076a72d997f934b80166c5", func := "pellicle/pelliclelaw14.SplitApart", spec := "splitApart", inPlace := ["math/bits.Add64", "math/bits.Sub64", "slices.overlaps[*pellicle/split.bar]"], unfollowed := true, recurses := true, named := ["math/bits.divideError", "math/bits.overflowError", "math/bits.deBruijn64tab"], apart := false, laid := [("math/bits.deBruijn64tab", laid_math_bits_deBruijn64tab)], narrowed := true }
def SplitApartUptoSaid : Prop := splitApartUptoRow.holds Tryz.pinned (OpenSpec.upto splitApartSpec)

/-- 'pelliclelaw14.SplitAgain', WHERE WHAT IT READS IS OF BULK AT MOST 1048576: true; the input reads as it did. -/
def splitAgainUptoRow : OpenClaim := { program := "ytamdnbbgpacfkaagreatdoor", sum := "3706a72d90d3845cb96a0871344258213895d1cd9d076a72d997f934b80166c5", func := "pellicle/pelliclelaw14.SplitAgain", spec := "splitAgain", inPlace := ["math/bits.Add64", "math/bits.Sub64", "slices.overlaps[*pellicle/split.bar]"], unfollowed := true, recurses := true, named := ["math/bits.divideError", "math/bits.overflowError", "math/bits.deBruijn64tab"], apart := false, laid := [("math/bits.deBruijn64tab", laid_math_bits_deBruijn64tab)], narrowed := true }
def SplitAgainUptoSaid : Prop := splitAgainUptoRow.holds Tryz.pinned (OpenSpec.upto splitAgainSpec)

/-- 'pelliclelaw14.SplitCovers', WHERE WHAT IT READS IS OF BULK AT MOST 1048576: true; the input reads as it did. -/
def splitCoversUptoRow : OpenClaim := { program := "ytamdnbbgpacfkaagreatdoor", sum := "3706a72d90d3845cb96a0871344258213895d1cd9d076a72d997f934b80166c5", func := "pellicle/pelliclelaw14.SplitCovers", spec := "splitCovers", inPlace := ["math/bits.Add64", "math/bits.Sub64", "slices.overlaps[*pellicle/split.bar]"], unfollowed := true, recurses := true, named := ["math/bits.divideError", "math/bits.overflowError", "math/bits.deBruijn64tab"], apart := false, laid := [("math/bits.deBruijn64tab", laid_math_bits_deBruijn64tab)], narrowed := true }
def SplitCoversUptoSaid : Prop := splitCoversUptoRow.holds Tryz.pinned (OpenSpec.upto splitCoversSpec)

/-- 'pelliclelaw14.SplitLong', WHERE WHAT IT READS IS OF BULK AT MOST 1048576: true; the input reads as it did. -/
def splitLongUptoRow : OpenClaim := { program := "ytamdnbbgpacfkaagreatdoor", sum := "3706a72d90d3845cb96a0871344258213895d1cd9d076a72d997f934b80166c5", func := "pellicle/pelliclelaw14.SplitLong", spec := "splitLong", inPlace := ["math/bits.Add64", "math/bits.Sub64", "slices.overlaps[*pellicle/split.bar]"], unfollowed := true, recurses := true, named := ["math/bits.divideError", "math/bits.overflowError", "math/bits.deBruijn64tab"], apart := false, laid := [("math/bits.deBruijn64tab", laid_math_bits_deBruijn64tab)], narrowed := true }
def SplitLongUptoSaid : Prop := splitLongUptoRow.holds Tryz.pinned (OpenSpec.upto splitLongSpec)

end Rows
end Go.Proofs.YtamdnbbgpacfkaaGreatDoor
