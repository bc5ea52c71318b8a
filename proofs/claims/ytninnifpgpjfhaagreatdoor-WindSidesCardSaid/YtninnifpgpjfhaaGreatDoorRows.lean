/-
  NARROWER THAN 'FOR EVERY INPUT', by the rows' own cells (each row's printed sentence says how): PlaneAreas: laid · WindAround: laid · WindBeside: laid · WindSides: laid.
  DERIVED. THE GIVEN ROWS OF THIS SEAT. 4 by the template 'for every input the law returns true; each argument reads behind the call as it read before'; 0 by the template 'total and deterministic' (their statements: YtninnifpgpjfhaaGreatDoorTotals.lean).
  GIVEN WITH THE SEED: the statements are not yours to turn. If you find one false, say at which input.
  Laid BY PROGRAM, IN A SANDBOX (cutbox-rows.mjs): the forced cells as the released guide's own fill.sh prints them over the translation 32addb419e260a8d… (all of the seat's roots in one cut). By AI agents, Wed Nov 11 2026. No macro, syntax, notation, axiom, sorry.
-/
import Derived.Test.YtninnifpgpjfhaaGreatDoorChecked
import GoSem.Claim
import GoSem.ClaimJoined
import GoSem.ClaimMapViews
import Derived.JoinedTies
import Derived.KernelRfl
namespace Go.Proofs.YtninnifpgpjfhaaGreatDoor
/- THE CELL 'sum', in the pinned program and in every row, IS THE sha256 OF THE DUMP (.gsa) THAT YtninnifpgpjfhaaGreatDoorProg.lean LOADS. Nothing in Lean hashes anything: it is a label: what it is worth is what the hold of that sum in a sandbox is worth. -/
noncomputable def Tryz.pinned : Pinned := { name := "ytninnifpgpjfhaagreatdoor", sum := "32addb419e260a8d5cfeca8508a9b73a717a4f6e7ea5efd2dadb3cd3e05c820a", checked := Tryz.checked }
namespace Rows
def none {H : Type} : Left H := { results := [], args := [] }

/- WHAT THE LISTED PACKAGE-LEVEL VARIABLES READ AS WHEN THE CALL BEGINS. Each datum BY PROGRAM (the guide's laid-datum.mjs) off the statement by which the dump's own 'gosem.cut.vars' lays the variable. In a bare row this is a premise. The card (YtninnifpgpjfhaaGreatDoorCards.lean) ties it to the program's text. -/
def laid_math_bits_deBruijn64tab {H : Type} : DataW H := .agg [.lit (.int .u8 0), .lit (.int .u8 1), .lit (.int .u8 56), .lit (.int .u8 2), .lit (.int .u8 57), .lit (.int .u8 49), .lit (.int .u8 28), .lit (.int .u8 3), .lit (.int .u8 61), .lit (.int .u8 58), .lit (.int .u8 42), .lit (.int .u8 50), .lit (.int .u8 38), .lit (.int .u8 29), .lit (.int .u8 17), .lit (.int .u8 4), .lit (.int .u8 62), .lit (.int .u8 47), .lit (.int .u8 59), .lit (.int .u8 36), .lit (.int .u8 45), .lit (.int .u8 43), .lit (.int .u8 51), .lit (.int .u8 22), .lit (.int .u8 53), .lit (.int .u8 39), .lit (.int .u8 33), .lit (.int .u8 30), .lit (.int .u8 24), .lit (.int .u8 18), .lit (.int .u8 12), .lit (.int .u8 5), .lit (.int .u8 63), .lit (.int .u8 55), .lit (.int .u8 48), .lit (.int .u8 27), .lit (.int .u8 60), .lit (.int .u8 41), .lit (.int .u8 37), .lit (.int .u8 16), .lit (.int .u8 46), .lit (.int .u8 35), .lit (.int .u8 44), .lit (.int .u8 21), .lit (.int .u8 52), .lit (.int .u8 32), .lit (.int .u8 23), .lit (.int .u8 11), .lit (.int .u8 54), .lit (.int .u8 26), .lit (.int .u8 40), .lit (.int .u8 15), .lit (.int .u8 34), .lit (.int .u8 20), .lit (.int .u8 31), .lit (.int .u8 10), .lit (.int .u8 25), .lit (.int .u8 14), .lit (.int .u8 19), .lit (.int .u8 9), .lit (.int .u8 13), .lit (.int .u8 8), .lit (.int .u8 7), .lit (.int .u8 6)]

/-- 'pelliclelaw11.PlaneAreas': WHATEVER THE INPUT: true; the input reads as it did. -/
def planeAreasSpec : ChangeSpec := { name := "planeAreas", fn := fun _ => fun
  | [d] => { results := [.lit (.bool true)], args := [d] }
  | _ => none }
def planeAreasRow : OpenClaim := { program := "ytninnifpgpjfhaagreatdoor", sum := "32addb419e260a8d5cfeca8508a9b73a717a4f6e7ea5efd2dadb3cd3e05c820a", func := "pellicle/pelliclelaw11.PlaneAreas", spec := "planeAreas", inPlace := ["math/bits.Add64", "math/bits.Sub64"], unfollowed := true, recurses := true, named := ["math/bits.divideError", "math/bits.overflowError", "math/bits.deBruijn64tab"], apart := false, laid := [("math/bits.deBruijn64tab", laid_math_bits_deBruijn64tab)] }
def PlaneAreasSaid : Prop := planeAreasRow.holds Tryz.pinned (OpenSpec.ofChange planeAreasSpec)

/-- ITS FALSE NEIGHBOUR: 'it returns false'. Refute it at one input. -/
def planeAreasWrong : ChangeSpec := { name := "planeAreas", fn := fun _ => fun
  | [d] => { results := [.lit (.bool false)], args := [d] }
  | _ => none }
def PlaneAreasWrongFalsely : Prop := planeAreasRow.holds Tryz.pinned (OpenSpec.ofChange planeAreasWrong)

/-- 'pelliclelaw13.WindAround': WHATEVER THE INPUT: true; the input reads as it did. -/
def windAroundSpec : ChangeSpec := { name := "windAround", fn := fun _ => fun
  | [d1, d2] => { results := [.lit (.bool true)], args := [d1, d2] }
  | _ => none }
def windAroundRow : OpenClaim := { program := "ytninnifpgpjfhaagreatdoor", sum := "32addb419e260a8d5cfeca8508a9b73a717a4f6e7ea5efd2dadb3cd3e05c820a", func := "pellicle/pelliclelaw13.WindAround", spec := "windAround", inPlace := ["math/bits.Add64", "math/bits.Sub64"], unfollowed := true, recurses := true, named := ["math/bits.divideError", "math/bits.overflowError", "math/bits.deBruijn64tab"], apart := false, laid := [("math/bits.deBruijn64tab", laid_math_bits_deBruijn64tab)] }
def WindAroundSaid : Prop := windAroundRow.holds Tryz.pinned (OpenSpec.ofChange windAroundSpec)

/-- ITS FALSE NEIGHBOUR: 'it returns false'. Refute it at one input. -/
def windAroundWrong : ChangeSpec := { name := "windAround", fn := fun _ => fun
  | [d1, d2] => { results := [.lit (.bool false)], args := [d1, d2] }
  | _ => none }
def WindAroundWrongFalsely : Prop := windAroundRow.holds Tryz.pinned (OpenSpec.ofChange windAroundWrong)

/-- 'pelliclelaw13.WindBeside': WHATEVER THE INPUT: true; the input reads as it did. -/
def windBesideSpec : ChangeSpec := { name := "windBeside", fn := fun _ => fun
  | [d1, d2, d3] => { results := [.lit (.bool true)], args := [d1, d2, d3] }
  | _ => none }
def windBesideRow : OpenClaim := { program := "ytninnifpgpjfhaagreatdoor", sum := "32addb419e260a8d5cfeca8508a9b73a717a4f6e7ea5efd2dadb3cd3e05c820a", func := "pellicle/pelliclelaw13.WindBeside", spec := "windBeside", inPlace := ["math/bits.Add64", "math/bits.Sub64"], unfollowed := true, recurses := true, named := ["math/bits.divideError", "math/bits.overflowError", "math/bits.deBruijn64tab"], apart := false, laid := [("math/bits.deBruijn64tab", laid_math_bits_deBruijn64tab)] }
def WindBesideSaid : Prop := windBesideRow.holds Tryz.pinned (OpenSpec.ofChange windBesideSpec)

/-- ITS FALSE NEIGHBOUR: 'it returns false'. Refute it at one input. -/
def windBesideWrong : ChangeSpec := { name := "windBeside", fn := fun _ => fun
  | [d1, d2, d3] => { results := [.lit (.bool false)], args := [d1, d2, d3] }
  | _ => none }
def WindBesideWrongFalsely : Prop := windBesideRow.holds Tryz.pinned (OpenSpec.ofChange windBesideWrong)

/-- 'pelliclelaw13.WindSides': WHATEVER THE INPUT: true; the input reads as it did. -/
def windSidesSpec : ChangeSpec := { name := "windSides", fn := fun _ => fun
  | [d1, d2] => { results := [.lit (.bool true)], args := [d1, d2] }
  | _ => none }
def windSidesRow : OpenClaim := { program := "ytninnifpgpjfhaagreatdoor", sum := "32addb419e260a8d5cfeca8508a9b73a717a4f6e7ea5efd2dadb3cd3e05c820a", func := "pellicle/pelliclelaw13.WindSides", spec := "windSides", inPlace := ["math/bits.Add64", "math/bits.Sub64"], unfollowed := true, recurses := true, named := ["math/bits.divideError", "math/bits.overflowError", "math/bits.deBruijn64tab"], apart := false, laid := [("math/bits.deBruijn64tab", laid_math_bits_deBruijn64tab)] }
def WindSidesSaid : Prop := windSidesRow.holds Tryz.pinned (OpenSpec.ofChange windSidesSpec)

/-- ITS FALSE NEIGHBOUR: 'it returns false'. Refute it at one input. -/
def windSidesWrong : ChangeSpec := { name := "windSides", fn := fun _ => fun
  | [d1, d2] => { results := [.lit (.bool false)], args := [d1, d2] }
  | _ => none }
def WindSidesWrongFalsely : Prop := windSidesRow.holds Tryz.pinned (OpenSpec.ofChange windSidesWrong)

/- THE SECOND FORM. 'bulk': how many values and letters a reading holds, each counted each time it is reached (what is shared counts as often as it is met; a slice's spare places count too). A statement '..UptoSaid' is the law's where the arguments, and the package variables that the reading takes, are together of bulk at most 1048576: NARROWER than '..Said'. Prove '..Said' where nothing that the law and all that it calls make is longer than what came in: it says more and counts as full. Else prove '..UptoSaid'. A law counts once. -/
mutual
def uptoBulk {H : Type} : DataW H → Nat
  | .lit (.string bytes) => bytes.length + 1
  | .lit _ => 1
  | .nil => 1
  | .ptr d => uptoBulk d + 1
  | .slice elems spare => uptoBulkAll elems + uptoBulkAll spare + 1
  | .agg parts => uptoBulkAll parts + 1
  | .iface _ d => uptoBulk d + 1
  | .map entries => uptoBulkEntries entries + 1
  | .held _ => 1
def uptoBulkAll {H : Type} : List (DataW H) → Nat
  | [] => 0
  | d :: r => uptoBulk d + uptoBulkAll r
def uptoBulkEntries {H : Type} : List (Lit × DataW H) → Nat
  | [] => 0
  | x :: r => uptoBulkEntry x + uptoBulkEntries r
def uptoBulkEntry {H : Type} : Lit × DataW H → Nat
  | (.string bytes, d) => bytes.length + uptoBulk d + 1
  | (_, d) => uptoBulk d + 1
 end
def uptoSmall : (H : Type) → List (DataW H) → Bool := fun _ ds => decide (uptoBulkAll ds ≤ 1048576)
def OpenSpec.upto (s : _root_.Go.ChangeSpec) : _root_.Go.OpenSpec := { _root_.Go.OpenSpec.ofChange s with cond := some uptoSmall }

/-- 'pelliclelaw11.PlaneAreas', WHERE WHAT IT READS IS OF BULK AT MOST 1048576: true; the input reads as it did. -/
def planeAreasUptoRow : OpenClaim := { program := "ytninnifpgpjfhaagreatdoor", sum := "32addb419e260a8d5cfeca8508a9b73a717a4f6e7ea5efd2dadb3cd3e05c820a", func := "pellicle/pelliclelaw11.PlaneAreas", spec := "planeAreas", inPlace := ["math/bits.Add64", "math/bits.Sub64"], unfollowed := true, recurses := true, named := ["math/bits.divideError", "math/bits.overflowError", "math/bits.deBruijn64tab"], apart := false, laid := [("math/bits.deBruijn64tab", laid_math_bits_deBruijn64tab)], narrowed := true }
def PlaneAreasUptoSaid : Prop := planeAreasUptoRow.holds Tryz.pinned (OpenSpec.upto planeAreasSpec)

/-- 'pelliclelaw13.WindAround', WHERE WHAT IT READS IS OF BULK AT MOST 1048576: true; the input reads as it did. -/
def windAroundUptoRow : OpenClaim := { program := "ytninnifpgpjfhaagreatdoor", sum := "32addb419e260a8d5cfeca8508a9b73a717a4f6e7ea5efd2dadb3cd3e05c820a", func := "pellicle/pelliclelaw13.WindAround", spec := "windAround", inPlace := ["math/bits.Add64", "math/bits.Sub64"], unfollowed := true, recurses := true, named := ["math/bits.divideError", "math/bits.overflowError", "math/bits.deBruijn64tab"], apart := false, laid := [("math/bits.deBruijn64tab", laid_math_bits_deBruijn64tab)], narrowed := true }
def WindAroundUptoSaid : Prop := windAroundUptoRow.holds Tryz.pinned (OpenSpec.upto windAroundSpec)

/-- 'pelliclelaw13.WindBeside', WHERE WHAT IT READS IS OF BULK AT MOST 1048576: true; the input reads as it did. -/
def windBesideUptoRow : OpenClaim := { program := "ytninnifpgpjfhaagreatdoor", sum := "32addb419e260a8d5cfeca8508a9b73a717a4f6e7ea5efd2dadb3cd3e05c820a", func := "pellicle/pelliclelaw13.WindBeside", spec := "windBeside", inPlace := ["math/bits.Add64", "math/bits.Sub64"], unfollowed := true, recurses := true, named := ["math/bits.divideError", "math/bits.overflowError", "math/bits.deBruijn64tab"], apart := false, laid := [("math/bits.deBruijn64tab", laid_math_bits_deBruijn64tab)], narrowed := true }
def WindBesideUptoSaid : Prop := windBesideUptoRow.holds Tryz.pinned (OpenSpec.upto windBesideSpec)

/-- 'pelliclelaw13.WindSides', WHERE WHAT IT READS IS OF BULK AT MOST 1048576: true; the input reads as it did. -/
def windSidesUptoRow : OpenClaim := { program := "ytninnifpgpjfhaagreatdoor", sum := "32addb419e260a8d5cfeca8508a9b73a717a4f6e7ea5efd2dadb3cd3e05c820a", func := "pellicle/pelliclelaw13.WindSides", spec := "windSides", inPlace := ["math/bits.Add64", "math/bits.Sub64"], unfollowed := true, recurses := true, named := ["math/bits.divideError", "math/bits.overflowError", "math/bits.deBruijn64tab"], apart := false, laid := [("math/bits.deBruijn64tab", laid_math_bits_deBruijn64tab)], narrowed := true }
def WindSidesUptoSaid : Prop := windSidesUptoRow.holds Tryz.pinned (OpenSpec.upto windSidesSpec)

end Rows
end Go.Proofs.YtninnifpgpjfhaaGreatDoor
