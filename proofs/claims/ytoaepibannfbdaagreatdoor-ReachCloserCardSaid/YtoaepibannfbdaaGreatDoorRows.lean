/-
  NARROWER THAN 'FOR EVERY INPUT', by the rows' own cells (each row's printed sentence says how): PlaneAreas: laid · ReachPoints: laid · ReachEnds: laid · ReachCloser: laid · ReachBetween: laid · ReachStays: laid.
  DERIVED. THE GIVEN ROWS OF THIS SEAT. 6 by the template 'for every input the law returns true; each argument reads behind the call as it read before'; 0 by the template 'total and deterministic' (their statements: YtoaepibannfbdaaGreatDoorTotals.lean).
  GIVEN WITH THE SEED: the statements are not yours to turn. If you find one false, say at which input.
  Laid BY PROGRAM, IN A SANDBOX (cutbox-rows.mjs): the forced cells as the released guide's own fill.sh prints them over the translation 9bc611b017562f63… (all of the seat's roots in one cut). By AI agents, Wed Nov 11 2026. No macro, syntax, notation, axiom, sorry.
-/
import Derived.Test.YtoaepibannfbdaaGreatDoorChecked
import GoSem.Claim
import GoSem.ClaimJoined
import GoSem.ClaimMapViews
import Derived.JoinedTies
import Derived.KernelRfl
namespace Go.Proofs.YtoaepibannfbdaaGreatDoor
/- THE CELL 'sum', in the pinned program and in every row, IS THE sha256 OF THE DUMP (.gsa) THAT YtoaepibannfbdaaGreatDoorProg.lean LOADS. Nothing in Lean hashes anything: it is a label: what it is worth is what the hold of that sum in a sandbox is worth. -/
noncomputable def Tryz.pinned : Pinned := { name := "ytoaepibannfbdaagreatdoor", sum := "9bc611b017562f63a71167496f025f85c570d490afb3fbfa84524598675f97bd", checked := Tryz.checked }
namespace Rows
def none {H : Type} : Left H := { results := [], args := [] }

/- WHAT THE LISTED PACKAGE-LEVEL VARIABLES READ AS WHEN THE CALL BEGINS. Each datum BY PROGRAM (the guide's laid-datum.mjs) off the statement by which the dump's own 'gosem.cut.vars' lays the variable. In a bare row this is a premise. The card (YtoaepibannfbdaaGreatDoorCards.lean) ties it to the program's text. -/
def laid_math_bits_deBruijn64tab {H : Type} : DataW H := .agg [.lit (.int .u8 0), .lit (.int .u8 1), .lit (.int .u8 56), .lit (.int .u8 2), .lit (.int .u8 57), .lit (.int .u8 49), .lit (.int .u8 28), .lit (.int .u8 3), .lit (.int .u8 61), .lit (.int .u8 58), .lit (.int .u8 42), .lit (.int .u8 50), .lit (.int .u8 38), .lit (.int .u8 29), .lit (.int .u8 17), .lit (.int .u8 4), .lit (.int .u8 62), .lit (.int .u8 47), .lit (.int .u8 59), .lit (.int .u8 36), .lit (.int .u8 45), .lit (.int .u8 43), .lit (.int .u8 51), .lit (.int .u8 22), .lit (.int .u8 53), .lit (.int .u8 39), .lit (.int .u8 33), .lit (.int .u8 30), .lit (.int .u8 24), .lit (.int .u8 18), .lit (.int .u8 12), .lit (.int .u8 5), .lit (.int .u8 63), .lit (.int .u8 55), .lit (.int .u8 48), .lit (.int .u8 27), .lit (.int .u8 60), .lit (.int .u8 41), .lit (.int .u8 37), .lit (.int .u8 16), .lit (.int .u8 46), .lit (.int .u8 35), .lit (.int .u8 44), .lit (.int .u8 21), .lit (.int .u8 52), .lit (.int .u8 32), .lit (.int .u8 23), .lit (.int .u8 11), .lit (.int .u8 54), .lit (.int .u8 26), .lit (.int .u8 40), .lit (.int .u8 15), .lit (.int .u8 34), .lit (.int .u8 20), .lit (.int .u8 31), .lit (.int .u8 10), .lit (.int .u8 25), .lit (.int .u8 14), .lit (.int .u8 19), .lit (.int .u8 9), .lit (.int .u8 13), .lit (.int .u8 8), .lit (.int .u8 7), .lit (.int .u8 6)]

/-- 'pelliclelaw11.PlaneAreas': WHATEVER THE INPUT: true; the input reads as it did. -/
def planeAreasSpec : ChangeSpec := { name := "planeAreas", fn := fun _ => fun
  | [d] => { results := [.lit (.bool true)], args := [d] }
  | _ => none }
def planeAreasRow : OpenClaim := { program := "ytoaepibannfbdaagreatdoor", sum := "9bc611b017562f63a71167496f025f85c570d490afb3fbfa84524598675f97bd", func := "pellicle/pelliclelaw11.PlaneAreas", spec := "planeAreas", inPlace := ["math/bits.Add64", "math/bits.Sub64"], unfollowed := true, recurses := true, named := ["math/bits.divideError", "math/bits.overflowError", "math/bits.deBruijn64tab"], apart := false, laid := [("math/bits.deBruijn64tab", laid_math_bits_deBruijn64tab)] }
def PlaneAreasSaid : Prop := planeAreasRow.holds Tryz.pinned (OpenSpec.ofChange planeAreasSpec)

/-- ITS FALSE NEIGHBOUR: 'it returns false'. Refute it at one input. -/
def planeAreasWrong : ChangeSpec := { name := "planeAreas", fn := fun _ => fun
  | [d] => { results := [.lit (.bool false)], args := [d] }
  | _ => none }
def PlaneAreasWrongFalsely : Prop := planeAreasRow.holds Tryz.pinned (OpenSpec.ofChange planeAreasWrong)

/-- 'pelliclelaw12.ReachPoints': WHATEVER THE INPUT: true; the input reads as it did. -/
def reachPointsSpec : ChangeSpec := { name := "reachPoints", fn := fun _ => fun
  | [d1, d2, d3] => { results := [.lit (.bool true)], args := [d1, d2, d3] }
  | _ => none }
def reachPointsRow : OpenClaim := { program := "ytoaepibannfbdaagreatdoor", sum := "9bc611b017562f63a71167496f025f85c570d490afb3fbfa84524598675f97bd", func := "pellicle/pelliclelaw12.ReachPoints", spec := "reachPoints", inPlace := ["math/bits.Add64", "math/bits.Sub64"], unfollowed := true, recurses := true, named := ["math/bits.divideError", "math/bits.overflowError", "math/bits.deBruijn64tab"], apart := false, laid := [("math/bits.deBruijn64tab", laid_math_bits_deBruijn64tab)] }
def ReachPointsSaid : Prop := reachPointsRow.holds Tryz.pinned (OpenSpec.ofChange reachPointsSpec)

/-- ITS FALSE NEIGHBOUR: 'it returns false'. Refute it at one input. -/
def reachPointsWrong : ChangeSpec := { name := "reachPoints", fn := fun _ => fun
  | [d1, d2, d3] => { results := [.lit (.bool false)], args := [d1, d2, d3] }
  | _ => none }
def ReachPointsWrongFalsely : Prop := reachPointsRow.holds Tryz.pinned (OpenSpec.ofChange reachPointsWrong)

/-- 'pelliclelaw12.ReachEnds': WHATEVER THE INPUT: true; the input reads as it did. -/
def reachEndsSpec : ChangeSpec := { name := "reachEnds", fn := fun _ => fun
  | [d1, d2, d3, d4] => { results := [.lit (.bool true)], args := [d1, d2, d3, d4] }
  | _ => none }
def reachEndsRow : OpenClaim := { program := "ytoaepibannfbdaagreatdoor", sum := "9bc611b017562f63a71167496f025f85c570d490afb3fbfa84524598675f97bd", func := "pellicle/pelliclelaw12.ReachEnds", spec := "reachEnds", inPlace := ["math/bits.Add64", "math/bits.Sub64"], unfollowed := true, recurses := true, named := ["math/bits.divideError", "math/bits.overflowError", "math/bits.deBruijn64tab"], apart := false, laid := [("math/bits.deBruijn64tab", laid_math_bits_deBruijn64tab)] }
def ReachEndsSaid : Prop := reachEndsRow.holds Tryz.pinned (OpenSpec.ofChange reachEndsSpec)

/-- ITS FALSE NEIGHBOUR: 'it returns false'. Refute it at one input. -/
def reachEndsWrong : ChangeSpec := { name := "reachEnds", fn := fun _ => fun
  | [d1, d2, d3, d4] => { results := [.lit (.bool false)], args := [d1, d2, d3, d4] }
  | _ => none }
def ReachEndsWrongFalsely : Prop := reachEndsRow.holds Tryz.pinned (OpenSpec.ofChange reachEndsWrong)

/-- 'pelliclelaw12.ReachCloser': WHATEVER THE INPUT: true; the input reads as it did. -/
def reachCloserSpec : ChangeSpec := { name := "reachCloser", fn := fun _ => fun
  | [d1, d2, d3, d4, d5] => { results := [.lit (.bool true)], args := [d1, d2, d3, d4, d5] }
  | _ => none }
def reachCloserRow : OpenClaim := { program := "ytoaepibannfbdaagreatdoor", sum := "9bc611b017562f63a71167496f025f85c570d490afb3fbfa84524598675f97bd", func := "pellicle/pelliclelaw12.ReachCloser", spec := "reachCloser", inPlace := ["math/bits.Add64", "math/bits.Sub64"], unfollowed := true, recurses := true, named := ["math/bits.divideError", "math/bits.overflowError", "math/bits.deBruijn64tab"], apart := false, laid := [("math/bits.deBruijn64tab", laid_math_bits_deBruijn64tab)] }
def ReachCloserSaid : Prop := reachCloserRow.holds Tryz.pinned (OpenSpec.ofChange reachCloserSpec)

/-- ITS FALSE NEIGHBOUR: 'it returns false'. Refute it at one input. -/
def reachCloserWrong : ChangeSpec := { name := "reachCloser", fn := fun _ => fun
  | [d1, d2, d3, d4, d5] => { results := [.lit (.bool false)], args := [d1, d2, d3, d4, d5] }
  | _ => none }
def ReachCloserWrongFalsely : Prop := reachCloserRow.holds Tryz.pinned (OpenSpec.ofChange reachCloserWrong)

/-- 'pelliclelaw12.ReachBetween': WHATEVER THE INPUT: true; the input reads as it did. -/
def reachBetweenSpec : ChangeSpec := { name := "reachBetween", fn := fun _ => fun
  | [d1, d2, d3, d4, d5, d6, d7] => { results := [.lit (.bool true)], args := [d1, d2, d3, d4, d5, d6, d7] }
  | _ => none }
def reachBetweenRow : OpenClaim := { program := "ytoaepibannfbdaagreatdoor", sum := "9bc611b017562f63a71167496f025f85c570d490afb3fbfa84524598675f97bd", func := "pellicle/pelliclelaw12.ReachBetween", spec := "reachBetween", inPlace := ["math/bits.Add64", "math/bits.Sub64"], unfollowed := true, recurses := true, named := ["math/bits.divideError", "math/bits.overflowError", "math/bits.deBruijn64tab"], apart := false, laid := [("math/bits.deBruijn64tab", laid_math_bits_deBruijn64tab)] }
def ReachBetweenSaid : Prop := reachBetweenRow.holds Tryz.pinned (OpenSpec.ofChange reachBetweenSpec)

/-- ITS FALSE NEIGHBOUR: 'it returns false'. Refute it at one input. -/
def reachBetweenWrong : ChangeSpec := { name := "reachBetween", fn := fun _ => fun
  | [d1, d2, d3, d4, d5, d6, d7] => { results := [.lit (.bool false)], args := [d1, d2, d3, d4, d5, d6, d7] }
  | _ => none }
def ReachBetweenWrongFalsely : Prop := reachBetweenRow.holds Tryz.pinned (OpenSpec.ofChange reachBetweenWrong)

/-- 'pelliclelaw12.ReachStays': WHATEVER THE INPUT: true; the input reads as it did. -/
def reachStaysSpec : ChangeSpec := { name := "reachStays", fn := fun _ => fun
  | [d1, d2, d3, d4, d5, d6] => { results := [.lit (.bool true)], args := [d1, d2, d3, d4, d5, d6] }
  | _ => none }
def reachStaysRow : OpenClaim := { program := "ytoaepibannfbdaagreatdoor", sum := "9bc611b017562f63a71167496f025f85c570d490afb3fbfa84524598675f97bd", func := "pellicle/pelliclelaw12.ReachStays", spec := "reachStays", inPlace := ["math/bits.Add64", "math/bits.Sub64"], unfollowed := true, recurses := true, named := ["math/bits.divideError", "math/bits.overflowError", "math/bits.deBruijn64tab"], apart := false, laid := [("math/bits.deBruijn64tab", laid_math_bits_deBruijn64tab)] }
def ReachStaysSaid : Prop := reachStaysRow.holds Tryz.pinned (OpenSpec.ofChange reachStaysSpec)

/-- ITS FALSE NEIGHBOUR: 'it returns false'. Refute it at one input. -/
def reachStaysWrong : ChangeSpec := { name := "reachStays", fn := fun _ => fun
  | [d1, d2, d3, d4, d5, d6] => { results := [.lit (.bool false)], args := [d1, d2, d3, d4, d5, d6] }
  | _ => none }
def ReachStaysWrongFalsely : Prop := reachStaysRow.holds Tryz.pinned (OpenSpec.ofChange reachStaysWrong)

/- THE SECOND FORM. 'bulk': how many values and letters a reading holds, each counted each time it is reached (what is shared counts as often as it is met; a slice's spare places count too). A statement '..UptoSaid' is the law's where the arguments, and the package variables that the reading takes, are together of bulk at most 1048576: NARROWER than '..Said'. Prove '..Said' where nothing that the law and all that it calls make is longer than what came in: it says more and counts as full. Else prove '..UptoSaid'. A law counts once. -/
mutual
def uptoBulk {H : Type} : DataW H → Nat
  | .lit (.string bytes) => bytes.length + 1
  | .lit _ => 1
  | .nil => 1
  | .ptr d => uptoBulk d + 1
  | .slice elems spare => uptoBulkAll elems + uptoBulkAll spare + 1
  | .agg parts => uptoBulkAll parts + 1
  | .iface _ d => uptoBulk d + 1
  | .map entries => uptoBulkEntries entries + 1
  | .held _ => 1
def uptoBulkAll {H : Type} : List (DataW H) → Nat
  | [] => 0
  | d :: r => uptoBulk d + uptoBulkAll r
def uptoBulkEntries {H : Type} : List (Lit × DataW H) → Nat
  | [] => 0
  | x :: r => uptoBulkEntry x + uptoBulkEntries r
def uptoBulkEntry {H : Type} : Lit × DataW H → Nat
  | (.string bytes, d) => bytes.length + uptoBulk d + 1
  | (_, d) => uptoBulk d + 1
 end
def uptoSmall : (H : Type) → List (DataW H) → Bool := fun _ ds => decide (uptoBulkAll ds ≤ 1048576)
def OpenSpec.upto (s : _root_.Go.ChangeSpec) : _root_.Go.OpenSpec := { _root_.Go.OpenSpec.ofChange s with cond := some uptoSmall }

/-- 'pelliclelaw11.PlaneAreas', WHERE WHAT IT READS IS OF BULK AT MOST 1048576: true; the input reads as it did. -/
def planeAreasUptoRow : OpenClaim := { program := "ytoaepibannfbdaagreatdoor", sum := "9bc611b017562f63a71167496f025f85c570d490afb3fbfa84524598675f97bd", func := "pellicle/pelliclelaw11.PlaneAreas", spec := "planeAreas", inPlace := ["math/bits.Add64", "math/bits.Sub64"], unfollowed := true, recurses := true, named := ["math/bits.divideError", "math/bits.overflowError", "math/bits.deBruijn64tab"], apart := false, laid := [("math/bits.deBruijn64tab", laid_math_bits_deBruijn64tab)], narrowed := true }
def PlaneAreasUptoSaid : Prop := planeAreasUptoRow.holds Tryz.pinned (OpenSpec.upto planeAreasSpec)

/-- 'pelliclelaw12.ReachPoints', WHERE WHAT IT READS IS OF BULK AT MOST 1048576: true; the input reads as it did. -/
def reachPointsUptoRow : OpenClaim := { program := "ytoaepibannfbdaagreatdoor", sum := "9bc611b017562f63a71167496f025f85c570d490afb3fbfa84524598675f97bd", func := "pellicle/pelliclelaw12.ReachPoints", spec := "reachPoints", inPlace := ["math/bits.Add64", "math/bits.Sub64"], unfollowed := true, recurses := true, named := ["math/bits.divideError", "math/bits.overflowError", "math/bits.deBruijn64tab"], apart := false, laid := [("math/bits.deBruijn64tab", laid_math_bits_deBruijn64tab)], narrowed := true }
def ReachPointsUptoSaid : Prop := reachPointsUptoRow.holds Tryz.pinned (OpenSpec.upto reachPointsSpec)

/-- 'pelliclelaw12.ReachEnds', WHERE WHAT IT READS IS OF BULK AT MOST 1048576: true; the input reads as it did. -/
def reachEndsUptoRow : OpenClaim := { program := "ytoaepibannfbdaagreatdoor", sum := "9bc611b017562f63a71167496f025f85c570d490afb3fbfa84524598675f97bd", func := "pellicle/pelliclelaw12.ReachEnds", spec := "reachEnds", inPlace := ["math/bits.Add64", "math/bits.Sub64"], unfollowed := true, recurses := true, named := ["math/bits.divideError", "math/bits.overflowError", "math/bits.deBruijn64tab"], apart := false, laid := [("math/bits.deBruijn64tab", laid_math_bits_deBruijn64tab)], narrowed := true }
def ReachEndsUptoSaid : Prop := reachEndsUptoRow.holds Tryz.pinned (OpenSpec.upto reachEndsSpec)

/-- 'pelliclelaw12.ReachCloser', WHERE WHAT IT READS IS OF BULK AT MOST 1048576: true; the input reads as it did. -/
def reachCloserUptoRow : OpenClaim := { program := "ytoaepibannfbdaagreatdoor", sum := "9bc611b017562f63a71167496f025f85c570d490afb3fbfa84524598675f97bd", func := "pellicle/pelliclelaw12.ReachCloser", spec := "reachCloser", inPlace := ["math/bits.Add64", "math/bits.Sub64"], unfollowed := true, recurses := true, named := ["math/bits.divideError", "math/bits.overflowError", "math/bits.deBruijn64tab"], apart := false, laid := [("math/bits.deBruijn64tab", laid_math_bits_deBruijn64tab)], narrowed := true }
def ReachCloserUptoSaid : Prop := reachCloserUptoRow.holds Tryz.pinned (OpenSpec.upto reachCloserSpec)

/-- 'pelliclelaw12.ReachBetween', WHERE WHAT IT READS IS OF BULK AT MOST 1048576: true; the input reads as it did. -/
def reachBetweenUptoRow : OpenClaim := { program := "ytoaepibannfbdaagreatdoor", sum := "9bc611b017562f63a71167496f025f85c570d490afb3fbfa84524598675f97bd", func := "pellicle/pelliclelaw12.ReachBetween", spec := "reachBetween", inPlace := ["math/bits.Add64", "math/bits.Sub64"], unfollowed := true, recurses := true, named := ["math/bits.divideError", "math/bits.overflowError", "math/bits.deBruijn64tab"], apart := false, laid := [("math/bits.deBruijn64tab", laid_math_bits_deBruijn64tab)], narrowed := true }
def ReachBetweenUptoSaid : Prop := reachBetweenUptoRow.holds Tryz.pinned (OpenSpec.upto reachBetweenSpec)

/-- 'pelliclelaw12.ReachStays', WHERE WHAT IT READS IS OF BULK AT MOST 1048576: true; the input reads as it did. -/
def reachStaysUptoRow : OpenClaim := { program := "ytoaepibannfbdaagreatdoor", sum := "9bc611b017562f63a71167496f025f85c570d490afb3fbfa84524598675f97bd", func := "pellicle/pelliclelaw12.ReachStays", spec := "reachStays", inPlace := ["math/bits.Add64", "math/bits.Sub64"], unfollowed := true, recurses := true, named := ["math/bits.divideError", "math/bits.overflowError", "math/bits.deBruijn64tab"], apart := false, laid := [("math/bits.deBruijn64tab", laid_math_bits_deBruijn64tab)], narrowed := true }
def ReachStaysUptoSaid : Prop := reachStaysUptoRow.holds Tryz.pinned (OpenSpec.upto reachStaysSpec)

end Rows
end Go.Proofs.YtoaepibannfbdaaGreatDoor
