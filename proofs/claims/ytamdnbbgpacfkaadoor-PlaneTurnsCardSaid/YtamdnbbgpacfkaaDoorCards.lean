/-
  DERIVED. GIVEN WITH THE SEED: THE CARDS: each row of YtamdnbbgpacfkaaDoorRows.lean that lists a variable, with what it lists TIED to the program's text (the seventh form; the later family's looks); each row that meets fmt, with fmt's text TOLD by the authors' own Lean function (tested against real Go, not proved from fmt's source: count such statements apart). THE CARD IS WHAT COUNTS. Prove the row's statement (the work); the ties are given (YtamdnbbgpacfkaaDoorTie.lean); close each card by the builder's one call (the guide's Derived/Test/ToyasCard.lean, 'card_holds'). Laid BY PROGRAM, IN A SANDBOX (cutbox-door.mjs). By AI agents, Wed Nov 11 2026. No macro, syntax, notation, axiom, sorry.
-/
import Derived.Test.YtamdnbbgpacfkaaDoorRows
import GoSem.ClaimSeven
namespace Go.Proofs.YtamdnbbgpacfkaaDoor
namespace Rows

/-- THE TIED CARD OF 'pelliclelaw11.PlaneTurns'. -/
def planeTurnsCard : Claim7 := { stood := { row := planeTurnsRow, standIns := [], harness := (true, "14b853d90adb9666b15716e33716899111d3e3e8d46a3b5dc4f145350a5a903b"), looks := false }, kinds := [], alts := [], laidByText := true, laidKinds := [.data], laidTests := true, laidLooks := .later }
def PlaneTurnsCardSaid : Prop := Claim7.holds Tryd.pinned (.plain (OpenSpec.ofChange planeTurnsSpec)) planeTurnsCard

/-- THE TIED CARD OF 'pelliclelaw13.WindBack'. -/
def windBackCard : Claim7 := { stood := { row := windBackRow, standIns := [], harness := (true, "14b853d90adb9666b15716e33716899111d3e3e8d46a3b5dc4f145350a5a903b"), looks := false }, kinds := [], alts := [], laidByText := true, laidKinds := [.data], laidTests := true, laidLooks := .later }
def WindBackCardSaid : Prop := Claim7.holds Tryd.pinned (.plain (OpenSpec.ofChange windBackSpec)) windBackCard

/-- THE TIED CARD OF 'pelliclelaw13.WindCuts'. -/
def windCutsCard : Claim7 := { stood := { row := windCutsRow, standIns := [], harness := (true, "14b853d90adb9666b15716e33716899111d3e3e8d46a3b5dc4f145350a5a903b"), looks := false }, kinds := [], alts := [], laidByText := true, laidKinds := [.data], laidTests := true, laidLooks := .later }
def WindCutsCardSaid : Prop := Claim7.holds Tryd.pinned (.plain (OpenSpec.ofChange windCutsSpec)) windCutsCard

/-- THE SECOND FORM's CARD OF 'pelliclelaw11.PlaneTurns'. -/
def planeTurnsUptoCard : Claim7 := { stood := { row := planeTurnsUptoRow, standIns := [], harness := (true, "14b853d90adb9666b15716e33716899111d3e3e8d46a3b5dc4f145350a5a903b"), looks := false }, kinds := [], alts := [], laidByText := true, laidKinds := [.data], laidTests := true, laidLooks := .later }
def PlaneTurnsUptoCardSaid : Prop := Claim7.holds Tryd.pinned (.plain (OpenSpec.upto planeTurnsSpec)) planeTurnsUptoCard

/-- THE SECOND FORM's CARD OF 'pelliclelaw13.WindBack'. -/
def windBackUptoCard : Claim7 := { stood := { row := windBackUptoRow, standIns := [], harness := (true, "14b853d90adb9666b15716e33716899111d3e3e8d46a3b5dc4f145350a5a903b"), looks := false }, kinds := [], alts := [], laidByText := true, laidKinds := [.data], laidTests := true, laidLooks := .later }
def WindBackUptoCardSaid : Prop := Claim7.holds Tryd.pinned (.plain (OpenSpec.upto windBackSpec)) windBackUptoCard

/-- THE SECOND FORM's CARD OF 'pelliclelaw13.WindCuts'. -/
def windCutsUptoCard : Claim7 := { stood := { row := windCutsUptoRow, standIns := [], harness := (true, "14b853d90adb9666b15716e33716899111d3e3e8d46a3b5dc4f145350a5a903b"), looks := false }, kinds := [], alts := [], laidByText := true, laidKinds := [.data], laidTests := true, laidLooks := .later }
def WindCutsUptoCardSaid : Prop := Claim7.holds Tryd.pinned (.plain (OpenSpec.upto windCutsSpec)) windCutsUptoCard
end Rows
end Go.Proofs.YtamdnbbgpacfkaaDoor
