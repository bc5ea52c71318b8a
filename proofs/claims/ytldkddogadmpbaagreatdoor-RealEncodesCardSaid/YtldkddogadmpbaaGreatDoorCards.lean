/-
  DERIVED. GIVEN WITH THE SEED: THE CARDS: each row of YtldkddogadmpbaaGreatDoorRows.lean that lists a variable, with what it lists TIED to the program's text (the seventh form; the later family's looks); each row that meets fmt, with fmt's text TOLD by the authors' own Lean function (tested against real Go, not proved from fmt's source: count such statements apart). THE CARD IS WHAT COUNTS. Prove the row's statement (the work); the ties are given (YtldkddogadmpbaaGreatDoorTie.lean); close each card by the builder's one call (the guide's Derived/Test/ToyasCard.lean, 'card_holds'). Laid BY PROGRAM, IN A SANDBOX (cutbox-door.mjs). By AI agents, Wed Nov 11 2026. No macro, syntax, notation, axiom, sorry.
-/
import Derived.Test.YtldkddogadmpbaaGreatDoorRows
import GoSem.ClaimSeven
namespace Go.Proofs.YtldkddogadmpbaaGreatDoor
namespace Rows

/-- THE TIED CARD OF 'pelliclelaw05.RealEncodes'. -/
def realEncodesCard : Claim7 := { stood := { row := realEncodesRow, standIns := [], harness := (true, "be16d1bb87767c1b3c44c463b65922090edc8e2fd2d2314dd00e5cc72fb62702"), looks := false }, kinds := [], alts := [], laidByText := true, laidKinds := [.data], laidTests := true, laidLooks := .later }
def RealEncodesCardSaid : Prop := Claim7.holds Tryz.pinned (.plain (OpenSpec.ofChange realEncodesSpec)) realEncodesCard

/-- THE SECOND FORM's CARD OF 'pelliclelaw05.RealEncodes'. -/
def realEncodesUptoCard : Claim7 := { stood := { row := realEncodesUptoRow, standIns := [], harness := (true, "be16d1bb87767c1b3c44c463b65922090edc8e2fd2d2314dd00e5cc72fb62702"), looks := false }, kinds := [], alts := [], laidByText := true, laidKinds := [.data], laidTests := true, laidLooks := .later }
def RealEncodesUptoCardSaid : Prop := Claim7.holds Tryz.pinned (.plain (OpenSpec.upto realEncodesSpec)) realEncodesUptoCard
end Rows
end Go.Proofs.YtldkddogadmpbaaGreatDoor
