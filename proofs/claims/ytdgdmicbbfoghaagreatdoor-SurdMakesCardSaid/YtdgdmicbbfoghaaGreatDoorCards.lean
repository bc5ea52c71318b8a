/-
  DERIVED. GIVEN WITH THE SEED: THE CARDS: each row of YtdgdmicbbfoghaaGreatDoorRows.lean that lists a variable, with what it lists TIED to the program's text (the seventh form; the later family's looks); each row that meets fmt, with fmt's text TOLD by the authors' own Lean function (tested against real Go, not proved from fmt's source: count such statements apart). THE CARD IS WHAT COUNTS. Prove the row's statement (the work); the ties are given (YtdgdmicbbfoghaaGreatDoorTie.lean); close each card by the builder's one call (the guide's Derived/Test/ToyasCard.lean, 'card_holds'). Laid BY PROGRAM, IN A SANDBOX (cutbox-door.mjs). By AI agents, Wed Nov 11 2026. No macro, syntax, notation, axiom, sorry.
-/
import Derived.Test.YtdgdmicbbfoghaaGreatDoorRows
import GoSem.ClaimSeven
namespace Go.Proofs.YtdgdmicbbfoghaaGreatDoor
namespace Rows

/-- THE TIED CARD OF 'pelliclelaw04.SurdMakes'. -/
def surdMakesCard : Claim7 := { stood := { row := surdMakesRow, standIns := [], harness := (true, "b78665ade811f502de8441fa7adef9370d79e7999b5ee19240dc48ba5cbf3b23"), looks := false }, kinds := [], alts := [], laidByText := true, laidKinds := [.data], laidTests := true, laidLooks := .later }
def SurdMakesCardSaid : Prop := Claim7.holds Tryz.pinned (.plain (OpenSpec.ofChange surdMakesSpec)) surdMakesCard

/-- THE TIED CARD OF 'pelliclelaw04.SurdReckons'. -/
def surdReckonsCard : Claim7 := { stood := { row := surdReckonsRow, standIns := [], harness := (true, "b78665ade811f502de8441fa7adef9370d79e7999b5ee19240dc48ba5cbf3b23"), looks := false }, kinds := [], alts := [], laidByText := true, laidKinds := [.data], laidTests := true, laidLooks := .later }
def SurdReckonsCardSaid : Prop := Claim7.holds Tryz.pinned (.plain (OpenSpec.ofChange surdReckonsSpec)) surdReckonsCard

/-- THE TIED CARD OF 'pelliclelaw04.SurdSigns'. -/
def surdSignsCard : Claim7 := { stood := { row := surdSignsRow, standIns := [], harness := (true, "b78665ade811f502de8441fa7adef9370d79e7999b5ee19240dc48ba5cbf3b23"), looks := false }, kinds := [], alts := [], laidByText := true, laidKinds := [.data], laidTests := true, laidLooks := .later }
def SurdSignsCardSaid : Prop := Claim7.holds Tryz.pinned (.plain (OpenSpec.ofChange surdSignsSpec)) surdSignsCard

/-- THE TIED CARD OF 'pelliclelaw04.SurdRounds'. -/
def surdRoundsCard : Claim7 := { stood := { row := surdRoundsRow, standIns := [], harness := (true, "b78665ade811f502de8441fa7adef9370d79e7999b5ee19240dc48ba5cbf3b23"), looks := false }, kinds := [], alts := [], laidByText := true, laidKinds := [.data], laidTests := true, laidLooks := .later }
def SurdRoundsCardSaid : Prop := Claim7.holds Tryz.pinned (.plain (OpenSpec.ofChange surdRoundsSpec)) surdRoundsCard

/-- THE TIED CARD OF 'pelliclelaw04.SurdRoots'. -/
def surdRootsCard : Claim7 := { stood := { row := surdRootsRow, standIns := [], harness := (true, "b78665ade811f502de8441fa7adef9370d79e7999b5ee19240dc48ba5cbf3b23"), looks := false }, kinds := [], alts := [], laidByText := true, laidKinds := [.data], laidTests := true, laidLooks := .later }
def SurdRootsCardSaid : Prop := Claim7.holds Tryz.pinned (.plain (OpenSpec.ofChange surdRootsSpec)) surdRootsCard

/-- THE TIED CARD OF 'pelliclelaw04.SurdNears'. -/
def surdNearsCard : Claim7 := { stood := { row := surdNearsRow, standIns := [], harness := (true, "b78665ade811f502de8441fa7adef9370d79e7999b5ee19240dc48ba5cbf3b23"), looks := false }, kinds := [], alts := [], laidByText := true, laidKinds := [.data], laidTests := true, laidLooks := .later }
def SurdNearsCardSaid : Prop := Claim7.holds Tryz.pinned (.plain (OpenSpec.ofChange surdNearsSpec)) surdNearsCard

/-- THE SECOND FORM's CARD OF 'pelliclelaw04.SurdMakes'. -/
def surdMakesUptoCard : Claim7 := { stood := { row := surdMakesUptoRow, standIns := [], harness := (true, "b78665ade811f502de8441fa7adef9370d79e7999b5ee19240dc48ba5cbf3b23"), looks := false }, kinds := [], alts := [], laidByText := true, laidKinds := [.data], laidTests := true, laidLooks := .later }
def SurdMakesUptoCardSaid : Prop := Claim7.holds Tryz.pinned (.plain (OpenSpec.upto surdMakesSpec)) surdMakesUptoCard

/-- THE SECOND FORM's CARD OF 'pelliclelaw04.SurdReckons'. -/
def surdReckonsUptoCard : Claim7 := { stood := { row := surdReckonsUptoRow, standIns := [], harness := (true, "b78665ade811f502de8441fa7adef9370d79e7999b5ee19240dc48ba5cbf3b23"), looks := false }, kinds := [], alts := [], laidByText := true, laidKinds := [.data], laidTests := true, laidLooks := .later }
def SurdReckonsUptoCardSaid : Prop := Claim7.holds Tryz.pinned (.plain (OpenSpec.upto surdReckonsSpec)) surdReckonsUptoCard

/-- THE SECOND FORM's CARD OF 'pelliclelaw04.SurdSigns'. -/
def surdSignsUptoCard : Claim7 := { stood := { row := surdSignsUptoRow, standIns := [], harness := (true, "b78665ade811f502de8441fa7adef9370d79e7999b5ee19240dc48ba5cbf3b23"), looks := false }, kinds := [], alts := [], laidByText := true, laidKinds := [.data], laidTests := true, laidLooks := .later }
def SurdSignsUptoCardSaid : Prop := Claim7.holds Tryz.pinned (.plain (OpenSpec.upto surdSignsSpec)) surdSignsUptoCard

/-- THE SECOND FORM's CARD OF 'pelliclelaw04.SurdRounds'. -/
def surdRoundsUptoCard : Claim7 := { stood := { row := surdRoundsUptoRow, standIns := [], harness := (true, "b78665ade811f502de8441fa7adef9370d79e7999b5ee19240dc48ba5cbf3b23"), looks := false }, kinds := [], alts := [], laidByText := true, laidKinds := [.data], laidTests := true, laidLooks := .later }
def SurdRoundsUptoCardSaid : Prop := Claim7.holds Tryz.pinned (.plain (OpenSpec.upto surdRoundsSpec)) surdRoundsUptoCard

/-- THE SECOND FORM's CARD OF 'pelliclelaw04.SurdRoots'. -/
def surdRootsUptoCard : Claim7 := { stood := { row := surdRootsUptoRow, standIns := [], harness := (true, "b78665ade811f502de8441fa7adef9370d79e7999b5ee19240dc48ba5cbf3b23"), looks := false }, kinds := [], alts := [], laidByText := true, laidKinds := [.data], laidTests := true, laidLooks := .later }
def SurdRootsUptoCardSaid : Prop := Claim7.holds Tryz.pinned (.plain (OpenSpec.upto surdRootsSpec)) surdRootsUptoCard

/-- THE SECOND FORM's CARD OF 'pelliclelaw04.SurdNears'. -/
def surdNearsUptoCard : Claim7 := { stood := { row := surdNearsUptoRow, standIns := [], harness := (true, "b78665ade811f502de8441fa7adef9370d79e7999b5ee19240dc48ba5cbf3b23"), looks := false }, kinds := [], alts := [], laidByText := true, laidKinds := [.data], laidTests := true, laidLooks := .later }
def SurdNearsUptoCardSaid : Prop := Claim7.holds Tryz.pinned (.plain (OpenSpec.upto surdNearsSpec)) surdNearsUptoCard
end Rows
end Go.Proofs.YtdgdmicbbfoghaaGreatDoor
