/-
  DERIVED. GIVEN WITH THE SEED: THE CARDS: each row of YtgbbdgioohaknaaGreatDoorRows.lean that lists a variable, with what it lists TIED to the program's text (the seventh form; the later family's looks); each row that meets fmt, with fmt's text TOLD by the authors' own Lean function (tested against real Go, not proved from fmt's source: count such statements apart). THE CARD IS WHAT COUNTS. Prove the row's statement (the work); the ties are given (YtgbbdgioohaknaaGreatDoorTie.lean); close each card by the builder's one call (the guide's Derived/Test/ToyasCard.lean, 'card_holds'). Laid BY PROGRAM, IN A SANDBOX (cutbox-door.mjs). By AI agents, Wed Nov 11 2026. No macro, syntax, notation, axiom, sorry.
-/
import Derived.Test.YtgbbdgioohaknaaGreatDoorRows
import GoSem.ClaimSeven
namespace Go.Proofs.YtgbbdgioohaknaaGreatDoor
namespace Rows

/-- THE TIED CARD OF 'pelliclelaw03.FracReads'. -/
def fracReadsCard : Claim7 := { stood := { row := fracReadsRow, standIns := [], harness := (true, "e2017952d98112515af73dacb0dc1d9e3034ab7a206391d4dece9c19585d5a3e"), looks := false }, kinds := [], alts := [], laidByText := true, laidKinds := [.data], laidTests := true, laidLooks := .later }
def FracReadsCardSaid : Prop := Claim7.holds Tryz.pinned (.plain (OpenSpec.ofChange fracReadsSpec)) fracReadsCard

/-- THE TIED CARD OF 'pelliclelaw03.FracMakes'. -/
def fracMakesCard : Claim7 := { stood := { row := fracMakesRow, standIns := [], harness := (true, "e2017952d98112515af73dacb0dc1d9e3034ab7a206391d4dece9c19585d5a3e"), looks := false }, kinds := [], alts := [], laidByText := true, laidKinds := [.data], laidTests := true, laidLooks := .later }
def FracMakesCardSaid : Prop := Claim7.holds Tryz.pinned (.plain (OpenSpec.ofChange fracMakesSpec)) fracMakesCard

/-- THE TIED CARD OF 'pelliclelaw03.FracReckons'. -/
def fracReckonsCard : Claim7 := { stood := { row := fracReckonsRow, standIns := [], harness := (true, "e2017952d98112515af73dacb0dc1d9e3034ab7a206391d4dece9c19585d5a3e"), looks := false }, kinds := [], alts := [], laidByText := true, laidKinds := [.data], laidTests := true, laidLooks := .later }
def FracReckonsCardSaid : Prop := Claim7.holds Tryz.pinned (.plain (OpenSpec.ofChange fracReckonsSpec)) fracReckonsCard

/-- THE TIED CARD OF 'pelliclelaw03.FracRounds'. -/
def fracRoundsCard : Claim7 := { stood := { row := fracRoundsRow, standIns := [], harness := (true, "e2017952d98112515af73dacb0dc1d9e3034ab7a206391d4dece9c19585d5a3e"), looks := false }, kinds := [], alts := [], laidByText := true, laidKinds := [.data], laidTests := true, laidLooks := .later }
def FracRoundsCardSaid : Prop := Claim7.holds Tryz.pinned (.plain (OpenSpec.ofChange fracRoundsSpec)) fracRoundsCard

/-- THE TIED CARD OF 'pelliclelaw03.FracEnds'. -/
def fracEndsCard : Claim7 := { stood := { row := fracEndsRow, standIns := [], harness := (true, "e2017952d98112515af73dacb0dc1d9e3034ab7a206391d4dece9c19585d5a3e"), looks := false }, kinds := [], alts := [], laidByText := true, laidKinds := [.data], laidTests := true, laidLooks := .later }
def FracEndsCardSaid : Prop := Claim7.holds Tryz.pinned (.plain (OpenSpec.ofChange fracEndsSpec)) fracEndsCard

/-- THE TIED CARD OF 'pelliclelaw03.FracField'. -/
def fracFieldCard : Claim7 := { stood := { row := fracFieldRow, standIns := [], harness := (true, "e2017952d98112515af73dacb0dc1d9e3034ab7a206391d4dece9c19585d5a3e"), looks := false }, kinds := [], alts := [], laidByText := true, laidKinds := [.data], laidTests := true, laidLooks := .later }
def FracFieldCardSaid : Prop := Claim7.holds Tryz.pinned (.plain (OpenSpec.ofChange fracFieldSpec)) fracFieldCard

/-- THE TIED CARD OF 'pelliclelaw03.FracBack'. -/
def fracBackCard : Claim7 := { stood := { row := fracBackRow, standIns := [], harness := (true, "e2017952d98112515af73dacb0dc1d9e3034ab7a206391d4dece9c19585d5a3e"), looks := false }, kinds := [], alts := [], laidByText := true, laidKinds := [.data], laidTests := true, laidLooks := .later }
def FracBackCardSaid : Prop := Claim7.holds Tryz.pinned (.plain (OpenSpec.ofChange fracBackSpec)) fracBackCard

/-- THE TIED CARD OF 'pelliclelaw03.FracStays'. -/
def fracStaysCard : Claim7 := { stood := { row := fracStaysRow, standIns := [], harness := (true, "e2017952d98112515af73dacb0dc1d9e3034ab7a206391d4dece9c19585d5a3e"), looks := false }, kinds := [], alts := [], laidByText := true, laidKinds := [.data], laidTests := true, laidLooks := .later }
def FracStaysCardSaid : Prop := Claim7.holds Tryz.pinned (.plain (OpenSpec.ofChange fracStaysSpec)) fracStaysCard

/-- THE SECOND FORM's CARD OF 'pelliclelaw03.FracReads'. -/
def fracReadsUptoCard : Claim7 := { stood := { row := fracReadsUptoRow, standIns := [], harness := (true, "e2017952d98112515af73dacb0dc1d9e3034ab7a206391d4dece9c19585d5a3e"), looks := false }, kinds := [], alts := [], laidByText := true, laidKinds := [.data], laidTests := true, laidLooks := .later }
def FracReadsUptoCardSaid : Prop := Claim7.holds Tryz.pinned (.plain (OpenSpec.upto fracReadsSpec)) fracReadsUptoCard

/-- THE SECOND FORM's CARD OF 'pelliclelaw03.FracMakes'. -/
def fracMakesUptoCard : Claim7 := { stood := { row := fracMakesUptoRow, standIns := [], harness := (true, "e2017952d98112515af73dacb0dc1d9e3034ab7a206391d4dece9c19585d5a3e"), looks := false }, kinds := [], alts := [], laidByText := true, laidKinds := [.data], laidTests := true, laidLooks := .later }
def FracMakesUptoCardSaid : Prop := Claim7.holds Tryz.pinned (.plain (OpenSpec.upto fracMakesSpec)) fracMakesUptoCard

/-- THE SECOND FORM's CARD OF 'pelliclelaw03.FracReckons'. -/
def fracReckonsUptoCard : Claim7 := { stood := { row := fracReckonsUptoRow, standIns := [], harness := (true, "e2017952d98112515af73dacb0dc1d9e3034ab7a206391d4dece9c19585d5a3e"), looks := false }, kinds := [], alts := [], laidByText := true, laidKinds := [.data], laidTests := true, laidLooks := .later }
def FracReckonsUptoCardSaid : Prop := Claim7.holds Tryz.pinned (.plain (OpenSpec.upto fracReckonsSpec)) fracReckonsUptoCard

/-- THE SECOND FORM's CARD OF 'pelliclelaw03.FracRounds'. -/
def fracRoundsUptoCard : Claim7 := { stood := { row := fracRoundsUptoRow, standIns := [], harness := (true, "e2017952d98112515af73dacb0dc1d9e3034ab7a206391d4dece9c19585d5a3e"), looks := false }, kinds := [], alts := [], laidByText := true, laidKinds := [.data], laidTests := true, laidLooks := .later }
def FracRoundsUptoCardSaid : Prop := Claim7.holds Tryz.pinned (.plain (OpenSpec.upto fracRoundsSpec)) fracRoundsUptoCard

/-- THE SECOND FORM's CARD OF 'pelliclelaw03.FracEnds'. -/
def fracEndsUptoCard : Claim7 := { stood := { row := fracEndsUptoRow, standIns := [], harness := (true, "e2017952d98112515af73dacb0dc1d9e3034ab7a206391d4dece9c19585d5a3e"), looks := false }, kinds := [], alts := [], laidByText := true, laidKinds := [.data], laidTests := true, laidLooks := .later }
def FracEndsUptoCardSaid : Prop := Claim7.holds Tryz.pinned (.plain (OpenSpec.upto fracEndsSpec)) fracEndsUptoCard

/-- THE SECOND FORM's CARD OF 'pelliclelaw03.FracField'. -/
def fracFieldUptoCard : Claim7 := { stood := { row := fracFieldUptoRow, standIns := [], harness := (true, "e2017952d98112515af73dacb0dc1d9e3034ab7a206391d4dece9c19585d5a3e"), looks := false }, kinds := [], alts := [], laidByText := true, laidKinds := [.data], laidTests := true, laidLooks := .later }
def FracFieldUptoCardSaid : Prop := Claim7.holds Tryz.pinned (.plain (OpenSpec.upto fracFieldSpec)) fracFieldUptoCard

/-- THE SECOND FORM's CARD OF 'pelliclelaw03.FracBack'. -/
def fracBackUptoCard : Claim7 := { stood := { row := fracBackUptoRow, standIns := [], harness := (true, "e2017952d98112515af73dacb0dc1d9e3034ab7a206391d4dece9c19585d5a3e"), looks := false }, kinds := [], alts := [], laidByText := true, laidKinds := [.data], laidTests := true, laidLooks := .later }
def FracBackUptoCardSaid : Prop := Claim7.holds Tryz.pinned (.plain (OpenSpec.upto fracBackSpec)) fracBackUptoCard

/-- THE SECOND FORM's CARD OF 'pelliclelaw03.FracStays'. -/
def fracStaysUptoCard : Claim7 := { stood := { row := fracStaysUptoRow, standIns := [], harness := (true, "e2017952d98112515af73dacb0dc1d9e3034ab7a206391d4dece9c19585d5a3e"), looks := false }, kinds := [], alts := [], laidByText := true, laidKinds := [.data], laidTests := true, laidLooks := .later }
def FracStaysUptoCardSaid : Prop := Claim7.holds Tryz.pinned (.plain (OpenSpec.upto fracStaysSpec)) fracStaysUptoCard
end Rows
end Go.Proofs.YtgbbdgioohaknaaGreatDoor
