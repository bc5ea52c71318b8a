/-
  DERIVED. GIVEN WITH THE SEED: THE CARDS: each row of YthbhgcaemcobeaaGreatDoorRows.lean that lists a variable, with what it lists TIED to the program's text (the seventh form; the later family's looks); each row that meets fmt, with fmt's text TOLD by the authors' own Lean function (tested against real Go, not proved from fmt's source: count such statements apart). THE CARD IS WHAT COUNTS. Prove the row's statement (the work); the ties are given (YthbhgcaemcobeaaGreatDoorTie.lean); close each card by the builder's one call (the guide's Derived/Test/ToyasCard.lean, 'card_holds'). Laid BY PROGRAM, IN A SANDBOX (cutbox-door.mjs). By AI agents, Wed Nov 11 2026. No macro, syntax, notation, axiom, sorry.
-/
import Derived.Test.YthbhgcaemcobeaaGreatDoorRows
import GoSem.ClaimSeven
namespace Go.Proofs.YthbhgcaemcobeaaGreatDoor
namespace Rows

/-- THE TIED CARD OF 'pelliclelaw11.PlanePoints'. -/
def planePointsCard : Claim7 := { stood := { row := planePointsRow, standIns := [], harness := (true, "72e287a1ac0d5779fea7e6485f418136386e008df7a78afa8a37d04223d8c23c"), looks := false }, kinds := [], alts := [], laidByText := true, laidKinds := [.data], laidTests := true, laidLooks := .later }
def PlanePointsCardSaid : Prop := Claim7.holds Tryz.pinned (.plain (OpenSpec.ofChange planePointsSpec)) planePointsCard

/-- THE TIED CARD OF 'pelliclelaw11.PlaneMeets'. -/
def planeMeetsCard : Claim7 := { stood := { row := planeMeetsRow, standIns := [], harness := (true, "72e287a1ac0d5779fea7e6485f418136386e008df7a78afa8a37d04223d8c23c"), looks := false }, kinds := [], alts := [], laidByText := true, laidKinds := [.data], laidTests := true, laidLooks := .later }
def PlaneMeetsCardSaid : Prop := Claim7.holds Tryz.pinned (.plain (OpenSpec.ofChange planeMeetsSpec)) planeMeetsCard

/-- THE TIED CARD OF 'pelliclelaw11.PlaneClips'. -/
def planeClipsCard : Claim7 := { stood := { row := planeClipsRow, standIns := [], harness := (true, "72e287a1ac0d5779fea7e6485f418136386e008df7a78afa8a37d04223d8c23c"), looks := false }, kinds := [], alts := [], laidByText := true, laidKinds := [.data], laidTests := true, laidLooks := .later }
def PlaneClipsCardSaid : Prop := Claim7.holds Tryz.pinned (.plain (OpenSpec.ofChange planeClipsSpec)) planeClipsCard

/-- THE TIED CARD OF 'pelliclelaw11.PlaneAreas'. -/
def planeAreasCard : Claim7 := { stood := { row := planeAreasRow, standIns := [], harness := (true, "72e287a1ac0d5779fea7e6485f418136386e008df7a78afa8a37d04223d8c23c"), looks := false }, kinds := [], alts := [], laidByText := true, laidKinds := [.data], laidTests := true, laidLooks := .later }
def PlaneAreasCardSaid : Prop := Claim7.holds Tryz.pinned (.plain (OpenSpec.ofChange planeAreasSpec)) planeAreasCard

/-- THE TIED CARD OF 'pelliclelaw11.PlaneShares'. -/
def planeSharesCard : Claim7 := { stood := { row := planeSharesRow, standIns := [], harness := (true, "72e287a1ac0d5779fea7e6485f418136386e008df7a78afa8a37d04223d8c23c"), looks := false }, kinds := [], alts := [], laidByText := true, laidKinds := [.data], laidTests := true, laidLooks := .later }
def PlaneSharesCardSaid : Prop := Claim7.holds Tryz.pinned (.plain (OpenSpec.ofChange planeSharesSpec)) planeSharesCard

/-- THE TIED CARD OF 'pelliclelaw11.PlaneParts'. -/
def planePartsCard : Claim7 := { stood := { row := planePartsRow, standIns := [], harness := (true, "72e287a1ac0d5779fea7e6485f418136386e008df7a78afa8a37d04223d8c23c"), looks := false }, kinds := [], alts := [], laidByText := true, laidKinds := [.data], laidTests := true, laidLooks := .later }
def PlanePartsCardSaid : Prop := Claim7.holds Tryz.pinned (.plain (OpenSpec.ofChange planePartsSpec)) planePartsCard

/-- THE SECOND FORM's CARD OF 'pelliclelaw11.PlanePoints'. -/
def planePointsUptoCard : Claim7 := { stood := { row := planePointsUptoRow, standIns := [], harness := (true, "72e287a1ac0d5779fea7e6485f418136386e008df7a78afa8a37d04223d8c23c"), looks := false }, kinds := [], alts := [], laidByText := true, laidKinds := [.data], laidTests := true, laidLooks := .later }
def PlanePointsUptoCardSaid : Prop := Claim7.holds Tryz.pinned (.plain (OpenSpec.upto planePointsSpec)) planePointsUptoCard

/-- THE SECOND FORM's CARD OF 'pelliclelaw11.PlaneMeets'. -/
def planeMeetsUptoCard : Claim7 := { stood := { row := planeMeetsUptoRow, standIns := [], harness := (true, "72e287a1ac0d5779fea7e6485f418136386e008df7a78afa8a37d04223d8c23c"), looks := false }, kinds := [], alts := [], laidByText := true, laidKinds := [.data], laidTests := true, laidLooks := .later }
def PlaneMeetsUptoCardSaid : Prop := Claim7.holds Tryz.pinned (.plain (OpenSpec.upto planeMeetsSpec)) planeMeetsUptoCard

/-- THE SECOND FORM's CARD OF 'pelliclelaw11.PlaneClips'. -/
def planeClipsUptoCard : Claim7 := { stood := { row := planeClipsUptoRow, standIns := [], harness := (true, "72e287a1ac0d5779fea7e6485f418136386e008df7a78afa8a37d04223d8c23c"), looks := false }, kinds := [], alts := [], laidByText := true, laidKinds := [.data], laidTests := true, laidLooks := .later }
def PlaneClipsUptoCardSaid : Prop := Claim7.holds Tryz.pinned (.plain (OpenSpec.upto planeClipsSpec)) planeClipsUptoCard

/-- THE SECOND FORM's CARD OF 'pelliclelaw11.PlaneAreas'. -/
def planeAreasUptoCard : Claim7 := { stood := { row := planeAreasUptoRow, standIns := [], harness := (true, "72e287a1ac0d5779fea7e6485f418136386e008df7a78afa8a37d04223d8c23c"), looks := false }, kinds := [], alts := [], laidByText := true, laidKinds := [.data], laidTests := true, laidLooks := .later }
def PlaneAreasUptoCardSaid : Prop := Claim7.holds Tryz.pinned (.plain (OpenSpec.upto planeAreasSpec)) planeAreasUptoCard

/-- THE SECOND FORM's CARD OF 'pelliclelaw11.PlaneShares'. -/
def planeSharesUptoCard : Claim7 := { stood := { row := planeSharesUptoRow, standIns := [], harness := (true, "72e287a1ac0d5779fea7e6485f418136386e008df7a78afa8a37d04223d8c23c"), looks := false }, kinds := [], alts := [], laidByText := true, laidKinds := [.data], laidTests := true, laidLooks := .later }
def PlaneSharesUptoCardSaid : Prop := Claim7.holds Tryz.pinned (.plain (OpenSpec.upto planeSharesSpec)) planeSharesUptoCard

/-- THE SECOND FORM's CARD OF 'pelliclelaw11.PlaneParts'. -/
def planePartsUptoCard : Claim7 := { stood := { row := planePartsUptoRow, standIns := [], harness := (true, "72e287a1ac0d5779fea7e6485f418136386e008df7a78afa8a37d04223d8c23c"), looks := false }, kinds := [], alts := [], laidByText := true, laidKinds := [.data], laidTests := true, laidLooks := .later }
def PlanePartsUptoCardSaid : Prop := Claim7.holds Tryz.pinned (.plain (OpenSpec.upto planePartsSpec)) planePartsUptoCard
end Rows
end Go.Proofs.YthbhgcaemcobeaaGreatDoor
