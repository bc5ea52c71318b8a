/-
  DERIVED. GIVEN WITH THE SEED: THE CARDS: each row of YtninnifpgpjfhaaGreatDoorRows.lean that lists a variable, with what it lists TIED to the program's text (the seventh form; the later family's looks); each row that meets fmt, with fmt's text TOLD by the authors' own Lean function (tested against real Go, not proved from fmt's source: count such statements apart). THE CARD IS WHAT COUNTS. Prove the row's statement (the work); the ties are given (YtninnifpgpjfhaaGreatDoorTie.lean); close each card by the builder's one call (the guide's Derived/Test/ToyasCard.lean, 'card_holds'). Laid BY PROGRAM, IN A SANDBOX (cutbox-door.mjs). By AI agents, Wed Nov 11 2026. No macro, syntax, notation, axiom, sorry.
-/
import Derived.Test.YtninnifpgpjfhaaGreatDoorRows
import GoSem.ClaimSeven
namespace Go.Proofs.YtninnifpgpjfhaaGreatDoor
namespace Rows

/-- THE TIED CARD OF 'pelliclelaw11.PlaneAreas'. -/
def planeAreasCard : Claim7 := { stood := { row := planeAreasRow, standIns := [], harness := (true, "993ee4fb68e7011a98de873563056adb2903b20c5b6a53cf1bd40b99da13f779"), looks := false }, kinds := [], alts := [], laidByText := true, laidKinds := [.data], laidTests := true, laidLooks := .later }
def PlaneAreasCardSaid : Prop := Claim7.holds Tryz.pinned (.plain (OpenSpec.ofChange planeAreasSpec)) planeAreasCard

/-- THE TIED CARD OF 'pelliclelaw13.WindAround'. -/
def windAroundCard : Claim7 := { stood := { row := windAroundRow, standIns := [], harness := (true, "993ee4fb68e7011a98de873563056adb2903b20c5b6a53cf1bd40b99da13f779"), looks := false }, kinds := [], alts := [], laidByText := true, laidKinds := [.data], laidTests := true, laidLooks := .later }
def WindAroundCardSaid : Prop := Claim7.holds Tryz.pinned (.plain (OpenSpec.ofChange windAroundSpec)) windAroundCard

/-- THE TIED CARD OF 'pelliclelaw13.WindBeside'. -/
def windBesideCard : Claim7 := { stood := { row := windBesideRow, standIns := [], harness := (true, "993ee4fb68e7011a98de873563056adb2903b20c5b6a53cf1bd40b99da13f779"), looks := false }, kinds := [], alts := [], laidByText := true, laidKinds := [.data], laidTests := true, laidLooks := .later }
def WindBesideCardSaid : Prop := Claim7.holds Tryz.pinned (.plain (OpenSpec.ofChange windBesideSpec)) windBesideCard

/-- THE TIED CARD OF 'pelliclelaw13.WindSides'. -/
def windSidesCard : Claim7 := { stood := { row := windSidesRow, standIns := [], harness := (true, "993ee4fb68e7011a98de873563056adb2903b20c5b6a53cf1bd40b99da13f779"), looks := false }, kinds := [], alts := [], laidByText := true, laidKinds := [.data], laidTests := true, laidLooks := .later }
def WindSidesCardSaid : Prop := Claim7.holds Tryz.pinned (.plain (OpenSpec.ofChange windSidesSpec)) windSidesCard

/-- THE SECOND FORM's CARD OF 'pelliclelaw11.PlaneAreas'. -/
def planeAreasUptoCard : Claim7 := { stood := { row := planeAreasUptoRow, standIns := [], harness := (true, "993ee4fb68e7011a98de873563056adb2903b20c5b6a53cf1bd40b99da13f779"), looks := false }, kinds := [], alts := [], laidByText := true, laidKinds := [.data], laidTests := true, laidLooks := .later }
def PlaneAreasUptoCardSaid : Prop := Claim7.holds Tryz.pinned (.plain (OpenSpec.upto planeAreasSpec)) planeAreasUptoCard

/-- THE SECOND FORM's CARD OF 'pelliclelaw13.WindAround'. -/
def windAroundUptoCard : Claim7 := { stood := { row := windAroundUptoRow, standIns := [], harness := (true, "993ee4fb68e7011a98de873563056adb2903b20c5b6a53cf1bd40b99da13f779"), looks := false }, kinds := [], alts := [], laidByText := true, laidKinds := [.data], laidTests := true, laidLooks := .later }
def WindAroundUptoCardSaid : Prop := Claim7.holds Tryz.pinned (.plain (OpenSpec.upto windAroundSpec)) windAroundUptoCard

/-- THE SECOND FORM's CARD OF 'pelliclelaw13.WindBeside'. -/
def windBesideUptoCard : Claim7 := { stood := { row := windBesideUptoRow, standIns := [], harness := (true, "993ee4fb68e7011a98de873563056adb2903b20c5b6a53cf1bd40b99da13f779"), looks := false }, kinds := [], alts := [], laidByText := true, laidKinds := [.data], laidTests := true, laidLooks := .later }
def WindBesideUptoCardSaid : Prop := Claim7.holds Tryz.pinned (.plain (OpenSpec.upto windBesideSpec)) windBesideUptoCard

/-- THE SECOND FORM's CARD OF 'pelliclelaw13.WindSides'. -/
def windSidesUptoCard : Claim7 := { stood := { row := windSidesUptoRow, standIns := [], harness := (true, "993ee4fb68e7011a98de873563056adb2903b20c5b6a53cf1bd40b99da13f779"), looks := false }, kinds := [], alts := [], laidByText := true, laidKinds := [.data], laidTests := true, laidLooks := .later }
def WindSidesUptoCardSaid : Prop := Claim7.holds Tryz.pinned (.plain (OpenSpec.upto windSidesSpec)) windSidesUptoCard
end Rows
end Go.Proofs.YtninnifpgpjfhaaGreatDoor
