/-
  DERIVED. GIVEN WITH THE SEED: THE CARDS: each row of YtoaepibannfbdaaGreatDoorRows.lean that lists a variable, with what it lists TIED to the program's text (the seventh form; the later family's looks); each row that meets fmt, with fmt's text TOLD by the authors' own Lean function (tested against real Go, not proved from fmt's source: count such statements apart). THE CARD IS WHAT COUNTS. Prove the row's statement (the work); the ties are given (YtoaepibannfbdaaGreatDoorTie.lean); close each card by the builder's one call (the guide's Derived/Test/ToyasCard.lean, 'card_holds'). Laid BY PROGRAM, IN A SANDBOX (cutbox-door.mjs). By AI agents, Wed Nov 11 2026. No macro, syntax, notation, axiom, sorry.
-/
import Derived.Test.YtoaepibannfbdaaGreatDoorRows
import GoSem.ClaimSeven
namespace Go.Proofs.YtoaepibannfbdaaGreatDoor
namespace Rows

/-- THE TIED CARD OF 'pelliclelaw11.PlaneAreas'. -/
def planeAreasCard : Claim7 := { stood := { row := planeAreasRow, standIns := [], harness := (true, "392f29b9bbd4232d0516feefd95bf7ab58bc1e1ce737dc78565fb445e4167245"), looks := false }, kinds := [], alts := [], laidByText := true, laidKinds := [.data], laidTests := true, laidLooks := .later }
def PlaneAreasCardSaid : Prop := Claim7.holds Tryz.pinned (.plain (OpenSpec.ofChange planeAreasSpec)) planeAreasCard

/-- THE TIED CARD OF 'pelliclelaw12.ReachPoints'. -/
def reachPointsCard : Claim7 := { stood := { row := reachPointsRow, standIns := [], harness := (true, "392f29b9bbd4232d0516feefd95bf7ab58bc1e1ce737dc78565fb445e4167245"), looks := false }, kinds := [], alts := [], laidByText := true, laidKinds := [.data], laidTests := true, laidLooks := .later }
def ReachPointsCardSaid : Prop := Claim7.holds Tryz.pinned (.plain (OpenSpec.ofChange reachPointsSpec)) reachPointsCard

/-- THE TIED CARD OF 'pelliclelaw12.ReachEnds'. -/
def reachEndsCard : Claim7 := { stood := { row := reachEndsRow, standIns := [], harness := (true, "392f29b9bbd4232d0516feefd95bf7ab58bc1e1ce737dc78565fb445e4167245"), looks := false }, kinds := [], alts := [], laidByText := true, laidKinds := [.data], laidTests := true, laidLooks := .later }
def ReachEndsCardSaid : Prop := Claim7.holds Tryz.pinned (.plain (OpenSpec.ofChange reachEndsSpec)) reachEndsCard

/-- THE TIED CARD OF 'pelliclelaw12.ReachCloser'. -/
def reachCloserCard : Claim7 := { stood := { row := reachCloserRow, standIns := [], harness := (true, "392f29b9bbd4232d0516feefd95bf7ab58bc1e1ce737dc78565fb445e4167245"), looks := false }, kinds := [], alts := [], laidByText := true, laidKinds := [.data], laidTests := true, laidLooks := .later }
def ReachCloserCardSaid : Prop := Claim7.holds Tryz.pinned (.plain (OpenSpec.ofChange reachCloserSpec)) reachCloserCard

/-- THE TIED CARD OF 'pelliclelaw12.ReachBetween'. -/
def reachBetweenCard : Claim7 := { stood := { row := reachBetweenRow, standIns := [], harness := (true, "392f29b9bbd4232d0516feefd95bf7ab58bc1e1ce737dc78565fb445e4167245"), looks := false }, kinds := [], alts := [], laidByText := true, laidKinds := [.data], laidTests := true, laidLooks := .later }
def ReachBetweenCardSaid : Prop := Claim7.holds Tryz.pinned (.plain (OpenSpec.ofChange reachBetweenSpec)) reachBetweenCard

/-- THE TIED CARD OF 'pelliclelaw12.ReachStays'. -/
def reachStaysCard : Claim7 := { stood := { row := reachStaysRow, standIns := [], harness := (true, "392f29b9bbd4232d0516feefd95bf7ab58bc1e1ce737dc78565fb445e4167245"), looks := false }, kinds := [], alts := [], laidByText := true, laidKinds := [.data], laidTests := true, laidLooks := .later }
def ReachStaysCardSaid : Prop := Claim7.holds Tryz.pinned (.plain (OpenSpec.ofChange reachStaysSpec)) reachStaysCard

/-- THE SECOND FORM's CARD OF 'pelliclelaw11.PlaneAreas'. -/
def planeAreasUptoCard : Claim7 := { stood := { row := planeAreasUptoRow, standIns := [], harness := (true, "392f29b9bbd4232d0516feefd95bf7ab58bc1e1ce737dc78565fb445e4167245"), looks := false }, kinds := [], alts := [], laidByText := true, laidKinds := [.data], laidTests := true, laidLooks := .later }
def PlaneAreasUptoCardSaid : Prop := Claim7.holds Tryz.pinned (.plain (OpenSpec.upto planeAreasSpec)) planeAreasUptoCard

/-- THE SECOND FORM's CARD OF 'pelliclelaw12.ReachPoints'. -/
def reachPointsUptoCard : Claim7 := { stood := { row := reachPointsUptoRow, standIns := [], harness := (true, "392f29b9bbd4232d0516feefd95bf7ab58bc1e1ce737dc78565fb445e4167245"), looks := false }, kinds := [], alts := [], laidByText := true, laidKinds := [.data], laidTests := true, laidLooks := .later }
def ReachPointsUptoCardSaid : Prop := Claim7.holds Tryz.pinned (.plain (OpenSpec.upto reachPointsSpec)) reachPointsUptoCard

/-- THE SECOND FORM's CARD OF 'pelliclelaw12.ReachEnds'. -/
def reachEndsUptoCard : Claim7 := { stood := { row := reachEndsUptoRow, standIns := [], harness := (true, "392f29b9bbd4232d0516feefd95bf7ab58bc1e1ce737dc78565fb445e4167245"), looks := false }, kinds := [], alts := [], laidByText := true, laidKinds := [.data], laidTests := true, laidLooks := .later }
def ReachEndsUptoCardSaid : Prop := Claim7.holds Tryz.pinned (.plain (OpenSpec.upto reachEndsSpec)) reachEndsUptoCard

/-- THE SECOND FORM's CARD OF 'pelliclelaw12.ReachCloser'. -/
def reachCloserUptoCard : Claim7 := { stood := { row := reachCloserUptoRow, standIns := [], harness := (true, "392f29b9bbd4232d0516feefd95bf7ab58bc1e1ce737dc78565fb445e4167245"), looks := false }, kinds := [], alts := [], laidByText := true, laidKinds := [.data], laidTests := true, laidLooks := .later }
def ReachCloserUptoCardSaid : Prop := Claim7.holds Tryz.pinned (.plain (OpenSpec.upto reachCloserSpec)) reachCloserUptoCard

/-- THE SECOND FORM's CARD OF 'pelliclelaw12.ReachBetween'. -/
def reachBetweenUptoCard : Claim7 := { stood := { row := reachBetweenUptoRow, standIns := [], harness := (true, "392f29b9bbd4232d0516feefd95bf7ab58bc1e1ce737dc78565fb445e4167245"), looks := false }, kinds := [], alts := [], laidByText := true, laidKinds := [.data], laidTests := true, laidLooks := .later }
def ReachBetweenUptoCardSaid : Prop := Claim7.holds Tryz.pinned (.plain (OpenSpec.upto reachBetweenSpec)) reachBetweenUptoCard

/-- THE SECOND FORM's CARD OF 'pelliclelaw12.ReachStays'. -/
def reachStaysUptoCard : Claim7 := { stood := { row := reachStaysUptoRow, standIns := [], harness := (true, "392f29b9bbd4232d0516feefd95bf7ab58bc1e1ce737dc78565fb445e4167245"), looks := false }, kinds := [], alts := [], laidByText := true, laidKinds := [.data], laidTests := true, laidLooks := .later }
def ReachStaysUptoCardSaid : Prop := Claim7.holds Tryz.pinned (.plain (OpenSpec.upto reachStaysSpec)) reachStaysUptoCard
end Rows
end Go.Proofs.YtoaepibannfbdaaGreatDoor
