/-
  DERIVED. GIVEN WITH THE SEED: THE CARDS: each row of YtamdnbbgpacfkaaGreatDoorRows.lean that lists a variable, with what it lists TIED to the program's text (the seventh form; the later family's looks); each row that meets fmt, with fmt's text TOLD by the authors' own Lean function (tested against real Go, not proved from fmt's source: count such statements apart). THE CARD IS WHAT COUNTS. Prove the row's statement (the work); the ties are given (YtamdnbbgpacfkaaGreatDoorTie.lean); close each card by the builder's one call (the guide's Derived/Test/ToyasCard.lean, 'card_holds'). Laid BY PROGRAM, IN A SANDBOX (cutbox-door.mjs). By AI agents, Wed Nov 11 2026. No macro, syntax, notation, axiom, sorry.
-/
import Derived.Test.YtamdnbbgpacfkaaGreatDoorRows
import GoSem.ClaimSeven
namespace Go.Proofs.YtamdnbbgpacfkaaGreatDoor
namespace Rows

/-- THE TIED CARD OF 'pelliclelaw13.WindBeside'. -/
def windBesideCard : Claim7 := { stood := { row := windBesideRow, standIns := [], harness := (true, "519daa9a6b4e15223d568bc869a72a3302918e5464936c93f98d950c71f13356"), looks := true }, kinds := [], alts := [], laidByText := true, laidKinds := [.data], laidTests := true, laidLooks := .later }
def WindBesideCardSaid : Prop := Claim7.holds Tryz.pinned (.plain (OpenSpec.ofChange windBesideSpec)) windBesideCard

/-- THE TIED CARD OF 'pelliclelaw14.SplitPieces'. -/
def splitPiecesCard : Claim7 := { stood := { row := splitPiecesRow, standIns := [], harness := (true, "519daa9a6b4e15223d568bc869a72a3302918e5464936c93f98d950c71f13356"), looks := true }, kinds := [], alts := [], laidByText := true, laidKinds := [.data], laidTests := true, laidLooks := .later }
def SplitPiecesCardSaid : Prop := Claim7.holds Tryz.pinned (.plain (OpenSpec.ofChange splitPiecesSpec)) splitPiecesCard

/-- THE TIED CARD OF 'pelliclelaw14.SplitApart'. -/
def splitApartCard : Claim7 := { stood := { row := splitApartRow, standIns := [], harness := (true, "519daa9a6b4e15223d568bc869a72a3302918e5464936c93f98d950c71f13356"), looks := true }, kinds := [], alts := [], laidByText := true, laidKinds := [.data], laidTests := true, laidLooks := .later }
def SplitApartCardSaid : Prop := Claim7.holds Tryz.pinned (.plain (OpenSpec.ofChange splitApartSpec)) splitApartCard

/-- THE TIED CARD OF 'pelliclelaw14.SplitAgain'. -/
def splitAgainCard : Claim7 := { stood := { row := splitAgainRow, standIns := [], harness := (true, "519daa9a6b4e15223d568bc869a72a3302918e5464936c93f98d950c71f13356"), looks := true }, kinds := [], alts := [], laidByText := true, laidKinds := [.data], laidTests := true, laidLooks := .later }
def SplitAgainCardSaid : Prop := Claim7.holds Tryz.pinned (.plain (OpenSpec.ofChange splitAgainSpec)) splitAgainCard

/-- THE TIED CARD OF 'pelliclelaw14.SplitCovers'. -/
def splitCoversCard : Claim7 := { stood := { row := splitCoversRow, standIns := [], harness := (true, "519daa9a6b4e15223d568bc869a72a3302918e5464936c93f98d950c71f13356"), looks := true }, kinds := [], alts := [], laidByText := true, laidKinds := [.data], laidTests := true, laidLooks := .later }
def SplitCoversCardSaid : Prop := Claim7.holds Tryz.pinned (.plain (OpenSpec.ofChange splitCoversSpec)) splitCoversCard

/-- THE TIED CARD OF 'pelliclelaw14.SplitLong'. -/
def splitLongCard : Claim7 := { stood := { row := splitLongRow, standIns := [], harness := (true, "519daa9a6b4e15223d568bc869a72a3302918e5464936c93f98d950c71f13356"), looks := true }, kinds := [], alts := [], laidByText := true, laidKinds := [.data], laidTests := true, laidLooks := .later }
def SplitLongCardSaid : Prop := Claim7.holds Tryz.pinned (.plain (OpenSpec.ofChange splitLongSpec)) splitLongCard

/-- THE SECOND FORM's CARD OF 'pelliclelaw13.WindBeside'. -/
def windBesideUptoCard : Claim7 := { stood := { row := windBesideUptoRow, standIns := [], harness := (true, "519daa9a6b4e15223d568bc869a72a3302918e5464936c93f98d950c71f13356"), looks := true }, kinds := [], alts := [], laidByText := true, laidKinds := [.data], laidTests := true, laidLooks := .later }
def WindBesideUptoCardSaid : Prop := Claim7.holds Tryz.pinned (.plain (OpenSpec.upto windBesideSpec)) windBesideUptoCard

/-- THE SECOND FORM's CARD OF 'pelliclelaw14.SplitPieces'. -/
def splitPiecesUptoCard : Claim7 := { stood := { row := splitPiecesUptoRow, standIns := [], harness := (true, "519daa9a6b4e15223d568bc869a72a3302918e5464936c93f98d950c71f13356"), looks := true }, kinds := [], alts := [], laidByText := true, laidKinds := [.data], laidTests := true, laidLooks := .later }
def SplitPiecesUptoCardSaid : Prop := Claim7.holds Tryz.pinned (.plain (OpenSpec.upto splitPiecesSpec)) splitPiecesUptoCard

/-- THE SECOND FORM's CARD OF 'pelliclelaw14.SplitApart'. -/
def splitApartUptoCard : Claim7 := { stood := { row := splitApartUptoRow, standIns := [], harness := (true, "519daa9a6b4e15223d568bc869a72a3302918e5464936c93f98d950c71f13356"), looks := true }, kinds := [], alts := [], laidByText := true, laidKinds := [.data], laidTests := true, laidLooks := .later }
def SplitApartUptoCardSaid : Prop := Claim7.holds Tryz.pinned (.plain (OpenSpec.upto splitApartSpec)) splitApartUptoCard

/-- THE SECOND FORM's CARD OF 'pelliclelaw14.SplitAgain'. -/
def splitAgainUptoCard : Claim7 := { stood := { row := splitAgainUptoRow, standIns := [], harness := (true, "519daa9a6b4e15223d568bc869a72a3302918e5464936c93f98d950c71f13356"), looks := true }, kinds := [], alts := [], laidByText := true, laidKinds := [.data], laidTests := true, laidLooks := .later }
def SplitAgainUptoCardSaid : Prop := Claim7.holds Tryz.pinned (.plain (OpenSpec.upto splitAgainSpec)) splitAgainUptoCard

/-- THE SECOND FORM's CARD OF 'pelliclelaw14.SplitCovers'. -/
def splitCoversUptoCard : Claim7 := { stood := { row := splitCoversUptoRow, standIns := [], harness := (true, "519daa9a6b4e15223d568bc869a72a3302918e5464936c93f98d950c71f13356"), looks := true }, kinds := [], alts := [], laidByText := true, laidKinds := [.data], laidTests := true, laidLooks := .later }
def SplitCoversUptoCardSaid : Prop := Claim7.holds Tryz.pinned (.plain (OpenSpec.upto splitCoversSpec)) splitCoversUptoCard

/-- THE SECOND FORM's CARD OF 'pelliclelaw14.SplitLong'. -/
def splitLongUptoCard : Claim7 := { stood := { row := splitLongUptoRow, standIns := [], harness := (true, "519daa9a6b4e15223d568bc869a72a3302918e5464936c93f98d950c71f13356"), looks := true }, kinds := [], alts := [], laidByText := true, laidKinds := [.data], laidTests := true, laidLooks := .later }
def SplitLongUptoCardSaid : Prop := Claim7.holds Tryz.pinned (.plain (OpenSpec.upto splitLongSpec)) splitLongUptoCard
end Rows
end Go.Proofs.YtamdnbbgpacfkaaGreatDoor
