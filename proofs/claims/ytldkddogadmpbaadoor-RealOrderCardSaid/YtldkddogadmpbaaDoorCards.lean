/-
  DERIVED. GIVEN WITH THE SEED: THE CARDS: each row of YtldkddogadmpbaaDoorRows.lean that lists a variable, with what it lists TIED to the program's text (the seventh form; the later family's looks); each row that meets fmt, with fmt's text TOLD by the authors' own Lean function (tested against real Go, not proved from fmt's source: count such statements apart). THE CARD IS WHAT COUNTS. Prove the row's statement (the work); the ties are given (YtldkddogadmpbaaDoorTie.lean); close each card by the builder's one call (the guide's Derived/Test/ToyasCard.lean, 'card_holds'). Laid BY PROGRAM, IN A SANDBOX (cutbox-door.mjs). By AI agents, Wed Nov 11 2026. No macro, syntax, notation, axiom, sorry.
-/
import Derived.Test.YtldkddogadmpbaaDoorRows
import GoSem.ClaimSeven
namespace Go.Proofs.YtldkddogadmpbaaDoor
namespace Rows

/-- THE TIED CARD OF 'pelliclelaw05.RealDecodes'. -/
def realDecodesCard : Claim7 := { stood := { row := realDecodesRow, standIns := [], harness := (true, "8338f6176d2418206e07c00bb692030e4c29b886469b816be95ed6cfb4fb3f7d"), looks := false }, kinds := [], alts := [], laidByText := true, laidKinds := [.data], laidTests := true, laidLooks := .later }
def RealDecodesCardSaid : Prop := Claim7.holds Tryd.pinned (.plain (OpenSpec.ofChange realDecodesSpec)) realDecodesCard

/-- THE TIED CARD OF 'pelliclelaw05.RealBack'. -/
def realBackCard : Claim7 := { stood := { row := realBackRow, standIns := [], harness := (true, "8338f6176d2418206e07c00bb692030e4c29b886469b816be95ed6cfb4fb3f7d"), looks := false }, kinds := [], alts := [], laidByText := true, laidKinds := [.data], laidTests := true, laidLooks := .later }
def RealBackCardSaid : Prop := Claim7.holds Tryd.pinned (.plain (OpenSpec.ofChange realBackSpec)) realBackCard

/-- THE TIED CARD OF 'pelliclelaw05.RealSame'. -/
def realSameCard : Claim7 := { stood := { row := realSameRow, standIns := [], harness := (true, "8338f6176d2418206e07c00bb692030e4c29b886469b816be95ed6cfb4fb3f7d"), looks := false }, kinds := [], alts := [], laidByText := true, laidKinds := [.data], laidTests := true, laidLooks := .later }
def RealSameCardSaid : Prop := Claim7.holds Tryd.pinned (.plain (OpenSpec.ofChange realSameSpec)) realSameCard

/-- THE TIED CARD OF 'pelliclelaw05.RealOrder'. -/
def realOrderCard : Claim7 := { stood := { row := realOrderRow, standIns := [], harness := (true, "8338f6176d2418206e07c00bb692030e4c29b886469b816be95ed6cfb4fb3f7d"), looks := false }, kinds := [], alts := [], laidByText := true, laidKinds := [.data], laidTests := true, laidLooks := .later }
def RealOrderCardSaid : Prop := Claim7.holds Tryd.pinned (.plain (OpenSpec.ofChange realOrderSpec)) realOrderCard

/-- THE SECOND FORM's CARD OF 'pelliclelaw05.RealDecodes'. -/
def realDecodesUptoCard : Claim7 := { stood := { row := realDecodesUptoRow, standIns := [], harness := (true, "8338f6176d2418206e07c00bb692030e4c29b886469b816be95ed6cfb4fb3f7d"), looks := false }, kinds := [], alts := [], laidByText := true, laidKinds := [.data], laidTests := true, laidLooks := .later }
def RealDecodesUptoCardSaid : Prop := Claim7.holds Tryd.pinned (.plain (OpenSpec.upto realDecodesSpec)) realDecodesUptoCard

/-- THE SECOND FORM's CARD OF 'pelliclelaw05.RealBack'. -/
def realBackUptoCard : Claim7 := { stood := { row := realBackUptoRow, standIns := [], harness := (true, "8338f6176d2418206e07c00bb692030e4c29b886469b816be95ed6cfb4fb3f7d"), looks := false }, kinds := [], alts := [], laidByText := true, laidKinds := [.data], laidTests := true, laidLooks := .later }
def RealBackUptoCardSaid : Prop := Claim7.holds Tryd.pinned (.plain (OpenSpec.upto realBackSpec)) realBackUptoCard

/-- THE SECOND FORM's CARD OF 'pelliclelaw05.RealSame'. -/
def realSameUptoCard : Claim7 := { stood := { row := realSameUptoRow, standIns := [], harness := (true, "8338f6176d2418206e07c00bb692030e4c29b886469b816be95ed6cfb4fb3f7d"), looks := false }, kinds := [], alts := [], laidByText := true, laidKinds := [.data], laidTests := true, laidLooks := .later }
def RealSameUptoCardSaid : Prop := Claim7.holds Tryd.pinned (.plain (OpenSpec.upto realSameSpec)) realSameUptoCard

/-- THE SECOND FORM's CARD OF 'pelliclelaw05.RealOrder'. -/
def realOrderUptoCard : Claim7 := { stood := { row := realOrderUptoRow, standIns := [], harness := (true, "8338f6176d2418206e07c00bb692030e4c29b886469b816be95ed6cfb4fb3f7d"), looks := false }, kinds := [], alts := [], laidByText := true, laidKinds := [.data], laidTests := true, laidLooks := .later }
def RealOrderUptoCardSaid : Prop := Claim7.holds Tryd.pinned (.plain (OpenSpec.upto realOrderSpec)) realOrderUptoCard
end Rows
end Go.Proofs.YtldkddogadmpbaaDoor
