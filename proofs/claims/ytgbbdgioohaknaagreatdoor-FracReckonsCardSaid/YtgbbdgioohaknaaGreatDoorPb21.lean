/- What the laws lean on, part 21. -/
import Derived.Deep.RegionHeld3
import Derived.Deep.CutRange
import Derived.Test.YtgbbdgioohaknaaGreatDoorPb17
namespace Go.Proofs.YtgbbdgioohaknaaGreatDoor
open Go.RowKit Mat
set_option maxRecDepth 100000
set_option linter.unusedVariables false
set_option linter.unusedSimpArgs false
theorem BoxR.kept {W W' : World} {p : Nat} {r : Rat} (h : BoxR W p r) (hg : W.grownBy W' none) : BoxR W' p r:=by
 obtain ⟨u0,u1,u2,u3,h1,h2⟩:=h
 exact ⟨u0,u1,u2,u3,a_ hg h1,h2.kept hg⟩
theorem QSl.kept {W W' : World} {s : Option Addr} {n : Nat} {rs : List Rat} (h : QSl W s n rs) (hg : W.grownBy W' none) : QSl W' s n rs:=by
 obtain ⟨h1,h2⟩:=h
 refine ⟨h1,?_⟩
 rcases h2 with h2 | ⟨b,cs,e,hb,hc⟩
 · exact Or.inl h2
 · refine Or.inr ⟨b,cs,e,a_ hg hb,fun i h=>?_⟩
   obtain ⟨u0,u1,u2,u3,a1,a2,a3,a4,a5⟩:=hc i h
   exact ⟨u0,u1,u2,u3,a1,a2,a3,a4,a5.kept hg⟩
end Go.Proofs.YtgbbdgioohaknaaGreatDoor
