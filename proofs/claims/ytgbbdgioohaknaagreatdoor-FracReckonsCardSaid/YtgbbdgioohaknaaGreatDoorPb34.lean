/- What the laws lean on, part 34. -/
import Derived.Deep.RegionHeld3
import Derived.Test.YtgbbdgioohaknaaGreatDoorPb9
namespace Go.Proofs.YtgbbdgioohaknaaGreatDoor
open Go.RowKit Mat
set_option maxRecDepth 100000
set_option linter.unusedVariables false
set_option linter.unusedSimpArgs false
def bT_ (a b : Rat) : Int := bt_ (a.num * (b.den : Int)) (b.num * (a.den : Int))
end Go.Proofs.YtgbbdgioohaknaaGreatDoor
