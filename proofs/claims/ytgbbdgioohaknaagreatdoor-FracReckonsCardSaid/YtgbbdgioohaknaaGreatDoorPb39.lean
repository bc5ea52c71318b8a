/- What the laws lean on, part 39. -/
import Derived.Test.YtgbbdgioohaknaaGreatDoorPb1
namespace Go.Proofs.YtgbbdgioohaknaaGreatDoor
open Go.RowKit Mat
set_option maxRecDepth 100000
set_option linter.unusedVariables false
set_option linter.unusedSimpArgs false
theorem bk_ (r : Rat) : Rat.divInt r.num (r.den : Int) = r := Rat.num_divInt_den r
end Go.Proofs.YtgbbdgioohaknaaGreatDoor
