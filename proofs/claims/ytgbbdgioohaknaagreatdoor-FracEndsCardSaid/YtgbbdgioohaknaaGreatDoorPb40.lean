/- What the laws lean on, part 40. -/
import Derived.Test.YtgbbdgioohaknaaGreatDoorPb33
namespace Go.Proofs.YtgbbdgioohaknaaGreatDoor
open Go.RowKit Mat
set_option maxRecDepth 100000
set_option linter.unusedVariables false
set_option linter.unusedSimpArgs false
theorem bG_ (a : Rat) : bT_ a a = 0 := by rw [aA_, Rat.sub_self]; rfl
end Go.Proofs.YtgbbdgioohaknaaGreatDoor
