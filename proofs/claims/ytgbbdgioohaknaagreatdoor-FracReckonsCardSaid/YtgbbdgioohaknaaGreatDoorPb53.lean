/- What the laws lean on, part 53. -/
import Derived.Test.YtgbbdgioohaknaaGreatDoorPb19
namespace Go.Proofs.YtgbbdgioohaknaaGreatDoor
open Go.RowKit Mat
set_option maxRecDepth 100000
set_option linter.unusedVariables false
set_option linter.unusedSimpArgs false
theorem gp_ {a b : Rat} {k m : Nat} (h2 : a.den < B ^ k) (h4 : b.den < B ^ m) : (a - b).den < B ^ (k + m + 1):=by
 rw [Rat.sub_eq_add_neg]; exact ad_ h2 (dm_ h4)
end Go.Proofs.YtgbbdgioohaknaaGreatDoor
