/- What the laws lean on, part 52. -/
import Derived.Test.YtgbbdgioohaknaaGreatDoorPb19
namespace Go.Proofs.YtgbbdgioohaknaaGreatDoor
open Go.RowKit Mat
set_option maxRecDepth 100000
set_option linter.unusedVariables false
set_option linter.unusedSimpArgs false
theorem dl_ {a b : Rat} {k m : Nat} (h1 : a.num.natAbs < B ^ k) (h2 : a.den < B ^ k) (h3 : b.num.natAbs < B ^ m) (h4 : b.den < B ^ m) : (a - b).num.natAbs < B ^ (k + m + 1):=by
 rw [Rat.sub_eq_add_neg]; exact aj_ h1 h2 (eb_ h3) (dm_ h4)
end Go.Proofs.YtgbbdgioohaknaaGreatDoor
