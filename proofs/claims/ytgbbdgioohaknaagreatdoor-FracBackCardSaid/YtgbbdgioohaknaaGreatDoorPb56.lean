/- What the laws lean on, part 56. -/
import Derived.Test.YtgbbdgioohaknaaGreatDoorPb1
namespace Go.Proofs.YtgbbdgioohaknaaGreatDoor
open Go.RowKit Mat
set_option maxRecDepth 100000
set_option linter.unusedVariables false
set_option linter.unusedSimpArgs false
theorem gq_ {z : Int} {k : Nat} (h : z.natAbs < B ^ k) : ((z : Rat)).num.natAbs < B ^ k := h
theorem gr_ {z : Int} {k : Nat} (h : 1 ≤ k) : ((z : Rat)).den < B ^ k := Nat.lt_of_lt_of_le (show 1 < B ^ 1 by unfold B; omega) (Nat.pow_le_pow_right T_ h)
end Go.Proofs.YtgbbdgioohaknaaGreatDoor
