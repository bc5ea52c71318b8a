/- What the laws lean on, part 42. -/
import Derived.Test.YtgbbdgioohaknaaGreatDoorPb33
namespace Go.Proofs.YtgbbdgioohaknaaGreatDoor
open Go.RowKit Mat
set_option maxRecDepth 100000
set_option linter.unusedVariables false
set_option linter.unusedSimpArgs false
theorem dh_ (a b : Rat) : bT_ a b = -1 ∨ bT_ a b = 0 ∨ bT_ a b = 1 := by
 rcases Int.lt_trichotomy ((a - b).num) 0 with h | h | h
 · left; rw [aA_]; exact Int.sign_eq_neg_one_of_neg h
 · right; left; rw [aA_]; unfold rsg; rw [h]; rfl
 · right; right; rw [aA_]; exact Int.sign_eq_one_of_pos h
end Go.Proofs.YtgbbdgioohaknaaGreatDoor
