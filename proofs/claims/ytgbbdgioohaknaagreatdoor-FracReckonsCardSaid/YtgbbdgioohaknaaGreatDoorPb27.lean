/- What the laws lean on, part 27. -/
import Derived.Test.YtgbbdgioohaknaaGreatDoorPb9
namespace Go.Proofs.YtgbbdgioohaknaaGreatDoor
open Go.RowKit Mat
set_option maxRecDepth 100000
set_option linter.unusedVariables false
set_option linter.unusedSimpArgs false
theorem DigL.append {l m : List Nat} (h : DigL l) (g : DigL m) : DigL (l ++ m) := by
 intro k hk
 rcases Nat.lt_or_ge k l.length with h1 | h1
 · rw [List.getElem_append_left h1]; exact h k h1
 · rw [List.getElem_append_right h1]; exact g _ _
end Go.Proofs.YtgbbdgioohaknaaGreatDoor
