/- What the laws lean on, part 28. -/
import Derived.Test.YtgbbdgioohaknaaGreatDoorPb8
namespace Go.Proofs.YtgbbdgioohaknaaGreatDoor
open Go.RowKit Mat
set_option maxRecDepth 100000
set_option linter.unusedVariables false
set_option linter.unusedSimpArgs false
theorem toD {a k : Nat} (h : a < B ^ k) (hk : k ≤ 200000) : a < D ^ 1000000 := by
 obtain ⟨E, hE⟩ : ∃ E, E = 1000000 := ⟨_, rfl⟩
 rw [← hE]
 refine Nat.lt_of_lt_of_le h ?_
 have h1 : B ^ k ≤ (D ^ 5) ^ k := Nat.pow_le_pow_left (by decide) k
 rw [← Nat.pow_mul] at h1
 exact Nat.le_trans h1 (Nat.pow_le_pow_right bi_ (by omega))
end Go.Proofs.YtgbbdgioohaknaaGreatDoor
