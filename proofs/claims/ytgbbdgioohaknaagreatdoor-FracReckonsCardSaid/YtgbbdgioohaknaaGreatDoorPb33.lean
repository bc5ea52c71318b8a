/- What the laws lean on, part 33. -/
import Derived.Test.YtgbbdgioohaknaaGreatDoorRows
import Derived.WalkKit
import Derived.ProofKit
import Derived.OpenShut
import Derived.Deep.DeepHandedRow
import Derived.Test.YtgbbdgioohaknaaGreatDoorPb13
import Derived.Test.YtgbbdgioohaknaaGreatDoorPb34
namespace Go.Proofs.YtgbbdgioohaknaaGreatDoor
open Go.ChangeShapes Go.WideShapes Go.ChangeAt Go.RowKit Go.ChangeMaps Mat
set_option maxRecDepth 100000
set_option linter.unusedVariables false
set_option linter.unusedSimpArgs false
theorem eW_ (x y : Int) : (x - y).sign = bt_ x y := by
 unfold bt_
 rcases Int.lt_trichotomy x y with h | h | h
 · rw [if_pos h]; exact Int.sign_eq_neg_one_of_neg (by omega)
 · rw [if_neg (by omega), if_pos h, show x - y = 0 by omega]; rfl
 · rw [if_neg (by omega), if_neg (by omega)]; exact Int.sign_eq_one_of_pos (by omega)
end Go.Proofs.YtgbbdgioohaknaaGreatDoor
namespace Go.Proofs.YtgbbdgioohaknaaGreatDoor
open Go.RowKit Mat
set_option maxRecDepth 100000
set_option linter.unusedVariables false
set_option linter.unusedSimpArgs false
theorem aA_ (a b : Rat) : bT_ a b = rsg (a - b) := by
 have h : a - b = Rat.divInt (a.num * (b.den : Int) - b.num * (a.den : Int)) ((a.den : Int) * (b.den : Int)) := by
  rw [Rat.sub_def', ← Int.natCast_mul, Rat.divInt_ofNat]
 have h1 := a.den_pos
 have h2 := b.den_pos
 rw [h, bD_ (by exact_mod_cast Nat.mul_pos h1 h2), eW_]
 rfl
end Go.Proofs.YtgbbdgioohaknaaGreatDoor
