/- What the laws lean on, part 48. -/
import Derived.Deep.RegionHeld3
import Derived.Test.YtgbbdgioohaknaaGreatDoorPb19
import Derived.Test.YtgbbdgioohaknaaGreatDoorPb39
namespace Go.Proofs.YtgbbdgioohaknaaGreatDoor
open Go.RowKit Mat
set_option maxRecDepth 100000
set_option linter.unusedVariables false
set_option linter.unusedSimpArgs false
theorem in_ {n d m e : Int} {r t : Rat} (h1 : Rat.divInt n d = r) (h2 : Rat.divInt m e = t) : Rat.divInt (n * e) (d * m) = r / t:=by
 rw [← h1,← h2,Rat.div_def,Rat.inv_divInt,Rat.divInt_mul_divInt]
theorem iv_ {a b : Rat} {k m : Nat} (h1 : a.num.natAbs < B ^ k) (h4 : b.den < B ^ m) : (a / b).num.natAbs < B ^ (k + m):=by
 have e : a / b = Rat.divInt (a.num * (b.den : Int)) ((a.den : Int) * b.num):=by
  rw [← in_ (bk_ a) (bk_ b)]
 rw [e]; exact dV_ (dP_ h1 (by rw [Int.natAbs_natCast]; exact h4))
theorem iw_ {a b : Rat} {k m : Nat} (h2 : a.den < B ^ k) (h3 : b.num.natAbs < B ^ m) (h0 : b ≠ 0) : (a / b).den < B ^ (k + m):=by
 have e : a / b = Rat.divInt (a.num * (b.den : Int)) ((a.den : Int) * b.num):=by
  rw [← in_ (bk_ a) (bk_ b)]
 rw [e]
 refine cB_ (dP_ (by rw [Int.natAbs_natCast]; exact h2) h3) (Int.mul_ne_zero ?_ ?_)
 · have:=a.den_pos; omega
 · intro h; exact h0 (Rat.num_eq_zero.1 h)
end Go.Proofs.YtgbbdgioohaknaaGreatDoor
