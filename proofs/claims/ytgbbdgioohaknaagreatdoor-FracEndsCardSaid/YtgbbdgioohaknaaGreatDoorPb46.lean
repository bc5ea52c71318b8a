/- What the laws lean on, part 46. -/
import Derived.Test.YtgbbdgioohaknaaGreatDoorPb33
namespace Go.Proofs.YtgbbdgioohaknaaGreatDoor
open Go.RowKit Mat
set_option maxRecDepth 100000
set_option linter.unusedVariables false
set_option linter.unusedSimpArgs false
theorem fM_ (r : Rat) : bT_ (r - (r.floor : Int)) (((r.floor + 1 : Int) : Rat) - r) = bt_ (r.num % (r.den : Int) + r.num % (r.den : Int)) (r.den : Int) := by
 have hp := r.den_pos
 have e1 : ∀ z : Int, (z : Rat) = Rat.divInt (z * (r.den : Int)) (r.den : Int) := fun z => by
  rw [Rat.divInt_ofNat, Rat.mkRat_eq_div, Rat.intCast_mul, Rat.intCast_natCast, Rat.mul_div_cancel (by exact_mod_cast (by omega : r.den ≠ 0))]
 have e2 : r - (r.floor : Int) - (((r.floor + 1 : Int) : Rat) - r) = r + r - ((2 * r.floor + 1 : Int) : Rat) := by
  rw [show (2 * r.floor + 1 : Int) = r.floor + (r.floor + 1) by omega, Rat.intCast_add]; grind
 have e3 : r + r = Rat.divInt (r.num + r.num) (r.den : Int) := by
  rw [Rat.divInt_ofNat, Rat.mkRat_eq_div, Rat.intCast_add, Rat.div_def, Rat.add_mul, ← Rat.div_def, ← Rat.mkRat_eq_div, Rat.mkRat_self]
 have e4 : r + r - ((2 * r.floor + 1 : Int) : Rat) = Rat.divInt (r.num + r.num - (2 * r.floor + 1) * (r.den : Int)) (r.den : Int) := by
  rw [e3, e1 (2 * r.floor + 1), Rat.divInt_ofNat, Rat.divInt_ofNat, Rat.divInt_ofNat, Rat.mkRat_eq_div, Rat.mkRat_eq_div, Rat.mkRat_eq_div, Rat.intCast_sub]
  simp only [Rat.div_def]; grind
 rw [aA_, e2, e4, bD_ (by omega), ← eW_]
 congr 1
 have h := Int.mul_ediv_add_emod r.num (r.den : Int)
 rw [Rat.floor_def]
 grind
theorem dv_ (r : Rat) : (bT_ (r - (r.floor : Int)) (((r.floor + 1 : Int) : Rat) - r) ≤ 0 ∧ bE_ r = r.floor) ∨ (0 ≤ bT_ (r - (r.floor : Int)) (((r.floor + 1 : Int) : Rat) - r) ∧ bE_ r = r.floor + 1) := by
 rw [fM_]
 unfold bE_
 rw [Rat.floor_def]
 have hc : ∀ x y, bt_ x y = -1 ∨ bt_ x y = 0 ∨ bt_ x y = 1 := fun x y => by unfold bt_; split <;> (try split) <;> simp
 replace hc := hc (r.num % (r.den : Int) + r.num % (r.den : Int)) (r.den : Int)
 generalize bt_ (r.num % (r.den : Int) + r.num % (r.den : Int)) (r.den : Int) = c at *
 split
 · left; exact ⟨by omega, rfl⟩
 · split
   · right; exact ⟨by omega, rfl⟩
   · split
     · by_cases h : c ≤ 0
       · left; exact ⟨h, rfl⟩
       · exfalso; have := hc; omega
     · by_cases h : 0 ≤ c
       · right; exact ⟨h, rfl⟩
       · exfalso; have := hc; omega
theorem ec_ {r : Rat} {k : Nat} (h : r.num.natAbs < B ^ k) : r.floor.natAbs < B ^ k := by
 rw [Rat.floor_def]; exact Nat.lt_of_le_of_lt (Int.natAbs_ediv_le_natAbs _ _) h
theorem gT_ {r : Rat} {k : Nat} (h : r.num.natAbs < B ^ k) (hk : 1 ≤ k) : (bE_ r).natAbs < B ^ (k + 1) := by
 have h0 := ec_ h
 have h1 : (1 : Int).natAbs < B ^ k := Nat.lt_of_lt_of_le (show 1 < B ^ 1 by unfold B; omega) (Nat.pow_le_pow_right T_ hk)
 rcases dv_ r with ⟨_, e⟩ | ⟨_, e⟩
 · rw [e]; exact bw h0 (by omega)
 · rw [e]; exact gf_ h0 h1
end Go.Proofs.YtgbbdgioohaknaaGreatDoor
