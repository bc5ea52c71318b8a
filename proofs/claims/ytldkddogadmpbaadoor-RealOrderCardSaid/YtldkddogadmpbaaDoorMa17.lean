/- What the laws lean on, part 17. -/
import Derived.Test.YtldkddogadmpbaaDoorMa16
import Derived.Test.YtldkddogadmpbaaDoorMa13
namespace Go.Proofs.YtldkddogadmpbaaDoor
open Go.RowKit Mat
set_option maxRecDepth 100000
set_option linter.unusedVariables false
set_option linter.unusedSimpArgs false
def rsg (r : Rat) : Int := r.num.sign
theorem sign_ediv {n : Int} {g : Nat} (h : (g : Int) ∣ n) (hg : 0 < g) : (n / (g : Int)).sign = n.sign := by
  obtain ⟨k, rfl⟩ := h
  rw [Int.mul_ediv_cancel_left _ (by omega), Int.sign_mul, Int.sign_eq_one_of_pos (by omega : (0 : Int) < g), Int.one_mul]
theorem rsg_divInt {n d : Int} (hd : 0 < d) : rsg (Rat.divInt n d) = n.sign := by
  unfold rsg
  rw [Rat.num_divInt, Int.sign_eq_one_of_pos hd, Int.one_mul]
  exact sign_ediv (Int.gcd_dvd_right _ _) (by rw [Int.gcd_comm]; exact Int.gcd_pos_of_ne_zero_right _ (by omega))
theorem rat_divInt (r : Rat) : Rat.divInt r.num (r.den : Int) = r := Rat.num_divInt_den r
theorem rcmp_sub (a b : Rat) : rcmp a b = rsg (a - b) := by
  have h : a - b = Rat.divInt (a.num * (b.den : Int) - b.num * (a.den : Int)) ((a.den : Int) * (b.den : Int)) := by
    rw [Rat.sub_def', ← Int.natCast_mul, Rat.divInt_ofNat]
  have h1 := a.den_pos
  have h2 := b.den_pos
  rw [h, rsg_divInt (by exact_mod_cast Nat.mul_pos h1 h2), zcmp_sub]
  rfl
theorem rcmp_self (a : Rat) : rcmp a a = 0 := by rw [rcmp_sub, Rat.sub_self]; rfl
theorem rcmp_eq {a b : Rat} (h : a = b) : rcmp a b = 0 := by rw [h]; exact rcmp_self b
theorem rcmp_divInt {n m d e : Int} (hd : 0 < d) (he : 0 < e) : rcmp (Rat.divInt n d) (Rat.divInt m e) = zcmp (n * e) (m * d) := by
  rw [rcmp_sub, Rat.divInt_sub_divInt _ _ (by omega) (by omega), rsg_divInt (Int.mul_pos hd he), zcmp_sub]
theorem rsg_mul (a b : Rat) : rsg (a * b) = rsg a * rsg b := by
  have h : a * b = Rat.divInt (a.num * b.num) ((a.den : Int) * (b.den : Int)) := by
    rw [Rat.mul_def', ← Int.natCast_mul, Rat.divInt_ofNat]
  rw [h, rsg_divInt (by have h1 := a.den_pos; have h2 := b.den_pos; exact_mod_cast Nat.mul_pos h1 h2), Int.sign_mul]
  rfl
theorem rsg_neg (a : Rat) : rsg (-a) = -rsg a := by unfold rsg; rw [Rat.neg_num, Int.sign_neg]
theorem qcmp_add (a b c : Rat) : rcmp (a + c) (b + c) = rcmp a b := by
  rw [rcmp_sub, rcmp_sub]; congr 1; grind
theorem qcmp_mul (a b c : Rat) : rcmp (a * c) (b * c) = rcmp a b * rsg c := by
  rw [rcmp_sub, rcmp_sub, ← rsg_mul]; congr 1; grind
theorem qcmp_swap (a b : Rat) : rcmp b a = -rcmp a b := by
  rw [rcmp_sub, rcmp_sub, ← rsg_neg]; congr 1; grind
theorem rsg_pos {a : Rat} : rsg a = 1 ↔ 0 < a := by
  unfold rsg
  rw [Int.sign_eq_one_iff_pos, Rat.lt_iff]; simp
theorem rsg_zero {a : Rat} : rsg a = 0 ↔ a = 0 := by
  unfold rsg
  rw [Int.sign_eq_zero_iff_zero, Rat.num_eq_zero]
theorem rsg_nz {a : Rat} : rsg a = -1 ↔ a < 0 := by
  unfold rsg
  rw [Int.sign_eq_neg_one_iff_neg, Rat.lt_iff]; simp
theorem rcmp_lt {a b : Rat} : rcmp a b = -1 ↔ a < b := by rw [rcmp_sub, rsg_nz]; constructor <;> intro h <;> grind
theorem rcmp_gt {a b : Rat} : rcmp a b = 1 ↔ b < a := by rw [rcmp_sub, rsg_pos]; constructor <;> intro h <;> grind
theorem rcmp_zero {a b : Rat} : rcmp a b = 0 ↔ a = b := by rw [rcmp_sub, rsg_zero]; constructor <;> intro h <;> grind
theorem rcmp_or (a b : Rat) : rcmp a b = -1 ∨ rcmp a b = 0 ∨ rcmp a b = 1 := by
  rcases Int.lt_trichotomy ((a - b).num) 0 with h | h | h
  · left; rw [rcmp_sub]; exact Int.sign_eq_neg_one_of_neg h
  · right; left; rw [rcmp_sub]; unfold rsg; rw [h]; rfl
  · right; right; rw [rcmp_sub]; exact Int.sign_eq_one_of_pos h
theorem floor_divInt {n d : Int} (hd : 0 < d) : (Rat.divInt n d).floor = n / d := by
  have h0 : d ≠ 0 := by omega
  obtain ⟨r, hr⟩ : ∃ r, Rat.divInt n d = r := ⟨_, rfl⟩
  have hp := r.den_pos
  have h := (Rat.divInt_eq_divInt_iff h0 (show ((r.den : Nat) : Int) ≠ 0 by omega)).1 (hr.trans (rat_divInt r).symm)
  rw [hr, Rat.floor_def, ← Int.mul_ediv_mul_of_pos_left n d (show (0 : Int) < (r.den : Int) by omega), h, Int.mul_comm d, Int.mul_ediv_mul_of_pos_left _ _ hd]
def rnear (r : Rat) : Int :=
  if zcmp (r.num % (r.den : Int) + r.num % (r.den : Int)) (r.den : Int) = -1 then r.num / (r.den : Int)
  else if zcmp (r.num % (r.den : Int) + r.num % (r.den : Int)) (r.den : Int) = 1 then r.num / (r.den : Int) + 1
  else if (r.num / (r.den : Int)) % 2 = 0 then r.num / (r.den : Int) else r.num / (r.den : Int) + 1
theorem rnear_cmp (r : Rat) : rcmp (r - (r.floor : Int)) (((r.floor + 1 : Int) : Rat) - r) = zcmp (r.num % (r.den : Int) + r.num % (r.den : Int)) (r.den : Int) := by
  have hp := r.den_pos
  have e1 : ∀ z : Int, (z : Rat) = Rat.divInt (z * (r.den : Int)) (r.den : Int) := fun z => by
    rw [Rat.divInt_ofNat, Rat.mkRat_eq_div, Rat.intCast_mul, Rat.intCast_natCast, Rat.mul_div_cancel (by exact_mod_cast (by omega : r.den ≠ 0))]
  have e2 : r - (r.floor : Int) - (((r.floor + 1 : Int) : Rat) - r) = r + r - ((2 * r.floor + 1 : Int) : Rat) := by
    rw [show (2 * r.floor + 1 : Int) = r.floor + (r.floor + 1) by omega, Rat.intCast_add]; grind
  have e3 : r + r = Rat.divInt (r.num + r.num) (r.den : Int) := by
    rw [Rat.divInt_ofNat, Rat.mkRat_eq_div, Rat.intCast_add, Rat.div_def, Rat.add_mul, ← Rat.div_def, ← Rat.mkRat_eq_div, Rat.mkRat_self]
  have e4 : r + r - ((2 * r.floor + 1 : Int) : Rat) = Rat.divInt (r.num + r.num - (2 * r.floor + 1) * (r.den : Int)) (r.den : Int) := by
    rw [e3, e1 (2 * r.floor + 1), Rat.divInt_ofNat, Rat.divInt_ofNat, Rat.divInt_ofNat, Rat.mkRat_eq_div, Rat.mkRat_eq_div, Rat.mkRat_eq_div, Rat.intCast_sub]
    simp only [Rat.div_def]; grind
  rw [rcmp_sub, e2, e4, rsg_divInt (by omega), ← zcmp_sub]
  congr 1
  have h := Int.mul_ediv_add_emod r.num (r.den : Int)
  rw [Rat.floor_def]
  grind
theorem rnear_beside (r : Rat) : (rcmp (r - (r.floor : Int)) (((r.floor + 1 : Int) : Rat) - r) ≤ 0 ∧ rnear r = r.floor) ∨ (0 ≤ rcmp (r - (r.floor : Int)) (((r.floor + 1 : Int) : Rat) - r) ∧ rnear r = r.floor + 1) := by
  rw [rnear_cmp]
  unfold rnear
  rw [Rat.floor_def]
  have hc : ∀ x y, zcmp x y = -1 ∨ zcmp x y = 0 ∨ zcmp x y = 1 := fun x y => by unfold zcmp; split <;> (try split) <;> simp
  replace hc := hc (r.num % (r.den : Int) + r.num % (r.den : Int)) (r.den : Int)
  generalize zcmp (r.num % (r.den : Int) + r.num % (r.den : Int)) (r.den : Int) = c at *
  split
  · left; exact ⟨by omega, rfl⟩
  · split
    · right; exact ⟨by omega, rfl⟩
    · split
      · by_cases h : c ≤ 0
        · left; exact ⟨h, rfl⟩
        · exfalso; have := hc; omega
      · by_cases h : 0 ≤ c
        · right; exact ⟨h, rfl⟩
        · exfalso; have := hc; omega
theorem rnear_half (r : Rat) : r - ((rnear r : Int) : Rat) ≤ 1 / 2 ∧ ((rnear r : Int) : Rat) - r ≤ 1 / 2 := by
  have h1 := Rat.floor_le r
  have h2 := Rat.lt_floor_add_one r
  rw [Rat.intCast_add] at h2
  rcases rnear_beside r with ⟨h, e⟩ | ⟨h, e⟩
  · have h3 : r - (r.floor : Int) ≤ ((r.floor + 1 : Int) : Rat) - r := by
      rcases rcmp_or (r - (r.floor : Int)) (((r.floor + 1 : Int) : Rat) - r) with c | c | c
      · exact Rat.le_of_lt (rcmp_lt.1 c)
      · rw [rcmp_zero.1 c]; exact Rat.le_refl
      · omega
    rw [Rat.intCast_add] at h3
    rw [e]
    constructor <;> grind
  · have h3 : ((r.floor + 1 : Int) : Rat) - r ≤ r - (r.floor : Int) := by
      rcases rcmp_or (r - (r.floor : Int)) (((r.floor + 1 : Int) : Rat) - r) with c | c | c
      · omega
      · rw [rcmp_zero.1 c]; exact Rat.le_refl
      · exact Rat.le_of_lt (rcmp_gt.1 c)
    rw [e]
    rw [Rat.intCast_add] at h3 ⊢
    constructor <;> grind
theorem rdiv_num (x y : Int) : (Rat.divInt x y).num = y.sign * x / ((Nat.gcd x.natAbs y.natAbs : Nat) : Int) := by
  rw [Rat.num_divInt, show Int.gcd y x = Nat.gcd x.natAbs y.natAbs from Nat.gcd_comm _ _]
theorem rdiv_den (x y : Int) (h : y ≠ 0) : (((Rat.divInt x y).den : Nat) : Int) = (y.natAbs : Int) / ((Nat.gcd x.natAbs y.natAbs : Nat) : Int) := by
  rw [Rat.den_divInt, if_neg h, show Int.gcd y x = Nat.gcd x.natAbs y.natAbs from Nat.gcd_comm _ _]; rfl
theorem rdiv_nb {x y : Int} {K : Nat} (h : x.natAbs < B ^ K) : (Rat.divInt x y).num.natAbs < B ^ K := by
  rw [rdiv_num]
  refine Nat.lt_of_le_of_lt (Int.natAbs_ediv_le_natAbs _ _) (Nat.lt_of_le_of_lt ?_ h)
  rw [Int.natAbs_mul]
  have : y.sign.natAbs ≤ 1 := by have := sign_bd y; omega
  exact Nat.le_trans (Nat.mul_le_mul_right _ this) (by omega)
theorem rdiv_db {x y : Int} {K : Nat} (h : y.natAbs < B ^ K) (h0 : y ≠ 0) : (Rat.divInt x y).den < B ^ K := by
  rw [Rat.den_divInt, if_neg h0]
  exact Nat.lt_of_le_of_lt (Nat.div_le_self _ _) h
end Go.Proofs.YtldkddogadmpbaaDoor
namespace Go.Proofs.YtldkddogadmpbaaDoor
open Go.RowKit Mat
set_option maxRecDepth 100000
set_option linter.unusedVariables false
set_option linter.unusedSimpArgs false
theorem heap_lt {w : World} {g : Nat} {o : Obj} (h : w.heap[g]? = some o) : g < w.heap.size := (Array.getElem?_eq_some_iff.1 h).1
def BoxZ (W : World) (p : Nat) (z : Int) : Prop := ∃ s xs b, W.heap[p]? = some (.cells #[.slice s xs xs, .bool b] 28 (0, 0)) ∧ IntV W (.agg #[.slice s xs xs, .bool b]) z
theorem BoxZ.open {W : World} {p : Nat} {z : Int} (h : BoxZ W p z) : ∃ (s : Option Addr) (xs : List Nat) (b : Bool), W.heap[p]? = some (.cells #[.slice s xs.length xs.length, .bool b] 28 (0, 0)) ∧ IntV W (.agg #[.slice s xs.length xs.length, .bool b]) z := by
  obtain ⟨s, l, b, h1, h2⟩ := h
  obtain ⟨s2, xs, b2, e, h3⟩ := h2
  cases e
  exact ⟨s, xs, b, h1, s, xs, b, rfl, h3⟩
end Go.Proofs.YtldkddogadmpbaaDoor
