/- What the laws lean on, part 13. -/
import Derived.Test.YthbhgcaemcobeaaGreatDoorMp11
import Derived.Test.YthbhgcaemcobeaaGreatDoorMp9
import Derived.Test.YthbhgcaemcobeaaGreatDoorMp8
import Derived.Test.YthbhgcaemcobeaaGreatDoorMp12
namespace Go.Proofs.YthbhgcaemcobeaaGreatDoor
open Go.RowKit Mat
set_option maxRecDepth 100000
set_option linter.unusedVariables false
set_option linter.unusedSimpArgs false
def dn (r : Rat) : Int := if r.den = 1 then 0 else (r.den : Int)
def RatV (w : World) (v : Value) (r : Rat) : Prop := ∃ (s : Option Addr) (xs : List Nat) (b : Bool) (s' : Option Addr) (xs' : List Nat) (b' : Bool), v = .agg #[.slice s xs.length xs.length, .bool b, .slice s' xs'.length xs'.length, .bool b'] ∧ IntV w (.agg #[.slice s xs.length xs.length, .bool b]) r.num ∧ IntV w (.agg #[.slice s' xs'.length xs'.length, .bool b']) (dn r)
theorem RatV.kept {w w' : World} {v : Value} {r : Rat} (h : RatV w v r) (hg : w.grownBy w' none) : RatV w' v r := by
  obtain ⟨s, xs, b, s', xs', b', e, h1, h2⟩ := h
  exact ⟨s, xs, b, s', xs', b', e, h1.kept hg, h2.kept hg⟩
theorem RatV.zero (w : World) : RatV w (.agg #[.slice none 0 0, .bool false, .slice none 0 0, .bool false]) 0 := ⟨none, [], false, none, [], false, rfl, IntV.zero w, IntV.zero w⟩
def RetRat (w : World) (r : Rat) (e : Ending) (w' : World) : Prop := ∃ v, e = .returned v ∧ RatV w' v r ∧ w.grownBy w' none
def RetRatE (w : World) (r : Rat) (code : Int) (e : Ending) (w' : World) : Prop := ∃ v, e = .returned (.tuple #[v, .int .i64 code]) ∧ RatV w' v r ∧ w.grownBy w' none
def RetB (w : World) (b : Bool) (e : Ending) (w' : World) : Prop := e = .returned (.bool b) ∧ w.grownBy w' none
theorem dn_bd {r : Rat} {K : Nat} (h : r.den < B ^ K) : (dn r).natAbs < B ^ K := by
  unfold dn
  split
  · exact Nat.pow_pos B_pos
  · rw [Int.natAbs_natCast]; exact h
theorem fmul_bd {x y : Int} {K L : Nat} (hx : x.natAbs < B ^ K) (hy : y.natAbs < B ^ L) : (x * y).natAbs < B ^ (K + L) := by
  rw [Int.natAbs_mul, Nat.pow_add]
  exact Nat.mul_lt_mul'' hx hy
def rcmp (a b : Rat) : Int := zcmp (a.num * (b.den : Int)) (b.num * (a.den : Int))
theorem rcmp_whole {a b : Rat} (ha : a.den = 1) (hb : b.den = 1) : zcmp a.num b.num = rcmp a b := by
  unfold rcmp; rw [ha, hb]; simp
theorem dn_neg (r : Rat) : dn (-r) = dn r := by unfold dn; rw [Rat.neg_den]
theorem dn_int (x : Int) : dn (x : Rat) = 0 := by unfold dn; rw [if_pos (Rat.den_intCast x)]
theorem rmul_num (a b : Rat) : (a * b).num = (a.num / ((Nat.gcd a.num.natAbs b.den : Nat) : Int)) * (b.num / ((Nat.gcd b.num.natAbs a.den : Nat) : Int)) := by
  show (Rat.mul a b).num = _
  unfold Rat.mul
  rfl
theorem rmul_den (a b : Rat) : (a * b).den = (a.den / Nat.gcd b.num.natAbs a.den) * (b.den / Nat.gcd a.num.natAbs b.den) := by
  show (Rat.mul a b).den = _
  unfold Rat.mul
  rfl
theorem radd_parts (a b : Rat) (g g1 : Nat) (n : Int) (hg : g = Nat.gcd a.den b.den) (hn : n = a.num * ((b.den / g : Nat) : Int) + b.num * ((a.den / g : Nat) : Int)) (hg1 : g1 = Nat.gcd n.natAbs g) :
    (a + b).num = n / (g1 : Int) ∧ (a + b).den = (a.den / g) * (b.den / g1) := by
  have hd : g1 ∣ b.den := by rw [hg1, hg]; exact Nat.dvd_trans (Nat.gcd_dvd_right _ _) (Nat.gcd_dvd_right _ _)
  have hgn : g1 ∣ n.natAbs := by rw [hg1]; exact Nat.gcd_dvd_left _ _
  have hmul : (a.den / g) * (b.den / g1) = (a.den / g) * b.den / g1 := (Nat.mul_div_assoc _ hd).symm
  show (Rat.add a b).num = _ ∧ (Rat.add a b).den = _
  unfold Rat.add
  by_cases h : g = 1
  · have h1 : g1 = 1 := by rw [hg1, h, Nat.gcd_one_right]
    rw [dif_pos (by rw [← hg]; exact h)]
    dsimp only
    rw [hn, h1]
    have e1 : b.den / g = b.den := by rw [h, Nat.div_one]
    have e2 : a.den / g = a.den := by rw [h, Nat.div_one]
    rw [e1, e2, Nat.div_one]
    exact ⟨(Int.ediv_one _).symm, rfl⟩
  · rw [dif_neg (by rw [← hg]; exact h)]
    dsimp only
    rw [Rat.maybeNormalize_eq]
    dsimp only
    rw [Int.divExact_eq_ediv, hmul]
    subst hg
    subst hn
    subst hg1
    exact ⟨rfl, rfl⟩
theorem rinv_pos (t : Rat) (h : 0 < t.num) : (t⁻¹).num = (t.den : Int) ∧ ((t⁻¹).den : Int) = t.num := by
  show (Rat.inv t).num = _ ∧ ((Rat.inv t).den : Int) = _
  unfold Rat.inv
  rw [dif_neg (by omega), dif_pos h]
  exact ⟨rfl, by dsimp only; omega⟩
theorem rinv_neg (t : Rat) (h : t.num < 0) : (t⁻¹).num = -(t.den : Int) ∧ ((t⁻¹).den : Int) = -t.num := by
  show (Rat.inv t).num = _ ∧ ((Rat.inv t).den : Int) = _
  unfold Rat.inv
  rw [dif_pos h]
  exact ⟨rfl, by dsimp only; omega⟩
def rsg (r : Rat) : Int := r.num.sign
theorem sign_ediv {n : Int} {g : Nat} (h : (g : Int) ∣ n) (hg : 0 < g) : (n / (g : Int)).sign = n.sign := by
  obtain ⟨k, rfl⟩ := h
  rw [Int.mul_ediv_cancel_left _ (by omega), Int.sign_mul, Int.sign_eq_one_of_pos (by omega : (0 : Int) < g), Int.one_mul]
theorem rsg_divInt {n d : Int} (hd : 0 < d) : rsg (Rat.divInt n d) = n.sign := by
  unfold rsg
  rw [Rat.num_divInt, Int.sign_eq_one_of_pos hd, Int.one_mul]
  exact sign_ediv (Int.gcd_dvd_right _ _) (by rw [Int.gcd_comm]; exact Int.gcd_pos_of_ne_zero_right _ (by omega))
theorem rat_divInt (r : Rat) : Rat.divInt r.num (r.den : Int) = r := Rat.num_divInt_den r
theorem zcmp_subE (x y : Int) : (x - y).sign = zcmp x y := by
  unfold zcmp
  rcases Int.lt_trichotomy x y with h | h | h
  · rw [if_pos h]; exact Int.sign_eq_neg_one_of_neg (by omega)
  · rw [if_neg (by omega), if_pos h, show x - y = 0 by omega]; rfl
  · rw [if_neg (by omega), if_neg (by omega)]; exact Int.sign_eq_one_of_pos (by omega)
theorem sign_bdE (z : Int) : -1 ≤ z.sign ∧ z.sign ≤ 1 := by
  rcases zsign z with ⟨_, e⟩ | ⟨_, e⟩ | ⟨_, e⟩ <;> omega
theorem rcmp_sub (a b : Rat) : rcmp a b = rsg (a - b) := by
  have h : a - b = Rat.divInt (a.num * (b.den : Int) - b.num * (a.den : Int)) ((a.den : Int) * (b.den : Int)) := by
    rw [Rat.sub_def', ← Int.natCast_mul, Rat.divInt_ofNat]
  have h1 := a.den_pos
  have h2 := b.den_pos
  rw [h, rsg_divInt (by exact_mod_cast Nat.mul_pos h1 h2), zcmp_subE]
  rfl
theorem rcmp_self (a : Rat) : rcmp a a = 0 := by rw [rcmp_sub, Rat.sub_self]; rfl
theorem rcmp_eq {a b : Rat} (h : a = b) : rcmp a b = 0 := by rw [h]; exact rcmp_self b
theorem rcmp_divInt {n m d e : Int} (hd : 0 < d) (he : 0 < e) : rcmp (Rat.divInt n d) (Rat.divInt m e) = zcmp (n * e) (m * d) := by
  rw [rcmp_sub, Rat.divInt_sub_divInt _ _ (by omega) (by omega), rsg_divInt (Int.mul_pos hd he), zcmp_subE]
theorem rsg_mul (a b : Rat) : rsg (a * b) = rsg a * rsg b := by
  have h : a * b = Rat.divInt (a.num * b.num) ((a.den : Int) * (b.den : Int)) := by
    rw [Rat.mul_def', ← Int.natCast_mul, Rat.divInt_ofNat]
  rw [h, rsg_divInt (by have h1 := a.den_pos; have h2 := b.den_pos; exact_mod_cast Nat.mul_pos h1 h2), Int.sign_mul]
  rfl
theorem rsg_neg (a : Rat) : rsg (-a) = -rsg a := by unfold rsg; rw [Rat.neg_num, Int.sign_neg]
theorem qcmp_add (a b c : Rat) : rcmp (a + c) (b + c) = rcmp a b := by
  rw [rcmp_sub, rcmp_sub]; congr 1; grind
theorem qcmp_mul (a b c : Rat) : rcmp (a * c) (b * c) = rcmp a b * rsg c := by
  rw [rcmp_sub, rcmp_sub, ← rsg_mul]; congr 1; grind
theorem qcmp_swap (a b : Rat) : rcmp b a = -rcmp a b := by
  rw [rcmp_sub, rcmp_sub, ← rsg_neg]; congr 1; grind
theorem rsg_pos {a : Rat} : rsg a = 1 ↔ 0 < a := by
  unfold rsg
  rw [Int.sign_eq_one_iff_pos, Rat.lt_iff]; simp
theorem rsg_zero {a : Rat} : rsg a = 0 ↔ a = 0 := by
  unfold rsg
  rw [Int.sign_eq_zero_iff_zero, Rat.num_eq_zero]
theorem rsg_nz {a : Rat} : rsg a = -1 ↔ a < 0 := by
  unfold rsg
  rw [Int.sign_eq_neg_one_iff_neg, Rat.lt_iff]; simp
theorem rcmp_lt {a b : Rat} : rcmp a b = -1 ↔ a < b := by rw [rcmp_sub, rsg_nz]; constructor <;> intro h <;> grind
theorem rcmp_gt {a b : Rat} : rcmp a b = 1 ↔ b < a := by rw [rcmp_sub, rsg_pos]; constructor <;> intro h <;> grind
theorem rcmp_zero {a b : Rat} : rcmp a b = 0 ↔ a = b := by rw [rcmp_sub, rsg_zero]; constructor <;> intro h <;> grind
theorem rcmp_or (a b : Rat) : rcmp a b = -1 ∨ rcmp a b = 0 ∨ rcmp a b = 1 := by
  rcases Int.lt_trichotomy ((a - b).num) 0 with h | h | h
  · left; rw [rcmp_sub]; exact Int.sign_eq_neg_one_of_neg h
  · right; left; rw [rcmp_sub]; unfold rsg; rw [h]; rfl
  · right; right; rw [rcmp_sub]; exact Int.sign_eq_one_of_pos h
theorem floor_divInt {n d : Int} (hd : 0 < d) : (Rat.divInt n d).floor = n / d := by
  have h0 : d ≠ 0 := by omega
  obtain ⟨r, hr⟩ : ∃ r, Rat.divInt n d = r := ⟨_, rfl⟩
  have hp := r.den_pos
  have h := (Rat.divInt_eq_divInt_iff h0 (show ((r.den : Nat) : Int) ≠ 0 by omega)).1 (hr.trans (rat_divInt r).symm)
  rw [hr, Rat.floor_def, ← Int.mul_ediv_mul_of_pos_left n d (show (0 : Int) < (r.den : Int) by omega), h, Int.mul_comm d, Int.mul_ediv_mul_of_pos_left _ _ hd]
def rnear (r : Rat) : Int :=
  if zcmp (r.num % (r.den : Int) + r.num % (r.den : Int)) (r.den : Int) = -1 then r.num / (r.den : Int)
  else if zcmp (r.num % (r.den : Int) + r.num % (r.den : Int)) (r.den : Int) = 1 then r.num / (r.den : Int) + 1
  else if (r.num / (r.den : Int)) % 2 = 0 then r.num / (r.den : Int) else r.num / (r.den : Int) + 1
theorem rnear_cmp (r : Rat) : rcmp (r - (r.floor : Int)) (((r.floor + 1 : Int) : Rat) - r) = zcmp (r.num % (r.den : Int) + r.num % (r.den : Int)) (r.den : Int) := by
  have hp := r.den_pos
  have e1 : ∀ z : Int, (z : Rat) = Rat.divInt (z * (r.den : Int)) (r.den : Int) := fun z => by
    rw [Rat.divInt_ofNat, Rat.mkRat_eq_div, Rat.intCast_mul, Rat.intCast_natCast, Rat.mul_div_cancel (by exact_mod_cast (by omega : r.den ≠ 0))]
  have e2 : r - (r.floor : Int) - (((r.floor + 1 : Int) : Rat) - r) = r + r - ((2 * r.floor + 1 : Int) : Rat) := by
    rw [show (2 * r.floor + 1 : Int) = r.floor + (r.floor + 1) by omega, Rat.intCast_add]; grind
  have e3 : r + r = Rat.divInt (r.num + r.num) (r.den : Int) := by
    rw [Rat.divInt_ofNat, Rat.mkRat_eq_div, Rat.intCast_add, Rat.div_def, Rat.add_mul, ← Rat.div_def, ← Rat.mkRat_eq_div, Rat.mkRat_self]
  have e4 : r + r - ((2 * r.floor + 1 : Int) : Rat) = Rat.divInt (r.num + r.num - (2 * r.floor + 1) * (r.den : Int)) (r.den : Int) := by
    rw [e3, e1 (2 * r.floor + 1), Rat.divInt_ofNat, Rat.divInt_ofNat, Rat.divInt_ofNat, Rat.mkRat_eq_div, Rat.mkRat_eq_div, Rat.mkRat_eq_div, Rat.intCast_sub]
    simp only [Rat.div_def]; grind
  rw [rcmp_sub, e2, e4, rsg_divInt (by omega), ← zcmp_subE]
  congr 1
  have h := Int.mul_ediv_add_emod r.num (r.den : Int)
  rw [Rat.floor_def]
  grind
theorem rnear_beside (r : Rat) : (rcmp (r - (r.floor : Int)) (((r.floor + 1 : Int) : Rat) - r) ≤ 0 ∧ rnear r = r.floor) ∨ (0 ≤ rcmp (r - (r.floor : Int)) (((r.floor + 1 : Int) : Rat) - r) ∧ rnear r = r.floor + 1) := by
  rw [rnear_cmp]
  unfold rnear
  rw [Rat.floor_def]
  have hc : ∀ x y, zcmp x y = -1 ∨ zcmp x y = 0 ∨ zcmp x y = 1 := fun x y => by unfold zcmp; split <;> (try split) <;> simp
  replace hc := hc (r.num % (r.den : Int) + r.num % (r.den : Int)) (r.den : Int)
  generalize zcmp (r.num % (r.den : Int) + r.num % (r.den : Int)) (r.den : Int) = c at *
  split
  · left; exact ⟨by omega, rfl⟩
  · split
    · right; exact ⟨by omega, rfl⟩
    · split
      · by_cases h : c ≤ 0
        · left; exact ⟨h, rfl⟩
        · exfalso; have := hc; omega
      · by_cases h : 0 ≤ c
        · right; exact ⟨h, rfl⟩
        · exfalso; have := hc; omega
theorem rnear_half (r : Rat) : r - ((rnear r : Int) : Rat) ≤ 1 / 2 ∧ ((rnear r : Int) : Rat) - r ≤ 1 / 2 := by
  have h1 := Rat.floor_le r
  have h2 := Rat.lt_floor_add_one r
  rw [Rat.intCast_add] at h2
  rcases rnear_beside r with ⟨h, e⟩ | ⟨h, e⟩
  · have h3 : r - (r.floor : Int) ≤ ((r.floor + 1 : Int) : Rat) - r := by
      rcases rcmp_or (r - (r.floor : Int)) (((r.floor + 1 : Int) : Rat) - r) with c | c | c
      · exact Rat.le_of_lt (rcmp_lt.1 c)
      · rw [rcmp_zero.1 c]; exact Rat.le_refl
      · omega
    rw [Rat.intCast_add] at h3
    rw [e]
    constructor <;> grind
  · have h3 : ((r.floor + 1 : Int) : Rat) - r ≤ r - (r.floor : Int) := by
      rcases rcmp_or (r - (r.floor : Int)) (((r.floor + 1 : Int) : Rat) - r) with c | c | c
      · omega
      · rw [rcmp_zero.1 c]; exact Rat.le_refl
      · exact Rat.le_of_lt (rcmp_gt.1 c)
    rw [e]
    rw [Rat.intCast_add] at h3 ⊢
    constructor <;> grind
theorem rdiv_num (x y : Int) : (Rat.divInt x y).num = y.sign * x / ((Nat.gcd x.natAbs y.natAbs : Nat) : Int) := by
  rw [Rat.num_divInt, show Int.gcd y x = Nat.gcd x.natAbs y.natAbs from Nat.gcd_comm _ _]
theorem rdiv_den (x y : Int) (h : y ≠ 0) : (((Rat.divInt x y).den : Nat) : Int) = (y.natAbs : Int) / ((Nat.gcd x.natAbs y.natAbs : Nat) : Int) := by
  rw [Rat.den_divInt, if_neg h, show Int.gcd y x = Nat.gcd x.natAbs y.natAbs from Nat.gcd_comm _ _]; rfl
theorem rdiv_nb {x y : Int} {K : Nat} (h : x.natAbs < B ^ K) : (Rat.divInt x y).num.natAbs < B ^ K := by
  rw [rdiv_num]
  refine Nat.lt_of_le_of_lt (Int.natAbs_ediv_le_natAbs _ _) (Nat.lt_of_le_of_lt ?_ h)
  rw [Int.natAbs_mul]
  have : y.sign.natAbs ≤ 1 := by have := sign_bdE y; omega
  exact Nat.le_trans (Nat.mul_le_mul_right _ this) (by omega)
theorem rdiv_db {x y : Int} {K : Nat} (h : y.natAbs < B ^ K) (h0 : y ≠ 0) : (Rat.divInt x y).den < B ^ K := by
  rw [Rat.den_divInt, if_neg h0]
  exact Nat.lt_of_le_of_lt (Nat.div_le_self _ _) h
theorem rmul_whole {a b : Rat} (ha : a.den = 1) (hb : b.den = 1) : (a * b).num = a.num * b.num ∧ dn (a * b) = 0 := by
  constructor
  · rw [rmul_num, ha, hb]; simp
  · unfold dn; rw [if_pos (by rw [rmul_den, ha, hb]; simp)]
theorem fbw {a K L : Nat} (h : a < B ^ K) (hl : K ≤ L) : a < B ^ L := Nat.lt_of_lt_of_le h (Nat.pow_le_pow_right B_pos hl)
theorem fadd_bd {x y : Int} {K : Nat} (hx : x.natAbs < B ^ K) (hy : y.natAbs < B ^ K) : (x + y).natAbs < B ^ (K + 1) := by
  have h1 := Int.natAbs_add_le x y
  rw [Nat.pow_succ]
  have h2 : B ^ K * 2 ≤ B ^ K * B := Nat.mul_le_mul_left _ (by unfold B; omega)
  omega
theorem radd_whole {a b : Rat} (ha : a.den = 1) (hb : b.den = 1) : (a + b).num = a.num + b.num ∧ dn (a + b) = 0 := by
  have h := radd_parts a b 1 1 (a.num + b.num) (by rw [ha, hb]; rfl) (by rw [ha, hb]; simp) (by rw [Nat.gcd_one_right])
  constructor
  · rw [h.1]; simp
  · unfold dn; rw [if_pos (by rw [h.2, ha, hb])]
theorem rsub_whole {a b : Rat} (ha : a.den = 1) (hb : b.den = 1) : (a - b).num = a.num - b.num ∧ dn (a - b) = 0 := by
  rw [Rat.sub_eq_add_neg]
  have h := radd_whole ha (show (-b).den = 1 by rw [Rat.neg_den]; exact hb)
  rw [Rat.neg_num] at h
  exact h
theorem fmake_pos (x y : Int) (h : 0 < y) : (Rat.divInt x y).num = x / ((Nat.gcd x.natAbs y.natAbs : Nat) : Int) ∧ (((Rat.divInt x y).den : Nat) : Int) = y / ((Nat.gcd x.natAbs y.natAbs : Nat) : Int) := by
  constructor
  · rw [rdiv_num, Int.sign_eq_one_of_pos h, Int.one_mul]
  · rw [rdiv_den x y (by omega), Int.natAbs_of_nonneg (by omega)]
theorem fshare_bd {x : Int} {g K : Nat} (h : x.natAbs < B ^ K) : (x / (g : Int)).natAbs < B ^ K := Nat.lt_of_le_of_lt (Int.natAbs_ediv_le_natAbs _ _) h
def RetInt2 (w : World) (n k : Int) (e : Ending) (w' : World) : Prop := ∃ v u, e = .returned (.tuple #[v, u]) ∧ IntV w' v n ∧ IntV w' u k ∧ w.grownBy w' none
end Go.Proofs.YthbhgcaemcobeaaGreatDoor
namespace Go.Proofs.YthbhgcaemcobeaaGreatDoor.PM
set_option linter.unusedVariables false
set_option linter.unusedSimpArgs false
abbrev Pq := Rat × Rat
def pcross (a b c : Pq) : Rat := (b.1 - a.1) * (c.2 - a.2) - (b.2 - a.2) * (c.1 - a.1)
def pdot (a b c : Pq) : Rat := (b.1 - a.1) * (c.1 - a.1) + (b.2 - a.2) * (c.2 - a.2)
def ple (p q : Pq) : Prop := p.1 < q.1 ∨ p.1 = q.1 ∧ p.2 ≤ q.2
def pat (a b : Pq) (t : Rat) : Pq := (a.1 + (b.1 - a.1) * t, a.2 + (b.2 - a.2) * t)
def InS (a b p : Pq) : Prop := ∃ t : Rat, 0 ≤ t ∧ t ≤ 1 ∧ p = pat a b t
theorem ple_refl (p : Pq) : ple p p := Or.inr ⟨rfl, Rat.le_refl⟩
theorem ple_antisymm {p q : Pq} (h : ple p q) (h' : ple q p) : p = q := by
  obtain ⟨a, b⟩ := p; obtain ⟨c, d⟩ := q
  simp only [ple] at h h'
  have : a = c := by grind
  have : b = d := by grind
  grind
theorem ple_trans {p q r : Pq} (h : ple p q) (h' : ple q r) : ple p r := by
  simp only [ple] at *; grind
theorem ple_total (p q : Pq) : ple p q ∨ ple q p := by
  simp only [ple]; grind
theorem sq_pos {x : Rat} (h : x ≠ 0) : 0 < x * x := by
  rcases (show x < 0 ∨ 0 < x by grind) with h | h
  · have := Rat.mul_pos (show 0 < -x by grind) (show 0 < -x by grind)
    grind
  · exact Rat.mul_pos h h
theorem sq_nonneg (x : Rat) : 0 ≤ x * x := by
  by_cases h : x = 0
  · subst h; grind
  · have := sq_pos h; grind
theorem norm_pos {a b : Pq} (h : a ≠ b) : 0 < (b.1 - a.1) * (b.1 - a.1) + (b.2 - a.2) * (b.2 - a.2) := by
  obtain ⟨a1, a2⟩ := a; obtain ⟨b1, b2⟩ := b
  by_cases h1 : b1 - a1 = 0
  · have h2 : b2 - a2 ≠ 0 := fun e => h (by grind)
    have := sq_pos h2
    have := sq_nonneg (b1 - a1)
    dsimp only; grind
  · have := sq_pos h1
    have := sq_nonneg (b2 - a2)
    dsimp only; grind
theorem col_at {a b p : Pq} (h : a ≠ b) (hc : pcross a b p = 0) : ∃ t, p = pat a b t := by
  have hn := norm_pos h
  obtain ⟨a1, a2⟩ := a; obtain ⟨b1, b2⟩ := b; obtain ⟨p1, p2⟩ := p
  simp only [pcross] at hc hn
  refine ⟨((b1 - a1) * (p1 - a1) + (b2 - a2) * (p2 - a2)) / ((b1 - a1) * (b1 - a1) + (b2 - a2) * (b2 - a2)), ?_⟩
  simp only [pat, Prod.mk.injEq]
  generalize hN : (b1 - a1) * (b1 - a1) + (b2 - a2) * (b2 - a2) = N at *
  have hN0 : N ≠ 0 := by grind
  constructor <;> grind
theorem cross_at (a b : Pq) (t : Rat) : pcross a b (pat a b t) = 0 := by simp only [pcross, pat]; grind
theorem dot_at (a b : Pq) (t : Rat) : pdot (pat a b t) a b = (t * t - t) * ((b.1 - a.1) * (b.1 - a.1) + (b.2 - a.2) * (b.2 - a.2)) := by simp only [pdot, pat]; grind
theorem unit_of {t : Rat} (h : t * t - t ≤ 0) : 0 ≤ t ∧ t ≤ 1 := by
  constructor
  · rcases (show t < 0 ∨ 0 ≤ t by grind) with h1 | h1
    · have := Rat.mul_pos (show 0 < -t by grind) (show 0 < -t by grind); grind
    · exact h1
  · rcases (show 1 < t ∨ t ≤ 1 by grind) with h1 | h1
    · have := Rat.mul_pos (show 0 < t by grind) (show 0 < t - 1 by grind); grind
    · exact h1
theorem of_unit {t : Rat} (h : 0 ≤ t) (h1 : t ≤ 1) : t * t - t ≤ 0 := by
  have := Rat.mul_nonneg h (show 0 ≤ 1 - t by grind); grind
theorem ins_self {a p : Pq} : InS a a p ↔ p = a := by
  constructor
  · rintro ⟨t, _, _, rfl⟩; simp only [pat]; exact Prod.ext (by grind) (by grind)
  · rintro rfl; exact ⟨0, by grind, by grind, by simp only [pat]; exact Prod.ext (by grind) (by grind)⟩
theorem ins_doc {a b p : Pq} : InS a b p ↔ pcross a b p = 0 ∧ pdot p a b ≤ 0 := by
  constructor
  · rintro ⟨t, h0, h1, rfl⟩
    refine ⟨cross_at _ _ _, ?_⟩
    rw [dot_at]
    have h2 := of_unit h0 h1
    have h3 : 0 ≤ (b.1 - a.1) * (b.1 - a.1) + (b.2 - a.2) * (b.2 - a.2) := by
      have := sq_nonneg (b.1 - a.1); have := sq_nonneg (b.2 - a.2); grind
    have := Rat.mul_nonneg (show 0 ≤ -(t * t - t) by grind) h3
    grind
  · rintro ⟨hc, hd⟩
    by_cases h : a = b
    · subst h
      rw [ins_self]
      by_cases hp : p = a
      · exact hp
      · have := norm_pos hp
        simp only [pdot] at hd; grind
    · obtain ⟨t, rfl⟩ := col_at h hc
      rw [dot_at] at hd
      have hn := norm_pos h
      have : t * t - t ≤ 0 := by
        rcases (show t * t - t ≤ 0 ∨ 0 < t * t - t by grind) with h1 | h1
        · exact h1
        · have := Rat.mul_pos h1 hn; grind
      exact ⟨t, (unit_of this).1, (unit_of this).2, rfl⟩
theorem ple_at {a b : Pq} (h : ple a b) (hne : a ≠ b) {s t : Rat} : ple (pat a b s) (pat a b t) ↔ s ≤ t := by
  obtain ⟨a1, a2⟩ := a; obtain ⟨b1, b2⟩ := b
  simp only [ple, pat] at h ⊢
  rcases h with h | ⟨rfl, h⟩
  · have hd : 0 < b1 - a1 := by grind
    constructor
    · intro hh
      rcases (show s ≤ t ∨ t < s by grind) with h1 | h1
      · exact h1
      · have := Rat.mul_pos hd (show 0 < s - t by grind); grind
    · intro hh
      rcases (show s = t ∨ s < t by grind) with h1 | h1
      · subst h1; exact Or.inr ⟨rfl, Rat.le_refl⟩
      · have := Rat.mul_pos hd (show 0 < t - s by grind); left; grind
  · have hd : 0 < b2 - a2 := by
      have : a2 ≠ b2 := fun e => hne (by rw [e])
      grind
    constructor
    · intro hh
      rcases (show s ≤ t ∨ t < s by grind) with h1 | h1
      · exact h1
      · have := Rat.mul_pos hd (show 0 < s - t by grind); grind
    · intro hh
      right
      refine ⟨by grind, ?_⟩
      have := Rat.mul_nonneg (show 0 ≤ b2 - a2 by grind) (show 0 ≤ t - s by grind); grind
theorem at_zero (a b : Pq) : pat a b 0 = a := by simp only [pat]; exact Prod.ext (by grind) (by grind)
theorem at_one (a b : Pq) : pat a b 1 = b := by simp only [pat]; exact Prod.ext (by grind) (by grind)
theorem at_back (a b : Pq) (t : Rat) : pat a b t = pat b a (1 - t) := by simp only [pat]; exact Prod.ext (by grind) (by grind)
theorem cross_back (a b p : Pq) : pcross b a p = - pcross a b p := by simp only [pcross]; grind
theorem ins_back {a b p : Pq} : InS a b p ↔ InS b a p := by
  constructor
  · rintro ⟨t, h0, h1, rfl⟩; exact ⟨1 - t, by grind, by grind, at_back _ _ _⟩
  · rintro ⟨t, h0, h1, rfl⟩; exact ⟨1 - t, by grind, by grind, at_back _ _ _⟩
theorem ins_lex {a b p : Pq} (h : ple a b) : InS a b p ↔ ple a p ∧ ple p b ∧ pcross a b p = 0 := by
  by_cases hab : a = b
  · subst hab
    rw [ins_self]
    constructor
    · rintro rfl; exact ⟨ple_refl _, ple_refl _, by simp only [pcross]; grind⟩
    · rintro ⟨h1, h2, _⟩; exact ple_antisymm h2 h1
  · constructor
    · rintro ⟨t, h0, h1, rfl⟩
      have e0 := (ple_at h hab (s := 0) (t := t)).2 h0
      have e1 := (ple_at h hab (s := t) (t := 1)).2 h1
      rw [at_zero] at e0; rw [at_one] at e1
      exact ⟨e0, e1, cross_at _ _ _⟩
    · rintro ⟨h1, h2, hc⟩
      obtain ⟨t, rfl⟩ := col_at hab hc
      refine ⟨t, (ple_at h hab (s := 0) (t := t)).1 (by rw [at_zero]; exact h1), (ple_at h hab (s := t) (t := 1)).1 (by rw [at_one]; exact h2), rfl⟩
def plt (p q : Pq) : Prop := p.1 < q.1 ∨ p.1 = q.1 ∧ p.2 < q.2
theorem plt_iff {p q : Pq} : plt p q ↔ ¬ ple q p := by simp only [plt, ple]; grind
theorem plt_ple {p q : Pq} (h : plt p q) : ple p q := by simp only [plt, ple] at *; grind
theorem plt_ne {p q : Pq} (h : plt p q) : p ≠ q := by rintro rfl; simp only [plt] at h; grind
theorem plt_of {p q : Pq} (h : ple p q) (hne : p ≠ q) : plt p q := by
  obtain ⟨a, b⟩ := p; obtain ⟨c, d⟩ := q
  simp only [plt, ple] at *
  rcases h with h | ⟨rfl, h⟩
  · exact Or.inl h
  · right; refine ⟨rfl, ?_⟩
    have : b ≠ d := fun e => hne (by rw [e])
    grind
inductive Told : List Pq → (Pq → Prop) → Prop
  | none {S : Pq → Prop} : (∀ p, ¬ S p) → Told [] S
  | one {S : Pq → Prop} (p : Pq) : (∀ q, S q ↔ q = p) → Told [p] S
  | two {S : Pq → Prop} (p q : Pq) : plt p q → (∀ r, S r ↔ InS p q r) → Told [p, q] S
theorem ins_left (p q : Pq) : InS p q p := ⟨0, by grind, by grind, (at_zero _ _).symm⟩
theorem ins_right (p q : Pq) : InS p q q := ⟨1, by grind, by grind, (at_one _ _).symm⟩
theorem told_uniq {l m : List Pq} {S : Pq → Prop} (h : Told l S) (h' : Told m S) : l = m := by
  cases h with
  | none h =>
    cases h' with
    | none _ => rfl
    | one p h1 => exact absurd ((h1 p).2 rfl) (h p)
    | two p q _ h1 => exact absurd ((h1 p).2 (ins_left p q)) (h p)
  | one p h =>
    cases h' with
    | none h1 => exact absurd ((h p).2 rfl) (h1 p)
    | one q h1 => rw [(h1 p).1 ((h p).2 rfl)]
    | two q r hl h1 =>
      have e1 := (h q).1 ((h1 q).2 (ins_left q r))
      have e2 := (h r).1 ((h1 r).2 (ins_right q r))
      exact absurd (e1.trans e2.symm) (plt_ne hl)
  | two p q hl h =>
    cases h' with
    | none h1 => exact absurd ((h p).2 (ins_left p q)) (h1 p)
    | one r h1 =>
      have e1 := (h1 p).1 ((h p).2 (ins_left p q))
      have e2 := (h1 q).1 ((h q).2 (ins_right p q))
      exact absurd (e1.trans e2.symm) (plt_ne hl)
    | two p' q' hl' h1 =>
      have a1 := (ins_lex (plt_ple hl')).1 ((h1 p).1 ((h p).2 (ins_left p q)))
      have a2 := (ins_lex (plt_ple hl')).1 ((h1 q).1 ((h q).2 (ins_right p q)))
      have b1 := (ins_lex (plt_ple hl)).1 ((h p').1 ((h1 p').2 (ins_left p' q')))
      have b2 := (ins_lex (plt_ple hl)).1 ((h q').1 ((h1 q').2 (ins_right p' q')))
      rw [ple_antisymm b1.1 a1.1, ple_antisymm a2.2.1 b2.2.1]
noncomputable def lo (a b : Pq) : Pq := open Classical in if ple a b then a else b
noncomputable def hi (a b : Pq) : Pq := open Classical in if ple a b then b else a
theorem lohi (a b : Pq) : (ple a b ∧ lo a b = a ∧ hi a b = b) ∨ (ple b a ∧ ¬ ple a b ∧ lo a b = b ∧ hi a b = a) := by
  unfold lo hi
  by_cases h : ple a b
  · left; simp [h]
  · right; refine ⟨(ple_total a b).resolve_left h, h, ?_, ?_⟩ <;> simp [h]
theorem lo_le_hi (a b : Pq) : ple (lo a b) (hi a b) := by
  rcases lohi a b with ⟨h, e1, e2⟩ | ⟨h, _, e1, e2⟩ <;> rw [e1, e2] <;> exact h
theorem ins_lohi {a b p : Pq} : InS a b p ↔ InS (lo a b) (hi a b) p := by
  rcases lohi a b with ⟨h, e1, e2⟩ | ⟨h, _, e1, e2⟩ <;> rw [e1, e2]
  exact ins_back
theorem ins_prog {a b p : Pq} : InS a b p ↔ ple (lo a b) p ∧ ple p (hi a b) ∧ pcross a b p = 0 := by
  rw [ins_lohi, ins_lex (lo_le_hi a b)]
  rcases lohi a b with ⟨h, e1, e2⟩ | ⟨h, _, e1, e2⟩ <;> rw [e1, e2]
  rw [cross_back b a]; grind
noncomputable def pmax (a b : Pq) : Pq := open Classical in if ple b a then a else b
noncomputable def pmin (a b : Pq) : Pq := open Classical in if ple a b then a else b
theorem pmax_le {a b p : Pq} : ple (pmax a b) p ↔ ple a p ∧ ple b p := by
  unfold pmax
  by_cases h : ple b a
  · rw [if_pos h]; exact ⟨fun h1 => ⟨h1, ple_trans h h1⟩, fun h1 => h1.1⟩
  · rw [if_neg h]; exact ⟨fun h1 => ⟨ple_trans ((ple_total b a).resolve_left h) h1, h1⟩, fun h1 => h1.2⟩
theorem le_pmin {a b p : Pq} : ple p (pmin a b) ↔ ple p a ∧ ple p b := by
  unfold pmin
  by_cases h : ple a b
  · rw [if_pos h]; exact ⟨fun h1 => ⟨h1, ple_trans h1 h⟩, fun h1 => h1.1⟩
  · rw [if_neg h]; exact ⟨fun h1 => ⟨ple_trans h1 ((ple_total a b).resolve_left h), h1⟩, fun h1 => h1.2⟩
theorem pmax_or (a b : Pq) : pmax a b = a ∨ pmax a b = b := by unfold pmax; split <;> simp
theorem pmin_or (a b : Pq) : pmin a b = a ∨ pmin a b = b := by unfold pmin; split <;> simp
theorem lo_or (a b : Pq) : lo a b = a ∨ lo a b = b := by unfold lo; split <;> simp
theorem hi_or (a b : Pq) : hi a b = a ∨ hi a b = b := by unfold hi; split <;> simp
theorem col_more {a b c d p : Pq} (hc : pcross a b c = 0) (hd : pcross a b d = 0) (hne : a ≠ b) (hp : pcross a b p = 0) : pcross c d p = 0 := by
  obtain ⟨s, rfl⟩ := col_at hne hc
  obtain ⟨t, rfl⟩ := col_at hne hd
  obtain ⟨u, rfl⟩ := col_at hne hp
  simp only [pcross, pat]; grind
theorem cross_aa (a p : Pq) : pcross a a p = 0 := by simp only [pcross]; grind
theorem cross_aba (a b : Pq) : pcross a b a = 0 := by simp only [pcross]; grind
theorem cross_abb (a b : Pq) : pcross a b b = 0 := by simp only [pcross]; grind
theorem meet_line {a b c d : Pq} (h1 : pcross a b c = 0) (h2 : pcross a b d = 0) (h3 : pcross c d a = 0) (h4 : pcross c d b = 0) (hm : ple (pmax (lo a b) (lo c d)) (pmin (hi a b) (hi c d))) (p : Pq) :
    InS a b p ∧ InS c d p ↔ InS (pmax (lo a b) (lo c d)) (pmin (hi a b) (hi c d)) p := by
  rw [ins_lex hm, ins_prog, ins_prog, pmax_le, le_pmin]
  have hf : pmax (lo a b) (lo c d) = a ∨ pmax (lo a b) (lo c d) = b ∨ pmax (lo a b) (lo c d) = c ∨ pmax (lo a b) (lo c d) = d := by
    rcases pmax_or (lo a b) (lo c d) with e | e <;> rw [e]
    · rcases lo_or a b with e | e <;> simp [e]
    · rcases lo_or c d with e | e <;> simp [e]
  have ht : pmin (hi a b) (hi c d) = a ∨ pmin (hi a b) (hi c d) = b ∨ pmin (hi a b) (hi c d) = c ∨ pmin (hi a b) (hi c d) = d := by
    rcases pmin_or (hi a b) (hi c d) with e | e <;> rw [e]
    · rcases hi_or a b with e | e <;> simp [e]
    · rcases hi_or c d with e | e <;> simp [e]
  have hfp := pmax_le (a := lo a b) (b := lo c d) (p := p)
  have htp := le_pmin (a := hi a b) (b := hi c d) (p := p)
  generalize pmax (lo a b) (lo c d) = f at *
  generalize pmin (hi a b) (hi c d) = t at *
  by_cases hab : a = b
  · by_cases hcd : c = d
    · subst hab; subst hcd
      have e1 : lo a a = a := (lo_or a a).elim id id
      have e2 : hi a a = a := (hi_or a a).elim id id
      have e3 : lo c c = c := (lo_or c c).elim id id
      have e4 : hi c c = c := (hi_or c c).elim id id
      rw [e1, e2, e3, e4] at *
      constructor
      · rintro ⟨⟨x1, x2, _⟩, x3, x4, _⟩
        refine ⟨⟨x1, x3⟩, ⟨x2, x4⟩, ?_⟩
        have ea := ple_antisymm x2 x1
        have ec := ple_antisymm x4 x3
        subst ea; subst ec
        have : f = p := by rcases hf with h | h | h | h <;> exact h
        have : t = p := by rcases ht with h | h | h | h <;> exact h
        subst f; exact cross_aba _ _
      · rintro ⟨⟨x1, x3⟩, ⟨x2, x4⟩, _⟩
        exact ⟨⟨x1, x2, cross_aa _ _⟩, x3, x4, cross_aa _ _⟩
    · have ha : ∀ x, (x = a ∨ x = b ∨ x = c ∨ x = d) → pcross c d x = 0 := by
        rintro x (rfl | rfl | rfl | rfl)
        · exact h3
        · exact h4
        · exact cross_aba _ _
        · exact cross_abb _ _
      constructor
      · rintro ⟨⟨x1, x2, _⟩, x3, x4, x5⟩
        exact ⟨⟨x1, x3⟩, ⟨x2, x4⟩, col_more (ha f hf) (ha t ht) hcd x5⟩
      · rintro ⟨⟨x1, x3⟩, ⟨x2, x4⟩, x5⟩
        subst hab
        have e1 : lo a a = a := (lo_or a a).elim id id
        have e2 : hi a a = a := (hi_or a a).elim id id
        rw [e1] at x1; rw [e2] at x2
        have := ple_antisymm x2 x1
        subst this
        exact ⟨⟨by rw [e1]; exact ple_refl _, by rw [e2]; exact ple_refl _, cross_aa _ _⟩, x3, x4, h3⟩
  · have ha : ∀ x, (x = a ∨ x = b ∨ x = c ∨ x = d) → pcross a b x = 0 := by
      rintro x (rfl | rfl | rfl | rfl)
      · exact cross_aba _ _
      · exact cross_abb _ _
      · exact h1
      · exact h2
    constructor
    · rintro ⟨⟨x1, x2, x5⟩, x3, x4, _⟩
      exact ⟨⟨x1, x3⟩, ⟨x2, x4⟩, col_more (ha f hf) (ha t ht) hab x5⟩
    · rintro ⟨⟨x1, x3⟩, ⟨x2, x4⟩, x5⟩
      have key : pcross a b p = 0 := by
        have q1 : ple f p := hfp.2 ⟨x1, x3⟩
        have q2 : ple p t := htp.2 ⟨x2, x4⟩
        by_cases hft : f = t
        · have : p = f := ple_antisymm (by rw [hft]; exact q2) q1
          rw [this]; exact ha f hf
        · have hfa := ha f hf
          have hta := ha t ht
          obtain ⟨s, rfl⟩ := col_at hab hfa
          obtain ⟨u, rfl⟩ := col_at hab hta
          obtain ⟨v, rfl⟩ := col_at hft x5
          simp only [pcross, pat]; grind
      exact ⟨⟨x1, x2, key⟩, x3, x4, col_more h1 h2 hab key⟩
theorem cross_pat (a b c d : Pq) (t : Rat) : pcross c d (pat a b t) = pcross c d a + (pcross c d b - pcross c d a) * t := by simp only [pcross, pat]; grind
def OneS (u v : Rat) : Prop := 0 < u ∧ 0 < v ∨ u < 0 ∧ v < 0
theorem aside_no {a b c d : Pq} (h : OneS (pcross c d a) (pcross c d b)) (p : Pq) : ¬ (InS a b p ∧ InS c d p) := by
  rintro ⟨⟨t, h0, h1, rfl⟩, h2⟩
  have h3 := (ins_prog.1 h2).2.2
  rw [cross_pat] at h3
  generalize pcross c d a = u at *
  generalize pcross c d b = v at *
  rcases h with ⟨hu, hv⟩ | ⟨hu, hv⟩
  · have e1 := Rat.mul_nonneg (Rat.le_of_lt hu) (show 0 ≤ 1 - t by grind)
    have e2 := Rat.mul_nonneg (Rat.le_of_lt hv) h0
    by_cases ht : t = 0
    · subst ht; grind
    · have := Rat.mul_pos hv (show 0 < t by grind); grind
  · have e1 := Rat.mul_nonneg (show 0 ≤ -u by grind) (show 0 ≤ 1 - t by grind)
    have e2 := Rat.mul_nonneg (show 0 ≤ -v by grind) h0
    by_cases ht : t = 0
    · subst ht; grind
    · have := Rat.mul_pos (show 0 < -v by grind) (show 0 < t by grind); grind
theorem cross_only {a b c d p : Pq} (hne : pcross c d a ≠ pcross c d b) (hp : InS a b p ∧ InS c d p) : p = pat a b (pcross c d a / (pcross c d a - pcross c d b)) := by
  obtain ⟨⟨t, h0, h1, rfl⟩, h2⟩ := hp
  have h3 := (ins_prog.1 h2).2.2
  rw [cross_pat] at h3
  generalize pcross c d a = u at *
  generalize pcross c d b = v at *
  have : t = u / (u - v) := by
    have h4 : u - v ≠ 0 := by grind
    grind
  rw [this]
theorem part_unit {u v : Rat} (hs : ¬ OneS u v) (hne : u ≠ v) : 0 ≤ u / (u - v) ∧ u / (u - v) ≤ 1 := by
  have h4 : u - v ≠ 0 := by grind
  generalize hq : u / (u - v) = q
  have e : q * (u - v) = u := by grind
  unfold OneS at hs
  constructor
  · rcases (show q < 0 ∨ 0 ≤ q by grind) with h | h
    · exfalso
      rcases (show u - v < 0 ∨ 0 < u - v by grind) with h5 | h5
      · have := Rat.mul_pos (show 0 < -q by grind) (show 0 < -(u - v) by grind); grind
      · have := Rat.mul_pos (show 0 < -q by grind) h5; grind
    · exact h
  · rcases (show 1 < q ∨ q ≤ 1 by grind) with h | h
    · exfalso
      rcases (show u - v < 0 ∨ 0 < u - v by grind) with h5 | h5
      · have := Rat.mul_pos (show 0 < q - 1 by grind) (show 0 < -(u - v) by grind); grind
      · have := Rat.mul_pos (show 0 < q - 1 by grind) h5; grind
    · exact h
theorem cut_line {a b c d : Pq} (hne : pcross c d a ≠ pcross c d b) : pcross c d (pat a b (pcross c d a / (pcross c d a - pcross c d b))) = 0 := by
  rw [cross_pat]
  generalize pcross c d a = u at *
  generalize pcross c d b = v at *
  have h4 : u - v ≠ 0 := by grind
  grind
theorem cut_other {a b c d : Pq} (hne : pcross c d a ≠ pcross c d b) : pat a b (pcross c d a / (pcross c d a - pcross c d b)) = pat c d (pcross a b c / (pcross a b c - pcross a b d)) := by
  have h2 : pcross a b c - pcross a b d = -(pcross c d a - pcross c d b) := by simp only [pcross]; grind
  have h4 : pcross c d a - pcross c d b ≠ 0 := by grind
  rw [h2]
  generalize hN : pcross c d a - pcross c d b = N at *
  simp only [pat, Prod.mk.injEq]
  have e1 : (a.1 - c.1) * N + (b.1 - a.1) * pcross c d a + (d.1 - c.1) * pcross a b c = 0 := by rw [← hN]; simp only [pcross]; grind
  have e2 : (a.2 - c.2) * N + (b.2 - a.2) * pcross c d a + (d.2 - c.2) * pcross a b c = 0 := by rw [← hN]; simp only [pcross]; grind
  generalize pcross c d a = u at *
  generalize pcross a b c = w at *
  constructor <;> grind
theorem cross_ins {a b c d : Pq} (hne : pcross c d a ≠ pcross c d b) (h1 : ¬ OneS (pcross c d a) (pcross c d b)) (h2 : ¬ OneS (pcross a b c) (pcross a b d)) (p : Pq) :
    InS a b p ∧ InS c d p ↔ p = pat a b (pcross c d a / (pcross c d a - pcross c d b)) := by
  constructor
  · exact cross_only hne
  · rintro rfl
    refine ⟨⟨_, (part_unit h1 hne).1, (part_unit h1 hne).2, rfl⟩, ?_⟩
    rw [cut_other hne]
    have hne2 : pcross a b c ≠ pcross a b d := fun e => hne (by
      have h2 : pcross a b c - pcross a b d = -(pcross c d a - pcross c d b) := by simp only [pcross]; grind
      grind)
    exact ⟨_, (part_unit h2 hne2).1, (part_unit h2 hne2).2, rfl⟩
noncomputable def btw (p q : Pq) : List Pq := open Classical in if p = q then [p] else [p, q]
noncomputable def meetP (a b c d : Pq) : List Pq := open Classical in
  if ple (pmax (lo a b) (lo c d)) (pmin (hi a b) (hi c d)) then
    if OneS (pcross a b c) (pcross a b d) then [] else
    if OneS (pcross c d a) (pcross c d b) then [] else
    if pcross c d a = 0 ∧ pcross c d b = 0 then btw (pmax (lo a b) (lo c d)) (pmin (hi a b) (hi c d)) else
      btw (pat a b (pcross c d a / (pcross c d a - pcross c d b))) (pat a b (pcross c d a / (pcross c d a - pcross c d b)))
  else []
theorem told_btw {p q : Pq} {S : Pq → Prop} (hle : ple p q) (h : ∀ r, S r ↔ InS p q r) : Told (btw p q) S := by
  unfold btw
  by_cases hpq : p = q
  · rw [if_pos hpq]; subst hpq; exact .one p fun r => (h r).trans ins_self
  · rw [if_neg hpq]; exact .two p q (plt_of hle hpq) h
theorem meetP_told (a b c d : Pq) : Told (meetP a b c d) (fun p => InS a b p ∧ InS c d p) := by
  unfold meetP
  by_cases hm : ple (pmax (lo a b) (lo c d)) (pmin (hi a b) (hi c d))
  · rw [if_pos hm]
    by_cases h1 : OneS (pcross a b c) (pcross a b d)
    · rw [if_pos h1]; exact .none fun p hp => aside_no h1 p ⟨hp.2, hp.1⟩
    · rw [if_neg h1]
      by_cases h2 : OneS (pcross c d a) (pcross c d b)
      · rw [if_pos h2]; exact .none fun p hp => aside_no h2 p hp
      · rw [if_neg h2]
        by_cases h3 : pcross c d a = 0 ∧ pcross c d b = 0
        · rw [if_pos h3]
          refine told_btw hm fun p => meet_line ?_ ?_ h3.1 h3.2 hm p
          all_goals
            have e : pcross a b c = pcross a b d := by
              have h2 : pcross a b c - pcross a b d = -(pcross c d a - pcross c d b) := by simp only [pcross]; grind
              grind
            rw [e] at h1
            unfold OneS at h1
            have : pcross a b d = 0 := by grind
            first | exact e.trans this | exact this
        · rw [if_neg h3]
          have hne : pcross c d a ≠ pcross c d b := by
            intro e
            rw [e] at h2 h3
            unfold OneS at h2
            exact h3 (by grind)
          refine told_btw (ple_refl _) fun p => ?_
          rw [ins_self]
          exact cross_ins hne h2 h1 p
  · rw [if_neg hm]
    refine .none fun p hp => hm ?_
    have h1 := ins_prog.1 hp.1
    have h2 := ins_prog.1 hp.2
    exact ple_trans (pmax_le.2 ⟨h1.1, h2.1⟩) (le_pmin.2 ⟨h1.2.1, h2.2.1⟩)
noncomputable def dstep (S : Pq → Prop) (o : Option (Pq × Pq)) (x : Pq) : Option (Pq × Pq) := open Classical in
  if S x then match o with
    | none => some (x, x)
    | some (m, M) => some (if plt x m then x else m, if plt M x then x else M)
  else o
def Ends (S : Pq → Prop) (l : List Pq) : Option (Pq × Pq) → Prop
  | none => ∀ x ∈ l, ¬ S x
  | some (m, M) => S m ∧ S M ∧ ∀ x ∈ l, S x → ple m x ∧ ple x M
theorem dstep_ends {S : Pq → Prop} {l : List Pq} {o : Option (Pq × Pq)} (h : Ends S l o) (x : Pq) : Ends S (l ++ [x]) (dstep S o x) := by
  unfold dstep
  by_cases hx : S x
  · rw [if_pos hx]
    match o, h with
    | none, h =>
      refine ⟨hx, hx, fun y hy hs => ?_⟩
      rcases List.mem_append.1 hy with hy | hy
      · exact absurd hs (h y hy)
      · have : y = x := by simpa using hy
        subst this; exact ⟨ple_refl _, ple_refl _⟩
    | some (m, M), ⟨h1, h2, h3⟩ =>
      have hm : S (open Classical in if plt x m then x else m) ∧ ple (open Classical in if plt x m then x else m) m ∧ ple (open Classical in if plt x m then x else m) x := by
        by_cases h : plt x m
        · rw [if_pos h]; exact ⟨hx, plt_ple h, ple_refl _⟩
        · rw [if_neg h]; exact ⟨h1, ple_refl _, Classical.byContradiction fun hn => h (plt_iff.2 hn)⟩
      have hM : S (open Classical in if plt M x then x else M) ∧ ple M (open Classical in if plt M x then x else M) ∧ ple x (open Classical in if plt M x then x else M) := by
        by_cases h : plt M x
        · rw [if_pos h]; exact ⟨hx, plt_ple h, ple_refl _⟩
        · rw [if_neg h]; exact ⟨h2, ple_refl _, Classical.byContradiction fun hn => h (plt_iff.2 hn)⟩
      refine ⟨hm.1, hM.1, fun y hy hs => ?_⟩
      rcases List.mem_append.1 hy with hy | hy
      · obtain ⟨a, b⟩ := h3 y hy hs
        exact ⟨ple_trans hm.2.1 a, ple_trans b hM.2.1⟩
      · have : y = x := by simpa using hy
        subst this; exact ⟨hm.2.2, hM.2.2⟩
  · rw [if_neg hx]
    match o, h with
    | none, h =>
      intro y hy hs
      rcases List.mem_append.1 hy with hy | hy
      · exact h y hy hs
      · have : y = x := by simpa using hy
        subst this; exact hx hs
    | some (m, M), ⟨h1, h2, h3⟩ =>
      refine ⟨h1, h2, fun y hy hs => ?_⟩
      rcases List.mem_append.1 hy with hy | hy
      · exact h3 y hy hs
      · have : y = x := by simpa using hy
        subst this; exact absurd hs hx
noncomputable def told2 : Option (Pq × Pq) → List Pq
  | none => []
  | some (m, M) => btw m M
def Both (a b c d p : Pq) : Prop := InS a b p ∧ InS c d p
noncomputable def dout (a b c d : Pq) : Option (Pq × Pq) := dstep (Both a b c d) (dstep (Both a b c d) (dstep (Both a b c d) (dstep (Both a b c d) none a) b) c) d
noncomputable def meetD (a b c d : Pq) : List Pq := open Classical in
  if pcross c d a = pcross c d b then told2 (dout a b c d)
  else if Both a b c d (pat a b (pcross c d a / (pcross c d a - pcross c d b))) then [pat a b (pcross c d a / (pcross c d a - pcross c d b))] else []
theorem meetD_told (a b c d : Pq) : Told (meetD a b c d) (Both a b c d) := by
  unfold meetD
  by_cases hp : pcross c d a = pcross c d b
  · rw [if_pos hp]
    have he : Ends (Both a b c d) [a, b, c, d] (dout a b c d) := dstep_ends (l := [a, b, c]) (dstep_ends (l := [a, b]) (dstep_ends (l := [a]) (dstep_ends (l := []) (o := none) (fun x hx => by cases hx) a) b) c) d
    have hp2 : pcross a b c = pcross a b d := by
      have h2 : pcross a b c - pcross a b d = -(pcross c d a - pcross c d b) := by simp only [pcross]; grind
      grind
    have line : ∀ r, Both a b c d r → ∃ f t, (f ∈ [a, b, c, d] ∧ t ∈ [a, b, c, d]) ∧ ple f t ∧ ∀ p, Both a b c d p ↔ InS f t p := fun r hr => by
      have h3 : pcross c d a = 0 := by
        obtain ⟨⟨t, _, _, rfl⟩, h⟩ := hr
        have := (ins_prog.1 h).2.2
        rw [cross_pat, hp] at this; rw [hp]; grind
      have h1 : pcross a b c = 0 := by
        obtain ⟨h, t, _, _, rfl⟩ := hr
        have := (ins_prog.1 h).2.2
        rw [cross_pat, hp2] at this; rw [hp2]; grind
      have hm : ple (pmax (lo a b) (lo c d)) (pmin (hi a b) (hi c d)) := by
        have h1 := ins_prog.1 hr.1
        have h2 := ins_prog.1 hr.2
        exact ple_trans (pmax_le.2 ⟨h1.1, h2.1⟩) (le_pmin.2 ⟨h1.2.1, h2.2.1⟩)
      refine ⟨_, _, ⟨?_, ?_⟩, hm, fun p => meet_line h1 (hp2 ▸ h1) h3 (hp ▸ h3) hm p⟩
      · rcases pmax_or (lo a b) (lo c d) with e | e <;> rw [e]
        · rcases lo_or a b with e | e <;> simp [e]
        · rcases lo_or c d with e | e <;> simp [e]
      · rcases pmin_or (hi a b) (hi c d) with e | e <;> rw [e]
        · rcases hi_or a b with e | e <;> simp [e]
        · rcases hi_or c d with e | e <;> simp [e]
    generalize dout a b c d = o at he
    match o, he with
    | none, he =>
      refine .none fun r hr => ?_
      obtain ⟨f, t, ⟨h1, _⟩, _, h3⟩ := line r hr
      exact he f h1 ((h3 f).2 (ins_left f t))
    | some (m, M), ⟨hm, hM, hall⟩ =>
      obtain ⟨f, t, ⟨h1, h2⟩, hle, h3⟩ := line m hm
      have ef := hall f h1 ((h3 f).2 (ins_left f t))
      have et := hall t h2 ((h3 t).2 (ins_right f t))
      have em := (ins_lex hle).1 ((h3 m).1 hm)
      have eM := (ins_lex hle).1 ((h3 M).1 hM)
      have e1 := ple_antisymm ef.1 em.1
      have e2 := ple_antisymm eM.2.1 et.2
      subst e1; subst e2
      exact told_btw hle h3
  · rw [if_neg hp]
    by_cases hb : Both a b c d (pat a b (pcross c d a / (pcross c d a - pcross c d b)))
    · rw [if_pos hb]
      exact .one _ fun q => ⟨fun h => cross_only hp h, fun h => by rw [h]; exact hb⟩
    · rw [if_neg hb]
      exact .none fun q hq => hb (by rw [← cross_only hp hq]; exact hq)
theorem meet_same (a b c d : Pq) : meetP a b c d = meetD a b c d := told_uniq (meetP_told a b c d) (meetD_told a b c d)
noncomputable def clipP (a b c d : Pq) : List Pq := open Classical in
  if pcross c d a < 0 ∧ pcross c d b < 0 then [] else
  if pcross c d a < 0 then btw (pat a b (pcross c d a / (pcross c d a - pcross c d b))) b else
  if pcross c d b < 0 then btw a (pat a b (pcross c d a / (pcross c d a - pcross c d b))) else btw a b
noncomputable def clipD (a b c d : Pq) : List Pq := open Classical in
  if 0 ≤ pcross c d a ∧ 0 ≤ pcross c d b then btw a b else
  if pcross c d a < 0 ∧ pcross c d b < 0 then [] else
  if pcross c d a = 0 then [a] else
  if pcross c d b = 0 then [b] else
  if 0 < pcross c d a then [a, pat a b (pcross c d a / (pcross c d a - pcross c d b))] else [pat a b (pcross c d a / (pcross c d a - pcross c d b)), b]
theorem btw_self (p : Pq) : btw p p = [p] := by unfold btw; rw [if_pos rfl]
theorem clip_same (a b c d : Pq) : clipP a b c d = clipD a b c d := by
  have hline : pcross c d a ≠ pcross c d b → pcross c d (pat a b (pcross c d a / (pcross c d a - pcross c d b))) = 0 := cut_line
  have e1 : pcross c d a = 0 → pat a b (pcross c d a / (pcross c d a - pcross c d b)) = a := fun h => by rw [h, Rat.div_def, Rat.zero_mul, at_zero]
  have e2 : pcross c d b = 0 → pcross c d a ≠ 0 → pat a b (pcross c d a / (pcross c d a - pcross c d b)) = b := fun h h' => by
    rw [h, show pcross c d a / (pcross c d a - 0) = 1 by grind, at_one]
  unfold clipP clipD
  generalize hX : pat a b (pcross c d a / (pcross c d a - pcross c d b)) = X at *
  by_cases h1 : pcross c d a < 0 ∧ pcross c d b < 0
  · rw [if_pos h1, if_neg (by grind), if_pos h1]
  · rw [if_neg h1]
    by_cases h2 : pcross c d a < 0
    · rw [if_pos h2, if_neg (by grind), if_neg h1, if_neg (by grind)]
      by_cases h3 : pcross c d b = 0
      · rw [if_pos h3, e2 h3 (by grind), btw_self]
      · rw [if_neg h3, if_neg (by grind)]
        unfold btw
        rw [if_neg]
        intro e
        have := hline (by grind)
        rw [e] at this; exact h3 this
    · rw [if_neg h2]
      by_cases h3 : pcross c d b < 0
      · rw [if_pos h3, if_neg (by grind), if_neg h1]
        by_cases h4 : pcross c d a = 0
        · rw [if_pos h4, e1 h4, btw_self]
        · rw [if_neg h4, if_neg (by grind), if_pos (by grind)]
          unfold btw
          rw [if_neg]
          intro e
          have := hline (by grind)
          rw [← e] at this; exact h4 this
      · rw [if_neg h3, if_pos (by grind)]
def InL : List Pq → Pq → Prop
  | [], _ => False
  | [q], p => p = q
  | [q, r], p => InS q r p
  | _, _ => False
theorem inl_btw {q r p : Pq} : InL (btw q r) p ↔ InS q r p := by
  unfold btw
  by_cases h : q = r
  · rw [if_pos h]; subst h; exact ins_self.symm
  · rw [if_neg h]; exact Iff.rfl
theorem told_inl {l : List Pq} {S : Pq → Prop} (h : Told l S) (p : Pq) : S p ↔ InL l p := by
  cases h with
  | none h => exact ⟨fun hs => h p hs, fun hs => hs.elim⟩
  | one q h => exact h p
  | two q r _ h => exact h p
theorem ins_sub {a b : Pq} (hne : a ≠ b) {q r k : Rat} (hqr : q ≤ r) : InS (pat a b q) (pat a b r) (pat a b k) ↔ q ≤ k ∧ k ≤ r := by
  have key : ∀ {a b : Pq}, ple a b → a ≠ b → ∀ {q r k : Rat}, q ≤ r → (InS (pat a b q) (pat a b r) (pat a b k) ↔ q ≤ k ∧ k ≤ r) := fun {a b} hl hne {q r k} hqr => by
    rw [ins_lex ((ple_at hl hne).2 hqr), ple_at hl hne, ple_at hl hne]
    constructor
    · exact fun h => ⟨h.1, h.2.1⟩
    · exact fun h => ⟨h.1, h.2, by simp only [pcross, pat]; grind⟩
  rcases ple_total a b with h | h
  · exact key h hne hqr
  · rw [at_back a b q, at_back a b r, at_back a b k, ins_back, key h (Ne.symm hne) (show 1 - r ≤ 1 - q by grind)]
    grind
theorem clip_has (a b c d : Pq) (k : Rat) (h0 : 0 ≤ k) (h1 : k ≤ 1) : InL (clipP a b c d) (pat a b k) ↔ 0 ≤ pcross c d (pat a b k) := by
  rw [cross_pat]
  have hab : pcross c d a ≠ pcross c d b → a ≠ b := fun h e => h (by rw [e])
  unfold clipP
  generalize pcross c d a = u at *
  generalize pcross c d b = v at *
  by_cases c1 : u < 0 ∧ v < 0
  · rw [if_pos c1]
    refine ⟨fun h => h.elim, fun h => ?_⟩
    have e1 := Rat.mul_nonneg (show 0 ≤ -u by grind) (show 0 ≤ 1 - k by grind)
    by_cases hk : k = 0
    · subst hk; grind
    · have := Rat.mul_pos (show 0 < -v by grind) (show 0 < k by grind); grind
  · rw [if_neg c1]
    by_cases c2 : u < 0
    · rw [if_pos c2, inl_btw]
      have hn : v - u > 0 := by grind
      have hq : u / (u - v) * (v - u) = -u := by grind
      have hq1 := part_unit (u := u) (v := v) (by unfold OneS; grind) (by grind)
      generalize u / (u - v) = q at *
      conv => lhs; rw [show b = pat a b 1 from (at_one _ _).symm]
      rw [show InS (pat a (pat a b 1) q) (pat a b 1) (pat a (pat a b 1) k) ↔ InS (pat a b q) (pat a b 1) (pat a b k) by rw [at_one]]
      rw [ins_sub (hab (by grind)) hq1.2]
      constructor
      · rintro ⟨h2, _⟩
        have := Rat.mul_nonneg (show 0 ≤ k - q by grind) (Rat.le_of_lt hn); grind
      · intro h2
        refine ⟨?_, h1⟩
        rcases (show q ≤ k ∨ k < q by grind) with h3 | h3
        · exact h3
        · have := Rat.mul_pos (show 0 < q - k by grind) hn; grind
    · rw [if_neg c2]
      by_cases c3 : v < 0
      · rw [if_pos c3, inl_btw]
        have hn : u - v > 0 := by grind
        have hq : u / (u - v) * (u - v) = u := by grind
        have hq1 := part_unit (u := u) (v := v) (by unfold OneS; grind) (by grind)
        generalize u / (u - v) = q at *
        rw [show InS a (pat a b q) (pat a b k) ↔ InS (pat a b 0) (pat a b q) (pat a b k) by rw [at_zero]]
        rw [ins_sub (hab (by grind)) hq1.1]
        constructor
        · rintro ⟨_, h2⟩
          have := Rat.mul_nonneg (show 0 ≤ q - k by grind) (Rat.le_of_lt hn); grind
        · intro h2
          refine ⟨h0, ?_⟩
          rcases (show k ≤ q ∨ q < k by grind) with h3 | h3
          · exact h3
          · have := Rat.mul_pos (show 0 < k - q by grind) hn; grind
      · rw [if_neg c3, inl_btw]
        constructor
        · intro _
          have e1 := Rat.mul_nonneg (show 0 ≤ u by grind) (show 0 ≤ 1 - k by grind)
          have e2 := Rat.mul_nonneg (show 0 ≤ v by grind) h0
          grind
        · intro _; exact ⟨k, h0, h1, rfl⟩
def pcmp (p q : Pq) : Int := if rcmp p.1 q.1 = 0 then rcmp p.2 q.2 else rcmp p.1 q.1
theorem pcmp_or (p q : Pq) : pcmp p q = -1 ∨ pcmp p q = 0 ∨ pcmp p q = 1 := by
  unfold pcmp; split
  · exact rcmp_or _ _
  · exact rcmp_or _ _
theorem pcmp_zero {p q : Pq} : pcmp p q = 0 ↔ p = q := by
  unfold pcmp
  constructor
  · intro h
    split at h
    · rename_i h1; exact Prod.ext (rcmp_zero.1 h1) (rcmp_zero.1 h)
    · contradiction
  · rintro rfl; rw [if_pos (rcmp_self _)]; exact rcmp_self _
theorem pcmp_lt {p q : Pq} : pcmp p q = -1 ↔ plt p q := by
  unfold pcmp plt
  split
  · rename_i h; have e := rcmp_zero.1 h
    rw [rcmp_lt]
    constructor
    · exact fun h => .inr ⟨e, h⟩
    · rintro (h | h)
      · rw [e] at h; exact absurd h (by grind)
      · exact h.2
  · rename_i h
    have hne : p.1 ≠ q.1 := fun e => h (rcmp_zero.2 e)
    rw [rcmp_lt]
    constructor
    · exact fun h => .inl h
    · rintro (h | h)
      · exact h
      · exact absurd h.1 hne
theorem pcmp_swap (p q : Pq) : pcmp q p = - pcmp p q := by
  unfold pcmp
  rw [qcmp_swap p.1 q.1, qcmp_swap p.2 q.2]
  split <;> split <;> omega
theorem pcmp_gt {p q : Pq} : pcmp p q = 1 ↔ plt q p := by
  rw [← pcmp_lt, pcmp_swap p q]; omega
theorem pcmp_le {p q : Pq} : pcmp p q ≤ 0 ↔ ple p q := by
  have h := pcmp_or p q
  have hg := @pcmp_gt p q
  rw [plt_iff] at hg
  constructor
  · intro h1
    exact Classical.byContradiction fun h2 => by have := hg.2 h2; omega
  · intro h1
    rcases h with h | h | h
    · omega
    · omega
    · exact absurd h1 (hg.1 h)
theorem rsg_or (r : Rat) : rsg r = -1 ∨ rsg r = 0 ∨ rsg r = 1 := by
  unfold rsg
  rcases Int.lt_trichotomy r.num 0 with h | h | h
  · left; exact Int.sign_eq_neg_one_of_neg h
  · right; left; rw [h]; rfl
  · right; right; exact Int.sign_eq_one_of_pos h
theorem rsg_ge {r : Rat} : 0 ≤ rsg r ↔ 0 ≤ r := by
  have h := rsg_or r
  have h1 := @rsg_nz r
  constructor
  · intro h2; exact Classical.byContradiction fun h3 => by have := h1.2 (by grind); omega
  · intro h2
    rcases h with h | h | h
    · have := h1.1 h; grind
    · omega
    · omega
theorem aside_iff {u v : Rat} : 0 < rsg u * rsg v ↔ OneS u v := by
  unfold OneS
  rw [← rsg_pos, ← rsg_pos, ← rsg_nz, ← rsg_nz]
  rcases rsg_or u with h | h | h <;> rcases rsg_or v with h' | h' | h' <;> rw [h, h'] <;> simp
end Go.Proofs.YthbhgcaemcobeaaGreatDoor.PM
