/- What the laws lean on, part 3. -/
import Derived.Deep.RegionHeld3
import Derived.Deep.CutRange
import Derived.Test.YtldkddogadmpbaaGreatDoorMz2
import Derived.Test.YtldkddogadmpbaaGreatDoorZBd
import Derived.Test.YtldkddogadmpbaaGreatDoorShift
namespace Go.Proofs.YtldkddogadmpbaaGreatDoor
open Go.RowKit Mat
set_option maxRecDepth 100000
set_option linter.unusedVariables false
set_option linter.unusedSimpArgs false
def rsg (r : Rat) : Int := r.num.sign
theorem sign_ediv {n : Int} {g : Nat} (h : (g : Int) ∣ n) (hg : 0 < g) : (n / (g : Int)).sign = n.sign := by
  obtain ⟨k, rfl⟩ := h
  rw [Int.mul_ediv_cancel_left _ (by omega), Int.sign_mul, Int.sign_eq_one_of_pos (by omega : (0 : Int) < g), Int.one_mul]
theorem rsg_divInt {n d : Int} (hd : 0 < d) : rsg (Rat.divInt n d) = n.sign := by
  unfold rsg
  rw [Rat.num_divInt, Int.sign_eq_one_of_pos hd, Int.one_mul]
  exact sign_ediv (Int.gcd_dvd_right _ _) (by rw [Int.gcd_comm]; exact Int.gcd_pos_of_ne_zero_right _ (by omega))
theorem rat_divInt (r : Rat) : Rat.divInt r.num (r.den : Int) = r := Rat.num_divInt_den r
theorem rcmp_sub (a b : Rat) : rcmp a b = rsg (a - b) := by
  have h : a - b = Rat.divInt (a.num * (b.den : Int) - b.num * (a.den : Int)) ((a.den : Int) * (b.den : Int)) := by
    rw [Rat.sub_def', ← Int.natCast_mul, Rat.divInt_ofNat]
  have h1 := a.den_pos
  have h2 := b.den_pos
  rw [h, rsg_divInt (by exact_mod_cast Nat.mul_pos h1 h2), zcmp_sub]
  rfl
theorem rcmp_self (a : Rat) : rcmp a a = 0 := by rw [rcmp_sub, Rat.sub_self]; rfl
theorem rcmp_eq {a b : Rat} (h : a = b) : rcmp a b = 0 := by rw [h]; exact rcmp_self b
theorem rcmp_divInt {n m d e : Int} (hd : 0 < d) (he : 0 < e) : rcmp (Rat.divInt n d) (Rat.divInt m e) = zcmp (n * e) (m * d) := by
  rw [rcmp_sub, Rat.divInt_sub_divInt _ _ (by omega) (by omega), rsg_divInt (Int.mul_pos hd he), zcmp_sub]
theorem rsg_mul (a b : Rat) : rsg (a * b) = rsg a * rsg b := by
  have h : a * b = Rat.divInt (a.num * b.num) ((a.den : Int) * (b.den : Int)) := by
    rw [Rat.mul_def', ← Int.natCast_mul, Rat.divInt_ofNat]
  rw [h, rsg_divInt (by have h1 := a.den_pos; have h2 := b.den_pos; exact_mod_cast Nat.mul_pos h1 h2), Int.sign_mul]
  rfl
theorem rsg_neg (a : Rat) : rsg (-a) = -rsg a := by unfold rsg; rw [Rat.neg_num, Int.sign_neg]
theorem qcmp_add (a b c : Rat) : rcmp (a + c) (b + c) = rcmp a b := by
  rw [rcmp_sub, rcmp_sub]; congr 1; grind
theorem qcmp_mul (a b c : Rat) : rcmp (a * c) (b * c) = rcmp a b * rsg c := by
  rw [rcmp_sub, rcmp_sub, ← rsg_mul]; congr 1; grind
theorem qcmp_swap (a b : Rat) : rcmp b a = -rcmp a b := by
  rw [rcmp_sub, rcmp_sub, ← rsg_neg]; congr 1; grind
theorem rsg_pos {a : Rat} : rsg a = 1 ↔ 0 < a := by
  unfold rsg
  rw [Int.sign_eq_one_iff_pos, Rat.lt_iff]; simp
theorem rsg_zero {a : Rat} : rsg a = 0 ↔ a = 0 := by
  unfold rsg
  rw [Int.sign_eq_zero_iff_zero, Rat.num_eq_zero]
theorem rsg_nz {a : Rat} : rsg a = -1 ↔ a < 0 := by
  unfold rsg
  rw [Int.sign_eq_neg_one_iff_neg, Rat.lt_iff]; simp
theorem rcmp_lt {a b : Rat} : rcmp a b = -1 ↔ a < b := by rw [rcmp_sub, rsg_nz]; constructor <;> intro h <;> grind
theorem rcmp_gt {a b : Rat} : rcmp a b = 1 ↔ b < a := by rw [rcmp_sub, rsg_pos]; constructor <;> intro h <;> grind
theorem rcmp_zero {a b : Rat} : rcmp a b = 0 ↔ a = b := by rw [rcmp_sub, rsg_zero]; constructor <;> intro h <;> grind
theorem rcmp_or (a b : Rat) : rcmp a b = -1 ∨ rcmp a b = 0 ∨ rcmp a b = 1 := by
  rcases Int.lt_trichotomy ((a - b).num) 0 with h | h | h
  · left; rw [rcmp_sub]; exact Int.sign_eq_neg_one_of_neg h
  · right; left; rw [rcmp_sub]; unfold rsg; rw [h]; rfl
  · right; right; rw [rcmp_sub]; exact Int.sign_eq_one_of_pos h
theorem floor_divInt {n d : Int} (hd : 0 < d) : (Rat.divInt n d).floor = n / d := by
  have h0 : d ≠ 0 := by omega
  obtain ⟨r, hr⟩ : ∃ r, Rat.divInt n d = r := ⟨_, rfl⟩
  have hp := r.den_pos
  have h := (Rat.divInt_eq_divInt_iff h0 (show ((r.den : Nat) : Int) ≠ 0 by omega)).1 (hr.trans (rat_divInt r).symm)
  rw [hr, Rat.floor_def, ← Int.mul_ediv_mul_of_pos_left n d (show (0 : Int) < (r.den : Int) by omega), h, Int.mul_comm d, Int.mul_ediv_mul_of_pos_left _ _ hd]
def rnear (r : Rat) : Int :=
  if zcmp (r.num % (r.den : Int) + r.num % (r.den : Int)) (r.den : Int) = -1 then r.num / (r.den : Int)
  else if zcmp (r.num % (r.den : Int) + r.num % (r.den : Int)) (r.den : Int) = 1 then r.num / (r.den : Int) + 1
  else if (r.num / (r.den : Int)) % 2 = 0 then r.num / (r.den : Int) else r.num / (r.den : Int) + 1
theorem rnear_cmp (r : Rat) : rcmp (r - (r.floor : Int)) (((r.floor + 1 : Int) : Rat) - r) = zcmp (r.num % (r.den : Int) + r.num % (r.den : Int)) (r.den : Int) := by
  have hp := r.den_pos
  have e1 : ∀ z : Int, (z : Rat) = Rat.divInt (z * (r.den : Int)) (r.den : Int) := fun z => by
    rw [Rat.divInt_ofNat, Rat.mkRat_eq_div, Rat.intCast_mul, Rat.intCast_natCast, Rat.mul_div_cancel (by exact_mod_cast (by omega : r.den ≠ 0))]
  have e2 : r - (r.floor : Int) - (((r.floor + 1 : Int) : Rat) - r) = r + r - ((2 * r.floor + 1 : Int) : Rat) := by
    rw [show (2 * r.floor + 1 : Int) = r.floor + (r.floor + 1) by omega, Rat.intCast_add]; grind
  have e3 : r + r = Rat.divInt (r.num + r.num) (r.den : Int) := by
    rw [Rat.divInt_ofNat, Rat.mkRat_eq_div, Rat.intCast_add, Rat.div_def, Rat.add_mul, ← Rat.div_def, ← Rat.mkRat_eq_div, Rat.mkRat_self]
  have e4 : r + r - ((2 * r.floor + 1 : Int) : Rat) = Rat.divInt (r.num + r.num - (2 * r.floor + 1) * (r.den : Int)) (r.den : Int) := by
    rw [e3, e1 (2 * r.floor + 1), Rat.divInt_ofNat, Rat.divInt_ofNat, Rat.divInt_ofNat, Rat.mkRat_eq_div, Rat.mkRat_eq_div, Rat.mkRat_eq_div, Rat.intCast_sub]
    simp only [Rat.div_def]; grind
  rw [rcmp_sub, e2, e4, rsg_divInt (by omega), ← zcmp_sub]
  congr 1
  have h := Int.mul_ediv_add_emod r.num (r.den : Int)
  rw [Rat.floor_def]
  grind
theorem rnear_beside (r : Rat) : (rcmp (r - (r.floor : Int)) (((r.floor + 1 : Int) : Rat) - r) ≤ 0 ∧ rnear r = r.floor) ∨ (0 ≤ rcmp (r - (r.floor : Int)) (((r.floor + 1 : Int) : Rat) - r) ∧ rnear r = r.floor + 1) := by
  rw [rnear_cmp]
  unfold rnear
  rw [Rat.floor_def]
  have hc : ∀ x y, zcmp x y = -1 ∨ zcmp x y = 0 ∨ zcmp x y = 1 := fun x y => by unfold zcmp; split <;> (try split) <;> simp
  replace hc := hc (r.num % (r.den : Int) + r.num % (r.den : Int)) (r.den : Int)
  generalize zcmp (r.num % (r.den : Int) + r.num % (r.den : Int)) (r.den : Int) = c at *
  split
  · left; exact ⟨by omega, rfl⟩
  · split
    · right; exact ⟨by omega, rfl⟩
    · split
      · by_cases h : c ≤ 0
        · left; exact ⟨h, rfl⟩
        · exfalso; have := hc; omega
      · by_cases h : 0 ≤ c
        · right; exact ⟨h, rfl⟩
        · exfalso; have := hc; omega
theorem rnear_half (r : Rat) : r - ((rnear r : Int) : Rat) ≤ 1 / 2 ∧ ((rnear r : Int) : Rat) - r ≤ 1 / 2 := by
  have h1 := Rat.floor_le r
  have h2 := Rat.lt_floor_add_one r
  rw [Rat.intCast_add] at h2
  rcases rnear_beside r with ⟨h, e⟩ | ⟨h, e⟩
  · have h3 : r - (r.floor : Int) ≤ ((r.floor + 1 : Int) : Rat) - r := by
      rcases rcmp_or (r - (r.floor : Int)) (((r.floor + 1 : Int) : Rat) - r) with c | c | c
      · exact Rat.le_of_lt (rcmp_lt.1 c)
      · rw [rcmp_zero.1 c]; exact Rat.le_refl
      · omega
    rw [Rat.intCast_add] at h3
    rw [e]
    constructor <;> grind
  · have h3 : ((r.floor + 1 : Int) : Rat) - r ≤ r - (r.floor : Int) := by
      rcases rcmp_or (r - (r.floor : Int)) (((r.floor + 1 : Int) : Rat) - r) with c | c | c
      · omega
      · rw [rcmp_zero.1 c]; exact Rat.le_refl
      · exact Rat.le_of_lt (rcmp_gt.1 c)
    rw [e]
    rw [Rat.intCast_add] at h3 ⊢
    constructor <;> grind
theorem rdiv_num (x y : Int) : (Rat.divInt x y).num = y.sign * x / ((Nat.gcd x.natAbs y.natAbs : Nat) : Int) := by
  rw [Rat.num_divInt, show Int.gcd y x = Nat.gcd x.natAbs y.natAbs from Nat.gcd_comm _ _]
theorem rdiv_den (x y : Int) (h : y ≠ 0) : (((Rat.divInt x y).den : Nat) : Int) = (y.natAbs : Int) / ((Nat.gcd x.natAbs y.natAbs : Nat) : Int) := by
  rw [Rat.den_divInt, if_neg h, show Int.gcd y x = Nat.gcd x.natAbs y.natAbs from Nat.gcd_comm _ _]; rfl
theorem rdiv_nb {x y : Int} {K : Nat} (h : x.natAbs < B ^ K) : (Rat.divInt x y).num.natAbs < B ^ K := by
  rw [rdiv_num]
  refine Nat.lt_of_le_of_lt (Int.natAbs_ediv_le_natAbs _ _) (Nat.lt_of_le_of_lt ?_ h)
  rw [Int.natAbs_mul]
  have : y.sign.natAbs ≤ 1 := by have := sign_bd y; omega
  exact Nat.le_trans (Nat.mul_le_mul_right _ this) (by omega)
theorem rdiv_db {x y : Int} {K : Nat} (h : y.natAbs < B ^ K) (h0 : y ≠ 0) : (Rat.divInt x y).den < B ^ K := by
  rw [Rat.den_divInt, if_neg h0]
  exact Nat.lt_of_le_of_lt (Nat.div_le_self _ _) h
end Go.Proofs.YtldkddogadmpbaaGreatDoor
namespace Go.Proofs.YtldkddogadmpbaaGreatDoor
open Go.RowKit Mat
set_option maxRecDepth 100000
set_option linter.unusedVariables false
set_option linter.unusedSimpArgs false
theorem heap_lt {w : World} {g : Nat} {o : Obj} (h : w.heap[g]? = some o) : g < w.heap.size := (Array.getElem?_eq_some_iff.1 h).1
def BoxZ (W : World) (p : Nat) (z : Int) : Prop := ∃ s xs b, W.heap[p]? = some (.cells #[.slice s xs xs, .bool b] 26 (0, 0)) ∧ IntV W (.agg #[.slice s xs xs, .bool b]) z
theorem BoxZ.open {W : World} {p : Nat} {z : Int} (h : BoxZ W p z) : ∃ (s : Option Addr) (xs : List Nat) (b : Bool), W.heap[p]? = some (.cells #[.slice s xs.length xs.length, .bool b] 26 (0, 0)) ∧ IntV W (.agg #[.slice s xs.length xs.length, .bool b]) z := by
  obtain ⟨s, l, b, h1, h2⟩ := h
  obtain ⟨s2, xs, b2, e, h3⟩ := h2
  cases e
  exact ⟨s, xs, b, h1, s, xs, b, rfl, h3⟩
end Go.Proofs.YtldkddogadmpbaaGreatDoor
namespace Go.Proofs.YtldkddogadmpbaaGreatDoor
open Go.RowKit Mat
set_option maxRecDepth 100000
set_option linter.unusedVariables false
set_option linter.unusedSimpArgs false
theorem fmake_pos (x y : Int) (h : 0 < y) : (Rat.divInt x y).num = x / ((Nat.gcd x.natAbs y.natAbs : Nat) : Int) ∧ (((Rat.divInt x y).den : Nat) : Int) = y / ((Nat.gcd x.natAbs y.natAbs : Nat) : Int) := by
  constructor
  · rw [rdiv_num, Int.sign_eq_one_of_pos h, Int.one_mul]
  · rw [rdiv_den x y (by omega), Int.natAbs_of_nonneg (by omega)]
theorem fshare_bd {x : Int} {g K : Nat} (h : x.natAbs < B ^ K) : (x / (g : Int)).natAbs < B ^ K := Nat.lt_of_le_of_lt (Int.natAbs_ediv_le_natAbs _ _) h
set_option maxHeartbeats 16000000 in
theorem FMake_any (w : World) (va vb : Value) (x y : Int) (K : Nat) (Ha : IntV w va x) (Hb : IntV w vb y) (hK : K ≤ 300000) (la : x.natAbs < B ^ K) (lb : y.natAbs < B ^ K) (hTab : Tab w) :
    Calls Tryz.prog 14 #[va, vb] w (RetRatE w (Rat.divInt x y) (if y = 0 then 5 else 0)) := by
  have HTB : Hid (∀ W, w.grownBy W none → Tab W) := fun W hW => hTab.kept hW (by simp)
  clear hTab
  have hy : (y.sign = 0 ∧ Hid (y = 0)) ∨ (y.sign = -1 ∧ Hid (y < 0)) ∨ (y.sign = 1 ∧ Hid (0 < y)) := by
    rcases zsign y with ⟨h, e⟩ | ⟨h, e⟩ | ⟨h, e⟩
    · right; left; exact ⟨e, h⟩
    · left; exact ⟨e, h⟩
    · right; right; exact ⟨e, h⟩
  have Hla := Lib.hid la
  have Hlb := Lib.hid lb
  clear la lb
  rcases hy with ⟨hs, HY⟩ | ⟨hs, HY⟩ | ⟨hs, HY⟩
  · skip
    have HS := Lib.hid hs
    clear hs
    rw [if_pos HY.out, show Rat.divInt x y = 0 by rw [HY.out, Rat.divInt_zero]]
    obtain ⟨sa, xa, ba, rfl, ha, va, ta⟩ := Ha
    obtain ⟨sb, xb, bb, rfl, hb, vb, tb⟩ := Hb
    have hG : w.grownBy (((w.alloc (.cells #[.slice sa xa.length xa.length, .bool ba] 26)).alloc (.cells #[.slice sb xb.length xb.length, .bool bb] 26)).alloc (.cells #[.slice none 0 0, .bool false, .slice none 0 0, .bool false] 28)) none := (grown_alloc (grown_alloc (World.grownBy_alloc _ _ _) _) _)
    have Ba := heap_kept (grown_alloc (World.grownBy_alloc _ (.cells #[.slice sb xb.length xb.length, .bool bb] 26) none) (.cells #[.slice none 0 0, .bool false, .slice none 0 0, .bool false] 28)) (heap_new w (.cells #[.slice sa xa.length xa.length, .bool ba] 26) (w.heap.size) rfl)
    have Bb := heap_kept (World.grownBy_alloc _ (.cells #[.slice none 0 0, .bool false, .slice none 0 0, .bool false] 28) none) (heap_new (w.alloc (.cells #[.slice sa xa.length xa.length, .bool ba] 26)) (.cells #[.slice sb xb.length xb.length, .bool bb] 26) (w.heap.size + 1) (by simp))
    have Bq := (heap_new ((w.alloc (.cells #[.slice sa xa.length xa.length, .bool ba] 26)).alloc (.cells #[.slice sb xb.length xb.length, .bool bb] 26)) (.cells #[.slice none 0 0, .bool false, .slice none 0 0, .bool false] 28) (w.heap.size + 1 + 1) (by simp))
    have ia : IntV (((w.alloc (.cells #[.slice sa xa.length xa.length, .bool ba] 26)).alloc (.cells #[.slice sb xb.length xb.length, .bool bb] 26)).alloc (.cells #[.slice none 0 0, .bool false, .slice none 0 0, .bool false] 28)) (.agg #[.slice sa xa.length xa.length, .bool ba]) (x) := ⟨sa, xa, ba, rfl, ha.kept hG, va, ta⟩
    have ib : IntV (((w.alloc (.cells #[.slice sa xa.length xa.length, .bool ba] 26)).alloc (.cells #[.slice sb xb.length xb.length, .bool bb] 26)).alloc (.cells #[.slice none 0 0, .bool false, .slice none 0 0, .bool false] 28)) (.agg #[.slice sb xb.length xb.length, .bool bb]) (y) := ⟨sb, xb, bb, rfl, hb.kept hG, vb, tb⟩
    have oa : IntV w (.agg #[.slice sa xa.length xa.length, .bool ba]) (x) := ⟨sa, xa, ba, rfl, ha, va, ta⟩
    clear ha va ta
    have ob : IntV w (.agg #[.slice sb xb.length xb.length, .bool bb]) (y) := ⟨sb, xb, bb, rfl, hb, vb, tb⟩
    clear hb vb tb
    go_enter Tryz.func14, Tryz.ntmps14
    obtain ⟨Ca0, Ca1, Fa0, Fa1⟩ := box_cells Ba
    obtain ⟨Cb0, Cb1, Fb0, Fb1⟩ := box_cells Bb
    obtain ⟨Cq0, Cq1, Cq2, Cq3, Fq0, Fq1, Fq2, Fq3⟩ := box_cells4 Bq
    go_wp2_with fail
    generalize (((w.alloc (.cells #[.slice sa xa.length xa.length, .bool ba] 26)).alloc (.cells #[.slice sb xb.length xb.length, .bool bb] 26)).alloc (.cells #[.slice none 0 0, .bool false, .slice none 0 0, .bool false] 28)) = w0 at *
    clear Ca0 Fa0 Ca1 Fa1 Cb0 Fb0 Cb1 Fb1 Cq0 Fq0 Cq1 Fq1 Cq2 Fq2 Cq3 Fq3
    refine (Sign_any w0 _ y K ib (by omega) Hlb.out).mono ?_
    rintro e y0w1 ⟨rfl, gy0w1⟩
    rw [HS.out]
    replace Ba := heap_kept gy0w1 Ba
    replace Bb := heap_kept gy0w1 Bb
    replace Bq := heap_kept gy0w1 Bq
    replace ia := ia.kept gy0w1
    replace ib := ib.kept gy0w1
    replace hG := grown_trans hG gy0w1
    clear gy0w1
    obtain ⟨Ca0, Ca1, Fa0, Fa1⟩ := box_cells Ba
    obtain ⟨Cb0, Cb1, Fb0, Fb1⟩ := box_cells Bb
    obtain ⟨Cq0, Cq1, Cq2, Cq3, Fq0, Fq1, Fq2, Fq3⟩ := box_cells4 Bq
    have qd : RatV y0w1 (.agg #[.slice none 0 0, .bool false, .slice none 0 0, .bool false]) 0 := RatV.zero _
    clear Ca0 Fa0 Ca1 Fa1 Cb0 Fb0 Cb1 Fb1 Cq0 Fq0 Cq1 Fq1 Cq2 Fq2 Cq3 Fq3
    obtain ⟨k90, k91, k92, k93, k94, k95, k96, k97⟩ := box_cells4 Bq
    obtain ⟨q90, q91, q92, q93, q94, q95, q96, q97⟩ := box_cells4 (heap_set4 Bq (.slice none 0 0) (.bool false) (.slice none 0 0) (.bool false))
    have hF : Hid (RetRatE w (0) 5 (.returned (.tuple #[.agg #[.slice none 0 0, .bool false, .slice none 0 0, .bool false], .int .i64 5])) ((((y0w1.setCell ⟨w.heap.size + 1 + 1, 0, none⟩ (.slice none 0 0)).setCell ⟨w.heap.size + 1 + 1, 1, none⟩ (.bool false)).setCell ⟨w.heap.size + 1 + 1, 2, none⟩ (.slice none 0 0)).setCell ⟨w.heap.size + 1 + 1, 3, none⟩ (.bool false))) := ret_ratvE hG Bq (by omega) qd
    clear ia ib qd
    obtain ⟨Ca0, Ca1, Fa0, Fa1⟩ := box_cells Ba
    obtain ⟨Cb0, Cb1, Fb0, Fb1⟩ := box_cells Bb
    go_wp2_with fail
    exact bodyPost_ret (v := .tuple #[.agg #[.slice none 0 0, .bool false, .slice none 0 0, .bool false], .int .i64 5]) (by simp [results, Tryz.results14, go_sem, q90, q91, q92, q93]) rfl hF.out
  · skip
    have HS := Lib.hid hs
    clear hs
    rw [if_neg (show ¬ y = 0 by have := HY.out; omega)]
    have HLA : Hid ((-x).natAbs < B ^ K) := by show _ < _; rw [Int.natAbs_neg]; exact Hla.out
    have HLB : Hid ((-y).natAbs < B ^ K) := by show _ < _; rw [Int.natAbs_neg]; exact Hlb.out
    have hYp : 0 < (-y) := by have := HY.out; omega
    have e9 : Rat.divInt x y = Rat.divInt (-x) (-y) := (Rat.neg_divInt_neg x y).symm
    obtain ⟨R, hR⟩ : ∃ R, Rat.divInt (-x) (-y) = R := ⟨_, rfl⟩
    obtain ⟨g9, hg9⟩ : ∃ g, Nat.gcd ((-x)).natAbs ((-y)).natAbs = g := ⟨_, rfl⟩
    have hp9 := fmake_pos (-x) (-y) hYp
    rw [hg9, hR] at hp9
    have hb9 : R.den < B ^ K := hR ▸ rdiv_db HLB.out (by omega)
    have hgp : 0 < g9 := by rw [← hg9]; exact Nat.gcd_pos_of_pos_right _ (by omega)
    have hgl : (g9 : Int).natAbs < B ^ K := by rw [Int.natAbs_natCast, ← hg9]; exact fgcd_bd HLA.out HLB.out
    have HP : Hid (R.num = (-x) / (g9 : Int) ∧ ((R.den : Nat) : Int) = (-y) / (g9 : Int) ∧ R.den < B ^ K ∧ (0 : Int) < (g9 : Int) ∧ (g9 : Int).natAbs < B ^ K) := ⟨hp9.1, hp9.2, hb9, by omega, hgl⟩
    have HC : ∀ (W : World) (v u : Value), IntV W v (-x) → IntV W u (-y) → Tab W → Calls Tryz.prog 45 #[v, u] W (RetInt W (g9 : Int)) := fun W v u h1 h2 h3 => hg9 ▸ FCommon_any W v u (-x) (-y) K h1 h2 (by omega) HLA.out HLB.out h3
    replace HC := Lib.hid HC
    rw [e9, hR]
    clear e9 hR hg9 hp9 hb9 hgp hgl hYp
    obtain ⟨sa, xa, ba, rfl, ha, va, ta⟩ := Ha
    obtain ⟨sb, xb, bb, rfl, hb, vb, tb⟩ := Hb
    have hG : w.grownBy (((w.alloc (.cells #[.slice sa xa.length xa.length, .bool ba] 26)).alloc (.cells #[.slice sb xb.length xb.length, .bool bb] 26)).alloc (.cells #[.slice none 0 0, .bool false, .slice none 0 0, .bool false] 28)) none := (grown_alloc (grown_alloc (World.grownBy_alloc _ _ _) _) _)
    have Ba := heap_kept (grown_alloc (World.grownBy_alloc _ (.cells #[.slice sb xb.length xb.length, .bool bb] 26) none) (.cells #[.slice none 0 0, .bool false, .slice none 0 0, .bool false] 28)) (heap_new w (.cells #[.slice sa xa.length xa.length, .bool ba] 26) (w.heap.size) rfl)
    have Bb := heap_kept (World.grownBy_alloc _ (.cells #[.slice none 0 0, .bool false, .slice none 0 0, .bool false] 28) none) (heap_new (w.alloc (.cells #[.slice sa xa.length xa.length, .bool ba] 26)) (.cells #[.slice sb xb.length xb.length, .bool bb] 26) (w.heap.size + 1) (by simp))
    have Bq := (heap_new ((w.alloc (.cells #[.slice sa xa.length xa.length, .bool ba] 26)).alloc (.cells #[.slice sb xb.length xb.length, .bool bb] 26)) (.cells #[.slice none 0 0, .bool false, .slice none 0 0, .bool false] 28) (w.heap.size + 1 + 1) (by simp))
    have ia : IntV (((w.alloc (.cells #[.slice sa xa.length xa.length, .bool ba] 26)).alloc (.cells #[.slice sb xb.length xb.length, .bool bb] 26)).alloc (.cells #[.slice none 0 0, .bool false, .slice none 0 0, .bool false] 28)) (.agg #[.slice sa xa.length xa.length, .bool ba]) (x) := ⟨sa, xa, ba, rfl, ha.kept hG, va, ta⟩
    have ib : IntV (((w.alloc (.cells #[.slice sa xa.length xa.length, .bool ba] 26)).alloc (.cells #[.slice sb xb.length xb.length, .bool bb] 26)).alloc (.cells #[.slice none 0 0, .bool false, .slice none 0 0, .bool false] 28)) (.agg #[.slice sb xb.length xb.length, .bool bb]) (y) := ⟨sb, xb, bb, rfl, hb.kept hG, vb, tb⟩
    have oa : IntV w (.agg #[.slice sa xa.length xa.length, .bool ba]) (x) := ⟨sa, xa, ba, rfl, ha, va, ta⟩
    clear ha va ta
    have ob : IntV w (.agg #[.slice sb xb.length xb.length, .bool bb]) (y) := ⟨sb, xb, bb, rfl, hb, vb, tb⟩
    clear hb vb tb
    go_enter Tryz.func14, Tryz.ntmps14
    obtain ⟨Ca0, Ca1, Fa0, Fa1⟩ := box_cells Ba
    obtain ⟨Cb0, Cb1, Fb0, Fb1⟩ := box_cells Bb
    obtain ⟨Cq0, Cq1, Cq2, Cq3, Fq0, Fq1, Fq2, Fq3⟩ := box_cells4 Bq
    go_wp2_with fail
    generalize (((w.alloc (.cells #[.slice sa xa.length xa.length, .bool ba] 26)).alloc (.cells #[.slice sb xb.length xb.length, .bool bb] 26)).alloc (.cells #[.slice none 0 0, .bool false, .slice none 0 0, .bool false] 28)) = w0 at *
    clear Ca0 Fa0 Ca1 Fa1 Cb0 Fb0 Cb1 Fb1 Cq0 Fq0 Cq1 Fq1 Cq2 Fq2 Cq3 Fq3
    refine (Sign_any w0 _ y K ib (by omega) Hlb.out).mono ?_
    rintro e y1w1 ⟨rfl, gy1w1⟩
    rw [HS.out]
    replace Ba := heap_kept gy1w1 Ba
    replace Bb := heap_kept gy1w1 Bb
    replace Bq := heap_kept gy1w1 Bq
    replace ia := ia.kept gy1w1
    replace ib := ib.kept gy1w1
    replace hG := grown_trans hG gy1w1
    clear gy1w1
    obtain ⟨Ca0, Ca1, Fa0, Fa1⟩ := box_cells Ba
    obtain ⟨Cb0, Cb1, Fb0, Fb1⟩ := box_cells Bb
    obtain ⟨Cq0, Cq1, Cq2, Cq3, Fq0, Fq1, Fq2, Fq3⟩ := box_cells4 Bq
    go_wp2_with fail
    have hs0 : w.heap.size + 1 + 1 < y1w1.heap.size := (Array.getElem?_eq_some_iff.1 Bq).1
    clear Ca0 Fa0 Ca1 Fa1 Cb0 Fb0 Cb1 Fb1 Cq0 Fq0 Cq1 Fq1 Cq2 Fq2 Cq3 Fq3
    refine wp_region_held_drew (S := fun w' => True) (by kernel_rfl) (by exact trivial) (fun hHeld => ?_)
    have gd : y1w1.grownBy y1w1.drew none := grown_drew (grown_refl _ _)
    replace Ba := heap_kept gd Ba
    replace Bb := heap_kept gd Bb
    replace Bq := heap_kept gd Bq
    replace ia := ia.kept gd
    replace ib := ib.kept gd
    replace hG := grown_trans hG gd
    clear gd
    generalize y1w1.drew = y1w2 at *
    refine wpAnyH_ready (rs := [0, 2]) (by kernel_rfl) (by simp) ?_
    refine AllReadyH.cons rfl (fun KQ hKQ => ?_) (AllReadyH.cons rfl (fun KQ hKQ => ?_) AllReadyH.nil)
    focus
     obtain ⟨c0', c1', c2', c3'⟩ := box_cells Ba
     go_simp
     refine hKQ.out _ _ (by exact trivial) (fun hHeld => ?_)
     clear hKQ KQ
     try simp only [Act.put, List.getElem_toArray, List.getElem_cons_zero, List.getElem_cons_succ, List.setIfInBounds_toArray, List.set_cons_zero, List.set_cons_succ]
     refine wpAnyH_ready (rs := [1, 2]) (by kernel_rfl) (by simp) ?_
     refine AllReadyH.cons rfl (fun KQ hKQ => ?_) (AllReadyH.cons rfl (fun KQ hKQ => ?_) AllReadyH.nil)
     focus
      go_simp
      go_at_call 44
      refine (ZNeg_any y1w2 _ x K ia (by omega) Hla.out).mono ?_
      rintro e y1w3 ⟨_, rfl, ⟨se, xe, be, rfl, he, ve, te⟩, gy1w3⟩
      have ie : IntV y1w3 (.agg #[.slice se xe.length xe.length, .bool be]) (-x) := ⟨se, xe, be, rfl, he, ve, te⟩
      replace Ba := heap_kept gy1w3 Ba
      replace Bb := heap_kept gy1w3 Bb
      replace Bq := heap_kept gy1w3 Bq
      replace ia := ia.kept gy1w3
      replace ib := ib.kept gy1w3
      replace hG := grown_trans hG gy1w3
      clear gy1w3
      clear he ve te
      (try go_wp2_with fail)
      refine hKQ.out _ _ (by exact trivial) (fun hHeld => ?_)
      clear hKQ KQ
      try simp only [Act.put, List.getElem_toArray, List.getElem_cons_zero, List.getElem_cons_succ, List.setIfInBounds_toArray, List.set_cons_zero, List.set_cons_succ]
      refine wpAnyH_ready (rs := [2]) (by kernel_rfl) (by simp) ?_
      refine AllReadyH.cons rfl (fun KQ hKQ => ?_) AllReadyH.nil
      obtain ⟨c0', c1', c2', c3'⟩ := box_cells Bb
      go_simp
      refine hKQ.out _ _ (by exact trivial) (fun hHeld => ?_)
      clear hKQ KQ
      try simp only [Act.put, List.getElem_toArray, List.getElem_cons_zero, List.getElem_cons_succ, List.setIfInBounds_toArray, List.set_cons_zero, List.set_cons_succ]
      refine wpAnyH_ready (rs := [3]) (by kernel_rfl) (by simp) ?_
      refine AllReadyH.cons rfl (fun KQ hKQ => ?_) AllReadyH.nil
      go_simp
      go_at_call 44
      refine (ZNeg_any y1w3 _ y K ib (by omega) Hlb.out).mono ?_
      rintro e y1w4 ⟨_, rfl, ⟨sj, xj, bj, rfl, hj, vj, tj⟩, gy1w4⟩
      have ij : IntV y1w4 (.agg #[.slice sj xj.length xj.length, .bool bj]) (-y) := ⟨sj, xj, bj, rfl, hj, vj, tj⟩
      replace Ba := heap_kept gy1w4 Ba
      replace Bb := heap_kept gy1w4 Bb
      replace Bq := heap_kept gy1w4 Bq
      replace ia := ia.kept gy1w4
      replace ib := ib.kept gy1w4
      replace ie := ie.kept gy1w4
      replace hG := grown_trans hG gy1w4
      clear gy1w4
      clear hj vj tj
      (try go_wp2_with fail)
      refine hKQ.out _ _ (by exact trivial) (fun hHeld => ?_)
      clear hKQ KQ
      try simp only [Act.put, List.getElem_toArray, List.getElem_cons_zero, List.getElem_cons_succ, List.setIfInBounds_toArray, List.set_cons_zero, List.set_cons_succ]
     rotate_left 1
     focus
      obtain ⟨c0', c1', c2', c3'⟩ := box_cells Bb
      go_simp
      refine hKQ.out _ _ (by exact trivial) (fun hHeld => ?_)
      clear hKQ KQ
      try simp only [Act.put, List.getElem_toArray, List.getElem_cons_zero, List.getElem_cons_succ, List.setIfInBounds_toArray, List.set_cons_zero, List.set_cons_succ]
      refine wpAnyH_ready (rs := [1]) (by kernel_rfl) (by simp) ?_
      refine AllReadyH.cons rfl (fun KQ hKQ => ?_) AllReadyH.nil
      go_simp
      go_at_call 44
      refine (ZNeg_any y1w2 _ x K ia (by omega) Hla.out).mono ?_
      rintro e y1w3 ⟨_, rfl, ⟨se, xe, be, rfl, he, ve, te⟩, gy1w3⟩
      have ie : IntV y1w3 (.agg #[.slice se xe.length xe.length, .bool be]) (-x) := ⟨se, xe, be, rfl, he, ve, te⟩
      replace Ba := heap_kept gy1w3 Ba
      replace Bb := heap_kept gy1w3 Bb
      replace Bq := heap_kept gy1w3 Bq
      replace ia := ia.kept gy1w3
      replace ib := ib.kept gy1w3
      replace hG := grown_trans hG gy1w3
      clear gy1w3
      clear he ve te
      (try go_wp2_with fail)
      refine hKQ.out _ _ (by exact trivial) (fun hHeld => ?_)
      clear hKQ KQ
      try simp only [Act.put, List.getElem_toArray, List.getElem_cons_zero, List.getElem_cons_succ, List.setIfInBounds_toArray, List.set_cons_zero, List.set_cons_succ]
      refine wpAnyH_ready (rs := [3]) (by kernel_rfl) (by simp) ?_
      refine AllReadyH.cons rfl (fun KQ hKQ => ?_) AllReadyH.nil
      go_simp
      go_at_call 44
      refine (ZNeg_any y1w3 _ y K ib (by omega) Hlb.out).mono ?_
      rintro e y1w4 ⟨_, rfl, ⟨sj, xj, bj, rfl, hj, vj, tj⟩, gy1w4⟩
      have ij : IntV y1w4 (.agg #[.slice sj xj.length xj.length, .bool bj]) (-y) := ⟨sj, xj, bj, rfl, hj, vj, tj⟩
      replace Ba := heap_kept gy1w4 Ba
      replace Bb := heap_kept gy1w4 Bb
      replace Bq := heap_kept gy1w4 Bq
      replace ia := ia.kept gy1w4
      replace ib := ib.kept gy1w4
      replace ie := ie.kept gy1w4
      replace hG := grown_trans hG gy1w4
      clear gy1w4
      clear hj vj tj
      (try go_wp2_with fail)
      refine hKQ.out _ _ (by exact trivial) (fun hHeld => ?_)
      clear hKQ KQ
      try simp only [Act.put, List.getElem_toArray, List.getElem_cons_zero, List.getElem_cons_succ, List.setIfInBounds_toArray, List.set_cons_zero, List.set_cons_succ]
     rotate_left 1
    rotate_left 2
    focus
     obtain ⟨c0', c1', c2', c3'⟩ := box_cells Bb
     go_simp
     refine hKQ.out _ _ (by exact trivial) (fun hHeld => ?_)
     clear hKQ KQ
     try simp only [Act.put, List.getElem_toArray, List.getElem_cons_zero, List.getElem_cons_succ, List.setIfInBounds_toArray, List.set_cons_zero, List.set_cons_succ]
     refine wpAnyH_ready (rs := [0]) (by kernel_rfl) (by simp) ?_
     refine AllReadyH.cons rfl (fun KQ hKQ => ?_) AllReadyH.nil
     obtain ⟨c0', c1', c2', c3'⟩ := box_cells Ba
     go_simp
     refine hKQ.out _ _ (by exact trivial) (fun hHeld => ?_)
     clear hKQ KQ
     try simp only [Act.put, List.getElem_toArray, List.getElem_cons_zero, List.getElem_cons_succ, List.setIfInBounds_toArray, List.set_cons_zero, List.set_cons_succ]
     refine wpAnyH_ready (rs := [1]) (by kernel_rfl) (by simp) ?_
     refine AllReadyH.cons rfl (fun KQ hKQ => ?_) AllReadyH.nil
     go_simp
     go_at_call 44
     refine (ZNeg_any y1w2 _ x K ia (by omega) Hla.out).mono ?_
     rintro e y1w3 ⟨_, rfl, ⟨se, xe, be, rfl, he, ve, te⟩, gy1w3⟩
     have ie : IntV y1w3 (.agg #[.slice se xe.length xe.length, .bool be]) (-x) := ⟨se, xe, be, rfl, he, ve, te⟩
     replace Ba := heap_kept gy1w3 Ba
     replace Bb := heap_kept gy1w3 Bb
     replace Bq := heap_kept gy1w3 Bq
     replace ia := ia.kept gy1w3
     replace ib := ib.kept gy1w3
     replace hG := grown_trans hG gy1w3
     clear gy1w3
     clear he ve te
     (try go_wp2_with fail)
     refine hKQ.out _ _ (by exact trivial) (fun hHeld => ?_)
     clear hKQ KQ
     try simp only [Act.put, List.getElem_toArray, List.getElem_cons_zero, List.getElem_cons_succ, List.setIfInBounds_toArray, List.set_cons_zero, List.set_cons_succ]
     refine wpAnyH_ready (rs := [3]) (by kernel_rfl) (by simp) ?_
     refine AllReadyH.cons rfl (fun KQ hKQ => ?_) AllReadyH.nil
     go_simp
     go_at_call 44
     refine (ZNeg_any y1w3 _ y K ib (by omega) Hlb.out).mono ?_
     rintro e y1w4 ⟨_, rfl, ⟨sj, xj, bj, rfl, hj, vj, tj⟩, gy1w4⟩
     have ij : IntV y1w4 (.agg #[.slice sj xj.length xj.length, .bool bj]) (-y) := ⟨sj, xj, bj, rfl, hj, vj, tj⟩
     replace Ba := heap_kept gy1w4 Ba
     replace Bb := heap_kept gy1w4 Bb
     replace Bq := heap_kept gy1w4 Bq
     replace ia := ia.kept gy1w4
     replace ib := ib.kept gy1w4
     replace ie := ie.kept gy1w4
     replace hG := grown_trans hG gy1w4
     clear gy1w4
     clear hj vj tj
     (try go_wp2_with fail)
     refine hKQ.out _ _ (by exact trivial) (fun hHeld => ?_)
     clear hKQ KQ
     try simp only [Act.put, List.getElem_toArray, List.getElem_cons_zero, List.getElem_cons_succ, List.setIfInBounds_toArray, List.set_cons_zero, List.set_cons_succ]
    rotate_left 1
    all_goals (
     refine wpAnyH_ready (rs := [4]) (by kernel_rfl) (by simp) ?_
     refine AllReadyH.cons rfl (fun KQ hKQ => ?_) AllReadyH.nil
     obtain ⟨c0', c1', c2', c3'⟩ := box_cells Ba
     go_simp
     clear c0' c1' c2' c3'
     replace ia := ia.set2 Ba (.slice se xe.length xe.length) (.bool be)
     replace ib := ib.set2 Ba (.slice se xe.length xe.length) (.bool be)
     replace ie := ie.set2 Ba (.slice se xe.length xe.length) (.bool be)
     replace ij := ij.set2 Ba (.slice se xe.length xe.length) (.bool be)
     replace hG := grown_set2 (g := w.heap.size) hG (by omega) (.slice se xe.length xe.length) (.bool be)
     replace Bb := heap_unset2 Bb (show w.heap.size + 1 ≠ w.heap.size by omega) (.slice se xe.length xe.length) (.bool be)
     replace Bq := heap_unset2 Bq (show w.heap.size + 1 + 1 ≠ w.heap.size by omega) (.slice se xe.length xe.length) (.bool be)
     replace Ba := heap_set2 Ba (.slice se xe.length xe.length) (.bool be)
     generalize ((y1w4.setCell ⟨w.heap.size, 0, none⟩ (.slice se xe.length xe.length)).setCell ⟨w.heap.size, 1, none⟩ (.bool be)) = y1w5 at *
     refine hKQ.out _ _ (by exact trivial) (fun hHeld => ?_)
     clear hKQ KQ
     try simp only [Act.put, List.getElem_toArray, List.getElem_cons_zero, List.getElem_cons_succ, List.setIfInBounds_toArray, List.set_cons_zero, List.set_cons_succ]
     refine wpAnyH_ready (rs := [5]) (by kernel_rfl) (by simp) ?_
     refine AllReadyH.cons rfl (fun KQ hKQ => ?_) AllReadyH.nil
     obtain ⟨c0', c1', c2', c3'⟩ := box_cells Bb
     go_simp
     clear c0' c1' c2' c3'
     replace ia := ia.set2 Bb (.slice sj xj.length xj.length) (.bool bj)
     replace ib := ib.set2 Bb (.slice sj xj.length xj.length) (.bool bj)
     replace ie := ie.set2 Bb (.slice sj xj.length xj.length) (.bool bj)
     replace ij := ij.set2 Bb (.slice sj xj.length xj.length) (.bool bj)
     replace hG := grown_set2 (g := w.heap.size + 1) hG (by omega) (.slice sj xj.length xj.length) (.bool bj)
     replace Ba := heap_unset2 Ba (show w.heap.size ≠ w.heap.size + 1 by omega) (.slice sj xj.length xj.length) (.bool bj)
     replace Bq := heap_unset2 Bq (show w.heap.size + 1 + 1 ≠ w.heap.size + 1 by omega) (.slice sj xj.length xj.length) (.bool bj)
     replace Bb := heap_set2 Bb (.slice sj xj.length xj.length) (.bool bj)
     generalize ((y1w5.setCell ⟨w.heap.size + 1, 0, none⟩ (.slice sj xj.length xj.length)).setCell ⟨w.heap.size + 1, 1, none⟩ (.bool bj)) = y1w6 at *
     refine hKQ.out _ _ (by exact trivial) (fun hHeld => ?_)
     clear hKQ KQ
     try simp only [Act.put, List.getElem_toArray, List.getElem_cons_zero, List.getElem_cons_succ, List.setIfInBounds_toArray, List.set_cons_zero, List.set_cons_succ]
     refine wpAnyH_done (by kernel_rfl) ?_ _
     clear ia ib hs0
     obtain ⟨Ca0, Ca1, Fa0, Fa1⟩ := box_cells Ba
     obtain ⟨Cb0, Cb1, Fb0, Fb1⟩ := box_cells Bb
     obtain ⟨Cq0, Cq1, Cq2, Cq3, Fq0, Fq1, Fq2, Fq3⟩ := box_cells4 Bq
     go_wp2_with fail
     clear Ca0 Fa0 Ca1 Fa1 Cb0 Fb0 Cb1 Fb1 Cq0 Fq0 Cq1 Fq1 Cq2 Fq2 Cq3 Fq3
     refine (HC.out y1w6 _ _ ie ij (HTB.out _ hG)).mono ?_
     rintro e y1w7 ⟨_, rfl, ⟨sg, xg, bg, rfl, hg, vg, tg⟩, gy1w7⟩
     have ig : IntV y1w7 (.agg #[.slice sg xg.length xg.length, .bool bg]) ((g9 : Int)) := ⟨sg, xg, bg, rfl, hg, vg, tg⟩
     replace Ba := heap_kept gy1w7 Ba
     replace Bb := heap_kept gy1w7 Bb
     replace Bq := heap_kept gy1w7 Bq
     replace ie := ie.kept gy1w7
     replace ij := ij.kept gy1w7
     replace hG := grown_trans hG gy1w7
     clear gy1w7
     clear hg vg tg
     obtain ⟨Ca0, Ca1, Fa0, Fa1⟩ := box_cells Ba
     obtain ⟨Cb0, Cb1, Fb0, Fb1⟩ := box_cells Bb
     obtain ⟨Cq0, Cq1, Cq2, Cq3, Fq0, Fq1, Fq2, Fq3⟩ := box_cells4 Bq
     have gby1w7 := (World.grownBy_alloc y1w7 (.cells #[.slice sg xg.length xg.length, .bool bg] 26) none)
     have Bg := (heap_new y1w7 (.cells #[.slice sg xg.length xg.length, .bool bg] 26) (y1w7.heap.size) rfl)
     have hzy1w7 : Hid (w.heap.size ≤ y1w7.heap.size) := Lib.hid hG.size
     have hlay1w7 : Hid (w.heap.size < y1w7.heap.size) := Lib.hid (Array.getElem?_eq_some_iff.1 Ba).1
     have hlby1w7 : Hid (w.heap.size + 1 < y1w7.heap.size) := Lib.hid (Array.getElem?_eq_some_iff.1 Bb).1
     have hlqy1w7 : Hid (w.heap.size + 1 + 1 < y1w7.heap.size) := Lib.hid (Array.getElem?_eq_some_iff.1 Bq).1
     clear Ca0 Fa0 Ca1 Fa1 Cb0 Fb0 Cb1 Fb1 Cq0 Fq0 Cq1 Fq1 Cq2 Fq2 Cq3 Fq3
     replace Ba := heap_kept gby1w7 Ba
     replace Bb := heap_kept gby1w7 Bb
     replace Bq := heap_kept gby1w7 Bq
     replace ie := ie.kept gby1w7
     replace ij := ij.kept gby1w7
     replace ig := ig.kept gby1w7
     replace hG := grown_trans hG gby1w7
     clear gby1w7
     obtain ⟨Ca0, Ca1, Fa0, Fa1⟩ := box_cells Ba
     obtain ⟨Cb0, Cb1, Fb0, Fb1⟩ := box_cells Bb
     obtain ⟨Cq0, Cq1, Cq2, Cq3, Fq0, Fq1, Fq2, Fq3⟩ := box_cells4 Bq
     obtain ⟨Cg0, Cg1, Fg0, Fg1⟩ := box_cells Bg
     go_wp2_with fail
     generalize (y1w7.alloc (.cells #[.slice sg xg.length xg.length, .bool bg] 26)) = y1w8 at *
     generalize y1w7.heap.size = ay1w7 at *
     replace hzy1w7 := hzy1w7.out
     replace hlay1w7 := hlay1w7.out
     replace hlby1w7 := hlby1w7.out
     replace hlqy1w7 := hlqy1w7.out
     go_region_held3 (fun w' => w'.cell? ⟨w.heap.size, 0, none⟩ = some (.slice se xe.length xe.length) ∧ w'.cell? ⟨w.heap.size, 1, none⟩ = some (.bool be) ∧ w'.cell? ⟨w.heap.size + 1, 0, none⟩ = some (.slice sj xj.length xj.length) ∧ w'.cell? ⟨w.heap.size + 1, 1, none⟩ = some (.bool bj) ∧ w'.cell? ⟨ay1w7, 0, none⟩ = some (.slice sg xg.length xg.length) ∧ w'.cell? ⟨ay1w7, 1, none⟩ = some (.bool bg))
       (first | assumption | exact ⟨Ca0, Ca1, Cb0, Cb1, Cg0, Cg1⟩ | exact HSy1w9_50 | go_keep)
       (first
         | (go_at_call 47; (with_reducible refine (FShare_any y1w8.drew _ _ (-x) (g9 : Int) K (ie.kept (grown_drew (grown_refl _ _))) (ig.kept (grown_drew (grown_refl _ _))) (by omega) HLA.out HP.out.2.2.2.2 HP.out.2.2.2.1).mono ?_); rintro e y1w9_1 ⟨v1, rfl, n1, gy1w9_1⟩; have hGy1w9_1 := grown_pre y1w8 gy1w9_1 rfl rfl rfl rfl; have hSy1w9_1 := (And.intro (hGy1w9_1.cell Ca0 (by simp)) (And.intro (hGy1w9_1.cell Ca1 (by simp)) (And.intro (hGy1w9_1.cell Cb0 (by simp)) (And.intro (hGy1w9_1.cell Cb1 (by simp)) (And.intro (hGy1w9_1.cell Cg0 (by simp)) (hGy1w9_1.cell Cg1 (by simp))))))); clear gy1w9_1)
         | (go_at_call 39; (with_reducible refine (FFresh_any y1w9_1 _ ((-x) / (g9 : Int)) K n1 (by omega) (fshare_bd HLA.out)).mono ?_); rintro e y1w9_2 ⟨v2, rfl, n2, gy1w9_2⟩; rw [← HP.out.1] at n2; have hGy1w9_2 := grown_trans hGy1w9_1 gy1w9_2; replace n1 := n1.kept gy1w9_2; have hSy1w9_2 := (And.intro (hGy1w9_2.cell Ca0 (by simp)) (And.intro (hGy1w9_2.cell Ca1 (by simp)) (And.intro (hGy1w9_2.cell Cb0 (by simp)) (And.intro (hGy1w9_2.cell Cb1 (by simp)) (And.intro (hGy1w9_2.cell Cg0 (by simp)) (hGy1w9_2.cell Cg1 (by simp))))))); clear gy1w9_2)
         | (go_at_call 47; (with_reducible refine (FShare_any y1w9_2 _ _ (-y) (g9 : Int) K (ij.kept hGy1w9_2) (ig.kept hGy1w9_2) (by omega) HLB.out HP.out.2.2.2.2 HP.out.2.2.2.1).mono ?_); rintro e y1w9_3 ⟨v3, rfl, n3, gy1w9_3⟩; have hGy1w9_3 := grown_trans hGy1w9_2 gy1w9_3; replace n1 := n1.kept gy1w9_3; replace n2 := n2.kept gy1w9_3; have hSy1w9_3 := (And.intro (hGy1w9_3.cell Ca0 (by simp)) (And.intro (hGy1w9_3.cell Ca1 (by simp)) (And.intro (hGy1w9_3.cell Cb0 (by simp)) (And.intro (hGy1w9_3.cell Cb1 (by simp)) (And.intro (hGy1w9_3.cell Cg0 (by simp)) (hGy1w9_3.cell Cg1 (by simp))))))); clear gy1w9_3)
         | (go_at_call 39; (with_reducible refine (FFresh_any y1w9_3 _ ((-y) / (g9 : Int)) K n3 (by omega) (fshare_bd HLB.out)).mono ?_); rintro e y1w9_4 ⟨v4, rfl, n4, gy1w9_4⟩; rw [← HP.out.2.1] at n4; have hGy1w9_4 := grown_trans hGy1w9_3 gy1w9_4; replace n1 := n1.kept gy1w9_4; replace n2 := n2.kept gy1w9_4; replace n3 := n3.kept gy1w9_4; have hSy1w9_4 := (And.intro (hGy1w9_4.cell Ca0 (by simp)) (And.intro (hGy1w9_4.cell Ca1 (by simp)) (And.intro (hGy1w9_4.cell Cb0 (by simp)) (And.intro (hGy1w9_4.cell Cb1 (by simp)) (And.intro (hGy1w9_4.cell Cg0 (by simp)) (hGy1w9_4.cell Cg1 (by simp))))))); clear gy1w9_4)
         | (go_at_call 46; (with_reducible refine (FOver_any y1w9_4 _ _ R K n2 n4 (by omega) HP.out.2.2.1).mono ?_); rintro e y1w9_5 ⟨_, rfl, ⟨sd, xd, bd, sd', xd', bd', rfl, hd, hd'⟩, gy1w9_5⟩; have hGy1w9_5 := grown_trans hGy1w9_4 gy1w9_5; replace n1 := n1.kept gy1w9_5; replace n2 := n2.kept gy1w9_5; replace n3 := n3.kept gy1w9_5; replace n4 := n4.kept gy1w9_5; have qd : RatV y1w9_5 (.agg #[.slice sd xd.length xd.length, .bool bd, .slice sd' xd'.length xd'.length, .bool bd']) (R) := ⟨sd, xd, bd, sd', xd', bd', rfl, hd, hd'⟩; have hSy1w9_5 := (And.intro (hGy1w9_5.cell Ca0 (by simp)) (And.intro (hGy1w9_5.cell Ca1 (by simp)) (And.intro (hGy1w9_5.cell Cb0 (by simp)) (And.intro (hGy1w9_5.cell Cb1 (by simp)) (And.intro (hGy1w9_5.cell Cg0 (by simp)) (hGy1w9_5.cell Cg1 (by simp))))))); clear gy1w9_5; clear hd hd'; (obtain ⟨dq0, dq1, dq2, dq3, dq4, dq5, dq6, dq7⟩ := box_cells4 (heap_kept hGy1w9_5 Bq)); have HSy1w9_50 := (And.intro ((box_cells (heap_unset4 (heap_kept hGy1w9_5 Ba) (show w.heap.size ≠ w.heap.size + 1 + 1 by omega) (.slice sd xd.length xd.length) (.bool bd) (.slice sd' xd'.length xd'.length) (.bool bd'))).1) (And.intro ((box_cells (heap_unset4 (heap_kept hGy1w9_5 Ba) (show w.heap.size ≠ w.heap.size + 1 + 1 by omega) (.slice sd xd.length xd.length) (.bool bd) (.slice sd' xd'.length xd'.length) (.bool bd'))).2.1) (And.intro ((box_cells (heap_unset4 (heap_kept hGy1w9_5 Bb) (show w.heap.size + 1 ≠ w.heap.size + 1 + 1 by omega) (.slice sd xd.length xd.length) (.bool bd) (.slice sd' xd'.length xd'.length) (.bool bd'))).1) (And.intro ((box_cells (heap_unset4 (heap_kept hGy1w9_5 Bb) (show w.heap.size + 1 ≠ w.heap.size + 1 + 1 by omega) (.slice sd xd.length xd.length) (.bool bd) (.slice sd' xd'.length xd'.length) (.bool bd'))).2.1) (And.intro ((box_cells (heap_unset4 (heap_kept hGy1w9_5 Bg) (show ay1w7 ≠ w.heap.size + 1 + 1 by omega) (.slice sd xd.length xd.length) (.bool bd) (.slice sd' xd'.length xd'.length) (.bool bd'))).1) ((box_cells (heap_unset4 (heap_kept hGy1w9_5 Bg) (show ay1w7 ≠ w.heap.size + 1 + 1 by omega) (.slice sd xd.length xd.length) (.bool bd) (.slice sd' xd'.length xd'.length) (.bool bd'))).2.1))))))))
     replace Ba := heap_kept hGy1w9_5 Ba
     replace Bb := heap_kept hGy1w9_5 Bb
     replace Bq := heap_kept hGy1w9_5 Bq
     replace Bg := heap_kept hGy1w9_5 Bg
     replace ie := ie.kept hGy1w9_5
     replace ij := ij.kept hGy1w9_5
     replace ig := ig.kept hGy1w9_5
     replace hG := grown_trans hG hGy1w9_5
     clear Ca0 Fa0 Ca1 Fa1 Cb0 Fb0 Cb1 Fb1 Cq0 Fq0 Cq1 Fq1 Cq2 Fq2 Cq3 Fq3 Cg0 Fg0 Cg1 Fg1
     obtain ⟨k90, k91, k92, k93, k94, k95, k96, k97⟩ := box_cells4 Bq
     obtain ⟨q90, q91, q92, q93, q94, q95, q96, q97⟩ := box_cells4 (heap_set4 Bq (.slice sd xd.length xd.length) (.bool bd) (.slice sd' xd'.length xd'.length) (.bool bd'))
     have hF : Hid (RetRatE w (R) 0 (.returned (.tuple #[.agg #[.slice sd xd.length xd.length, .bool bd, .slice sd' xd'.length xd'.length, .bool bd'], .int .i64 0])) ((((y1w9_5.setCell ⟨w.heap.size + 1 + 1, 0, none⟩ (.slice sd xd.length xd.length)).setCell ⟨w.heap.size + 1 + 1, 1, none⟩ (.bool bd)).setCell ⟨w.heap.size + 1 + 1, 2, none⟩ (.slice sd' xd'.length xd'.length)).setCell ⟨w.heap.size + 1 + 1, 3, none⟩ (.bool bd'))) := ret_ratvE hG Bq (by omega) qd
     clear ie ij ig n1 n2 n3 n4 qd
     obtain ⟨Ca0, Ca1, Fa0, Fa1⟩ := box_cells Ba
     obtain ⟨Cb0, Cb1, Fb0, Fb1⟩ := box_cells Bb
     obtain ⟨Cg0, Cg1, Fg0, Fg1⟩ := box_cells Bg
     go_wp2_with fail
     exact bodyPost_ret (v := .tuple #[.agg #[.slice sd xd.length xd.length, .bool bd, .slice sd' xd'.length xd'.length, .bool bd'], .int .i64 0]) (by simp [results, Tryz.results14, go_sem, q90, q91, q92, q93]) rfl hF.out)
  · skip
    have HS := Lib.hid hs
    clear hs
    rw [if_neg (show ¬ y = 0 by have := HY.out; omega)]
    have hYp : 0 < y := by have := HY.out; omega
    have e9 : Rat.divInt x y = Rat.divInt x y := rfl
    obtain ⟨R, hR⟩ : ∃ R, Rat.divInt x y = R := ⟨_, rfl⟩
    obtain ⟨g9, hg9⟩ : ∃ g, Nat.gcd (x).natAbs (y).natAbs = g := ⟨_, rfl⟩
    have hp9 := fmake_pos x y hYp
    rw [hg9, hR] at hp9
    have hb9 : R.den < B ^ K := hR ▸ rdiv_db Hlb.out (by omega)
    have hgp : 0 < g9 := by rw [← hg9]; exact Nat.gcd_pos_of_pos_right _ (by omega)
    have hgl : (g9 : Int).natAbs < B ^ K := by rw [Int.natAbs_natCast, ← hg9]; exact fgcd_bd Hla.out Hlb.out
    have HP : Hid (R.num = x / (g9 : Int) ∧ ((R.den : Nat) : Int) = y / (g9 : Int) ∧ R.den < B ^ K ∧ (0 : Int) < (g9 : Int) ∧ (g9 : Int).natAbs < B ^ K) := ⟨hp9.1, hp9.2, hb9, by omega, hgl⟩
    have HC : ∀ (W : World) (v u : Value), IntV W v x → IntV W u y → Tab W → Calls Tryz.prog 45 #[v, u] W (RetInt W (g9 : Int)) := fun W v u h1 h2 h3 => hg9 ▸ FCommon_any W v u x y K h1 h2 (by omega) Hla.out Hlb.out h3
    replace HC := Lib.hid HC
    rw [e9, hR]
    clear e9 hR hg9 hp9 hb9 hgp hgl hYp
    obtain ⟨sa, xa, ba, rfl, ha, va, ta⟩ := Ha
    obtain ⟨sb, xb, bb, rfl, hb, vb, tb⟩ := Hb
    have hG : w.grownBy (((w.alloc (.cells #[.slice sa xa.length xa.length, .bool ba] 26)).alloc (.cells #[.slice sb xb.length xb.length, .bool bb] 26)).alloc (.cells #[.slice none 0 0, .bool false, .slice none 0 0, .bool false] 28)) none := (grown_alloc (grown_alloc (World.grownBy_alloc _ _ _) _) _)
    have Ba := heap_kept (grown_alloc (World.grownBy_alloc _ (.cells #[.slice sb xb.length xb.length, .bool bb] 26) none) (.cells #[.slice none 0 0, .bool false, .slice none 0 0, .bool false] 28)) (heap_new w (.cells #[.slice sa xa.length xa.length, .bool ba] 26) (w.heap.size) rfl)
    have Bb := heap_kept (World.grownBy_alloc _ (.cells #[.slice none 0 0, .bool false, .slice none 0 0, .bool false] 28) none) (heap_new (w.alloc (.cells #[.slice sa xa.length xa.length, .bool ba] 26)) (.cells #[.slice sb xb.length xb.length, .bool bb] 26) (w.heap.size + 1) (by simp))
    have Bq := (heap_new ((w.alloc (.cells #[.slice sa xa.length xa.length, .bool ba] 26)).alloc (.cells #[.slice sb xb.length xb.length, .bool bb] 26)) (.cells #[.slice none 0 0, .bool false, .slice none 0 0, .bool false] 28) (w.heap.size + 1 + 1) (by simp))
    have ia : IntV (((w.alloc (.cells #[.slice sa xa.length xa.length, .bool ba] 26)).alloc (.cells #[.slice sb xb.length xb.length, .bool bb] 26)).alloc (.cells #[.slice none 0 0, .bool false, .slice none 0 0, .bool false] 28)) (.agg #[.slice sa xa.length xa.length, .bool ba]) (x) := ⟨sa, xa, ba, rfl, ha.kept hG, va, ta⟩
    have ib : IntV (((w.alloc (.cells #[.slice sa xa.length xa.length, .bool ba] 26)).alloc (.cells #[.slice sb xb.length xb.length, .bool bb] 26)).alloc (.cells #[.slice none 0 0, .bool false, .slice none 0 0, .bool false] 28)) (.agg #[.slice sb xb.length xb.length, .bool bb]) (y) := ⟨sb, xb, bb, rfl, hb.kept hG, vb, tb⟩
    have oa : IntV w (.agg #[.slice sa xa.length xa.length, .bool ba]) (x) := ⟨sa, xa, ba, rfl, ha, va, ta⟩
    clear ha va ta
    have ob : IntV w (.agg #[.slice sb xb.length xb.length, .bool bb]) (y) := ⟨sb, xb, bb, rfl, hb, vb, tb⟩
    clear hb vb tb
    go_enter Tryz.func14, Tryz.ntmps14
    obtain ⟨Ca0, Ca1, Fa0, Fa1⟩ := box_cells Ba
    obtain ⟨Cb0, Cb1, Fb0, Fb1⟩ := box_cells Bb
    obtain ⟨Cq0, Cq1, Cq2, Cq3, Fq0, Fq1, Fq2, Fq3⟩ := box_cells4 Bq
    go_wp2_with fail
    generalize (((w.alloc (.cells #[.slice sa xa.length xa.length, .bool ba] 26)).alloc (.cells #[.slice sb xb.length xb.length, .bool bb] 26)).alloc (.cells #[.slice none 0 0, .bool false, .slice none 0 0, .bool false] 28)) = w0 at *
    clear Ca0 Fa0 Ca1 Fa1 Cb0 Fb0 Cb1 Fb1 Cq0 Fq0 Cq1 Fq1 Cq2 Fq2 Cq3 Fq3
    refine (Sign_any w0 _ y K ib (by omega) Hlb.out).mono ?_
    rintro e y2w1 ⟨rfl, gy2w1⟩
    rw [HS.out]
    replace Ba := heap_kept gy2w1 Ba
    replace Bb := heap_kept gy2w1 Bb
    replace Bq := heap_kept gy2w1 Bq
    replace ia := ia.kept gy2w1
    replace ib := ib.kept gy2w1
    replace hG := grown_trans hG gy2w1
    clear gy2w1
    obtain ⟨Ca0, Ca1, Fa0, Fa1⟩ := box_cells Ba
    obtain ⟨Cb0, Cb1, Fb0, Fb1⟩ := box_cells Bb
    obtain ⟨Cq0, Cq1, Cq2, Cq3, Fq0, Fq1, Fq2, Fq3⟩ := box_cells4 Bq
    go_wp2_with fail
    clear Ca0 Fa0 Ca1 Fa1 Cb0 Fb0 Cb1 Fb1 Cq0 Fq0 Cq1 Fq1 Cq2 Fq2 Cq3 Fq3
    refine (HC.out y2w1 _ _ ia ib (HTB.out _ hG)).mono ?_
    rintro e y2w2 ⟨_, rfl, ⟨sg, xg, bg, rfl, hg, vg, tg⟩, gy2w2⟩
    have ig : IntV y2w2 (.agg #[.slice sg xg.length xg.length, .bool bg]) ((g9 : Int)) := ⟨sg, xg, bg, rfl, hg, vg, tg⟩
    replace Ba := heap_kept gy2w2 Ba
    replace Bb := heap_kept gy2w2 Bb
    replace Bq := heap_kept gy2w2 Bq
    replace ia := ia.kept gy2w2
    replace ib := ib.kept gy2w2
    replace hG := grown_trans hG gy2w2
    clear gy2w2
    clear hg vg tg
    obtain ⟨Ca0, Ca1, Fa0, Fa1⟩ := box_cells Ba
    obtain ⟨Cb0, Cb1, Fb0, Fb1⟩ := box_cells Bb
    obtain ⟨Cq0, Cq1, Cq2, Cq3, Fq0, Fq1, Fq2, Fq3⟩ := box_cells4 Bq
    have gby2w2 := (World.grownBy_alloc y2w2 (.cells #[.slice sg xg.length xg.length, .bool bg] 26) none)
    have Bg := (heap_new y2w2 (.cells #[.slice sg xg.length xg.length, .bool bg] 26) (y2w2.heap.size) rfl)
    have hzy2w2 : Hid (w.heap.size ≤ y2w2.heap.size) := Lib.hid hG.size
    have hlay2w2 : Hid (w.heap.size < y2w2.heap.size) := Lib.hid (Array.getElem?_eq_some_iff.1 Ba).1
    have hlby2w2 : Hid (w.heap.size + 1 < y2w2.heap.size) := Lib.hid (Array.getElem?_eq_some_iff.1 Bb).1
    have hlqy2w2 : Hid (w.heap.size + 1 + 1 < y2w2.heap.size) := Lib.hid (Array.getElem?_eq_some_iff.1 Bq).1
    clear Ca0 Fa0 Ca1 Fa1 Cb0 Fb0 Cb1 Fb1 Cq0 Fq0 Cq1 Fq1 Cq2 Fq2 Cq3 Fq3
    replace Ba := heap_kept gby2w2 Ba
    replace Bb := heap_kept gby2w2 Bb
    replace Bq := heap_kept gby2w2 Bq
    replace ia := ia.kept gby2w2
    replace ib := ib.kept gby2w2
    replace ig := ig.kept gby2w2
    replace hG := grown_trans hG gby2w2
    clear gby2w2
    obtain ⟨Ca0, Ca1, Fa0, Fa1⟩ := box_cells Ba
    obtain ⟨Cb0, Cb1, Fb0, Fb1⟩ := box_cells Bb
    obtain ⟨Cq0, Cq1, Cq2, Cq3, Fq0, Fq1, Fq2, Fq3⟩ := box_cells4 Bq
    obtain ⟨Cg0, Cg1, Fg0, Fg1⟩ := box_cells Bg
    go_wp2_with fail
    generalize (y2w2.alloc (.cells #[.slice sg xg.length xg.length, .bool bg] 26)) = y2w3 at *
    generalize y2w2.heap.size = ay2w2 at *
    replace hzy2w2 := hzy2w2.out
    replace hlay2w2 := hlay2w2.out
    replace hlby2w2 := hlby2w2.out
    replace hlqy2w2 := hlqy2w2.out
    go_region_held3 (fun w' => w'.cell? ⟨w.heap.size, 0, none⟩ = some (.slice sa xa.length xa.length) ∧ w'.cell? ⟨w.heap.size, 1, none⟩ = some (.bool ba) ∧ w'.cell? ⟨w.heap.size + 1, 0, none⟩ = some (.slice sb xb.length xb.length) ∧ w'.cell? ⟨w.heap.size + 1, 1, none⟩ = some (.bool bb) ∧ w'.cell? ⟨ay2w2, 0, none⟩ = some (.slice sg xg.length xg.length) ∧ w'.cell? ⟨ay2w2, 1, none⟩ = some (.bool bg))
      (first | assumption | exact ⟨Ca0, Ca1, Cb0, Cb1, Cg0, Cg1⟩ | exact HSy2w4_50 | go_keep)
      (first
        | (go_at_call 47; (with_reducible refine (FShare_any y2w3.drew _ _ x (g9 : Int) K (ia.kept (grown_drew (grown_refl _ _))) (ig.kept (grown_drew (grown_refl _ _))) (by omega) Hla.out HP.out.2.2.2.2 HP.out.2.2.2.1).mono ?_); rintro e y2w4_1 ⟨v1, rfl, n1, gy2w4_1⟩; have hGy2w4_1 := grown_pre y2w3 gy2w4_1 rfl rfl rfl rfl; have hSy2w4_1 := (And.intro (hGy2w4_1.cell Ca0 (by simp)) (And.intro (hGy2w4_1.cell Ca1 (by simp)) (And.intro (hGy2w4_1.cell Cb0 (by simp)) (And.intro (hGy2w4_1.cell Cb1 (by simp)) (And.intro (hGy2w4_1.cell Cg0 (by simp)) (hGy2w4_1.cell Cg1 (by simp))))))); clear gy2w4_1)
        | (go_at_call 39; (with_reducible refine (FFresh_any y2w4_1 _ (x / (g9 : Int)) K n1 (by omega) (fshare_bd Hla.out)).mono ?_); rintro e y2w4_2 ⟨v2, rfl, n2, gy2w4_2⟩; rw [← HP.out.1] at n2; have hGy2w4_2 := grown_trans hGy2w4_1 gy2w4_2; replace n1 := n1.kept gy2w4_2; have hSy2w4_2 := (And.intro (hGy2w4_2.cell Ca0 (by simp)) (And.intro (hGy2w4_2.cell Ca1 (by simp)) (And.intro (hGy2w4_2.cell Cb0 (by simp)) (And.intro (hGy2w4_2.cell Cb1 (by simp)) (And.intro (hGy2w4_2.cell Cg0 (by simp)) (hGy2w4_2.cell Cg1 (by simp))))))); clear gy2w4_2)
        | (go_at_call 47; (with_reducible refine (FShare_any y2w4_2 _ _ y (g9 : Int) K (ib.kept hGy2w4_2) (ig.kept hGy2w4_2) (by omega) Hlb.out HP.out.2.2.2.2 HP.out.2.2.2.1).mono ?_); rintro e y2w4_3 ⟨v3, rfl, n3, gy2w4_3⟩; have hGy2w4_3 := grown_trans hGy2w4_2 gy2w4_3; replace n1 := n1.kept gy2w4_3; replace n2 := n2.kept gy2w4_3; have hSy2w4_3 := (And.intro (hGy2w4_3.cell Ca0 (by simp)) (And.intro (hGy2w4_3.cell Ca1 (by simp)) (And.intro (hGy2w4_3.cell Cb0 (by simp)) (And.intro (hGy2w4_3.cell Cb1 (by simp)) (And.intro (hGy2w4_3.cell Cg0 (by simp)) (hGy2w4_3.cell Cg1 (by simp))))))); clear gy2w4_3)
        | (go_at_call 39; (with_reducible refine (FFresh_any y2w4_3 _ (y / (g9 : Int)) K n3 (by omega) (fshare_bd Hlb.out)).mono ?_); rintro e y2w4_4 ⟨v4, rfl, n4, gy2w4_4⟩; rw [← HP.out.2.1] at n4; have hGy2w4_4 := grown_trans hGy2w4_3 gy2w4_4; replace n1 := n1.kept gy2w4_4; replace n2 := n2.kept gy2w4_4; replace n3 := n3.kept gy2w4_4; have hSy2w4_4 := (And.intro (hGy2w4_4.cell Ca0 (by simp)) (And.intro (hGy2w4_4.cell Ca1 (by simp)) (And.intro (hGy2w4_4.cell Cb0 (by simp)) (And.intro (hGy2w4_4.cell Cb1 (by simp)) (And.intro (hGy2w4_4.cell Cg0 (by simp)) (hGy2w4_4.cell Cg1 (by simp))))))); clear gy2w4_4)
        | (go_at_call 46; (with_reducible refine (FOver_any y2w4_4 _ _ R K n2 n4 (by omega) HP.out.2.2.1).mono ?_); rintro e y2w4_5 ⟨_, rfl, ⟨sd, xd, bd, sd', xd', bd', rfl, hd, hd'⟩, gy2w4_5⟩; have hGy2w4_5 := grown_trans hGy2w4_4 gy2w4_5; replace n1 := n1.kept gy2w4_5; replace n2 := n2.kept gy2w4_5; replace n3 := n3.kept gy2w4_5; replace n4 := n4.kept gy2w4_5; have qd : RatV y2w4_5 (.agg #[.slice sd xd.length xd.length, .bool bd, .slice sd' xd'.length xd'.length, .bool bd']) (R) := ⟨sd, xd, bd, sd', xd', bd', rfl, hd, hd'⟩; have hSy2w4_5 := (And.intro (hGy2w4_5.cell Ca0 (by simp)) (And.intro (hGy2w4_5.cell Ca1 (by simp)) (And.intro (hGy2w4_5.cell Cb0 (by simp)) (And.intro (hGy2w4_5.cell Cb1 (by simp)) (And.intro (hGy2w4_5.cell Cg0 (by simp)) (hGy2w4_5.cell Cg1 (by simp))))))); clear gy2w4_5; clear hd hd'; (obtain ⟨dq0, dq1, dq2, dq3, dq4, dq5, dq6, dq7⟩ := box_cells4 (heap_kept hGy2w4_5 Bq)); have HSy2w4_50 := (And.intro ((box_cells (heap_unset4 (heap_kept hGy2w4_5 Ba) (show w.heap.size ≠ w.heap.size + 1 + 1 by omega) (.slice sd xd.length xd.length) (.bool bd) (.slice sd' xd'.length xd'.length) (.bool bd'))).1) (And.intro ((box_cells (heap_unset4 (heap_kept hGy2w4_5 Ba) (show w.heap.size ≠ w.heap.size + 1 + 1 by omega) (.slice sd xd.length xd.length) (.bool bd) (.slice sd' xd'.length xd'.length) (.bool bd'))).2.1) (And.intro ((box_cells (heap_unset4 (heap_kept hGy2w4_5 Bb) (show w.heap.size + 1 ≠ w.heap.size + 1 + 1 by omega) (.slice sd xd.length xd.length) (.bool bd) (.slice sd' xd'.length xd'.length) (.bool bd'))).1) (And.intro ((box_cells (heap_unset4 (heap_kept hGy2w4_5 Bb) (show w.heap.size + 1 ≠ w.heap.size + 1 + 1 by omega) (.slice sd xd.length xd.length) (.bool bd) (.slice sd' xd'.length xd'.length) (.bool bd'))).2.1) (And.intro ((box_cells (heap_unset4 (heap_kept hGy2w4_5 Bg) (show ay2w2 ≠ w.heap.size + 1 + 1 by omega) (.slice sd xd.length xd.length) (.bool bd) (.slice sd' xd'.length xd'.length) (.bool bd'))).1) ((box_cells (heap_unset4 (heap_kept hGy2w4_5 Bg) (show ay2w2 ≠ w.heap.size + 1 + 1 by omega) (.slice sd xd.length xd.length) (.bool bd) (.slice sd' xd'.length xd'.length) (.bool bd'))).2.1))))))))
    replace Ba := heap_kept hGy2w4_5 Ba
    replace Bb := heap_kept hGy2w4_5 Bb
    replace Bq := heap_kept hGy2w4_5 Bq
    replace Bg := heap_kept hGy2w4_5 Bg
    replace ia := ia.kept hGy2w4_5
    replace ib := ib.kept hGy2w4_5
    replace ig := ig.kept hGy2w4_5
    replace hG := grown_trans hG hGy2w4_5
    clear Ca0 Fa0 Ca1 Fa1 Cb0 Fb0 Cb1 Fb1 Cq0 Fq0 Cq1 Fq1 Cq2 Fq2 Cq3 Fq3 Cg0 Fg0 Cg1 Fg1
    obtain ⟨k90, k91, k92, k93, k94, k95, k96, k97⟩ := box_cells4 Bq
    obtain ⟨q90, q91, q92, q93, q94, q95, q96, q97⟩ := box_cells4 (heap_set4 Bq (.slice sd xd.length xd.length) (.bool bd) (.slice sd' xd'.length xd'.length) (.bool bd'))
    have hF : Hid (RetRatE w (R) 0 (.returned (.tuple #[.agg #[.slice sd xd.length xd.length, .bool bd, .slice sd' xd'.length xd'.length, .bool bd'], .int .i64 0])) ((((y2w4_5.setCell ⟨w.heap.size + 1 + 1, 0, none⟩ (.slice sd xd.length xd.length)).setCell ⟨w.heap.size + 1 + 1, 1, none⟩ (.bool bd)).setCell ⟨w.heap.size + 1 + 1, 2, none⟩ (.slice sd' xd'.length xd'.length)).setCell ⟨w.heap.size + 1 + 1, 3, none⟩ (.bool bd'))) := ret_ratvE hG Bq (by omega) qd
    clear ia ib ig n1 n2 n3 n4 qd
    obtain ⟨Ca0, Ca1, Fa0, Fa1⟩ := box_cells Ba
    obtain ⟨Cb0, Cb1, Fb0, Fb1⟩ := box_cells Bb
    obtain ⟨Cg0, Cg1, Fg0, Fg1⟩ := box_cells Bg
    go_wp2_with fail
    exact bodyPost_ret (v := .tuple #[.agg #[.slice sd xd.length xd.length, .bool bd, .slice sd' xd'.length xd'.length, .bool bd'], .int .i64 0]) (by simp [results, Tryz.results14, go_sem, q90, q91, q92, q93]) rfl hF.out
set_option maxHeartbeats 16000000 in
theorem FOf_any (w : World) (n d : Int) (h1 : -9223372036854775808 ≤ n) (h2 : n ≤ 9223372036854775807) (h3 : -9223372036854775808 ≤ d) (h4 : d ≤ 9223372036854775807) (hTab : Tab w) :
    Calls Tryz.prog 23 #[.int .i64 n, .int .i64 d] w (RetRatE w (Rat.divInt n d) (if d = 0 then 5 else 0)) := by
  have HTB : Hid (∀ W, w.grownBy W none → Tab W) := fun W hW => hTab.kept hW (by simp)
  clear hTab
  have HN : Hid (-9223372036854775808 ≤ n ∧ n ≤ 9223372036854775807 ∧ -9223372036854775808 ≤ d ∧ d ≤ 9223372036854775807) := ⟨h1, h2, h3, h4⟩
  have lN : Hid (n.natAbs < B ^ 1) := by show n.natAbs < B ^ 1; unfold B; omega
  have lD : Hid (d.natAbs < B ^ 1) := by show d.natAbs < B ^ 1; unfold B; omega
  obtain ⟨c, hc⟩ : ∃ c : Int, (if d = 0 then 5 else 0) = c := ⟨_, rfl⟩
  have HC := Lib.hid hc
  rw [hc]
  clear h1 h2 h3 h4 hc
  have hG : w.grownBy (w.alloc (.cells #[.slice none 0 0, .bool false, .slice none 0 0, .bool false] 28)) none := (World.grownBy_alloc _ _ _)
  have Bq := (heap_new w (.cells #[.slice none 0 0, .bool false, .slice none 0 0, .bool false] 28) (w.heap.size) rfl)
  go_enter Tryz.func23, Tryz.ntmps23
  obtain ⟨Cq0, Cq1, Cq2, Cq3, Fq0, Fq1, Fq2, Fq3⟩ := box_cells4 Bq
  go_wp2_with fail
  generalize (w.alloc (.cells #[.slice none 0 0, .bool false, .slice none 0 0, .bool false] 28)) = w0 at *
  clear Cq0 Fq0 Cq1 Fq1 Cq2 Fq2 Cq3 Fq3
  refine (ZOf_any w0 n HN.out.1 HN.out.2.1).mono ?_
  rintro e w1 ⟨v1, rfl, n1, gw1⟩
  replace Bq := heap_kept gw1 Bq
  replace hG := grown_trans hG gw1
  clear gw1
  obtain ⟨Cq0, Cq1, Cq2, Cq3, Fq0, Fq1, Fq2, Fq3⟩ := box_cells4 Bq
  go_wp2_with fail
  clear Cq0 Fq0 Cq1 Fq1 Cq2 Fq2 Cq3 Fq3
  refine (ZOf_any w1 d HN.out.2.2.1 HN.out.2.2.2).mono ?_
  rintro e w2 ⟨v2, rfl, n2, gw2⟩
  replace Bq := heap_kept gw2 Bq
  replace n1 := n1.kept gw2
  replace hG := grown_trans hG gw2
  clear gw2
  obtain ⟨Cq0, Cq1, Cq2, Cq3, Fq0, Fq1, Fq2, Fq3⟩ := box_cells4 Bq
  go_wp2_with fail
  clear Cq0 Fq0 Cq1 Fq1 Cq2 Fq2 Cq3 Fq3
  refine (FMake_any w2 _ _ n d 1 n1 n2 (by omega) lN.out lD.out (HTB.out _ hG)).mono ?_
  rintro e w3 ⟨_, rfl, ⟨sd, xd, bd, sd', xd', bd', rfl, hd, hd'⟩, gw3⟩
  rw [HC.out]
  have qd : RatV w3 (.agg #[.slice sd xd.length xd.length, .bool bd, .slice sd' xd'.length xd'.length, .bool bd']) (Rat.divInt n d) := ⟨sd, xd, bd, sd', xd', bd', rfl, hd, hd'⟩
  replace Bq := heap_kept gw3 Bq
  replace n1 := n1.kept gw3
  replace n2 := n2.kept gw3
  replace hG := grown_trans hG gw3
  clear gw3
  clear hd hd'
  obtain ⟨Cq0, Cq1, Cq2, Cq3, Fq0, Fq1, Fq2, Fq3⟩ := box_cells4 Bq
  clear Cq0 Fq0 Cq1 Fq1 Cq2 Fq2 Cq3 Fq3
  obtain ⟨k90, k91, k92, k93, k94, k95, k96, k97⟩ := box_cells4 Bq
  obtain ⟨q90, q91, q92, q93, q94, q95, q96, q97⟩ := box_cells4 (heap_set4 Bq (.slice sd xd.length xd.length) (.bool bd) (.slice sd' xd'.length xd'.length) (.bool bd'))
  have hF : Hid (RetRatE w (Rat.divInt n d) c (.returned (.tuple #[.agg #[.slice sd xd.length xd.length, .bool bd, .slice sd' xd'.length xd'.length, .bool bd'], .int .i64 c])) ((((w3.setCell ⟨w.heap.size, 0, none⟩ (.slice sd xd.length xd.length)).setCell ⟨w.heap.size, 1, none⟩ (.bool bd)).setCell ⟨w.heap.size, 2, none⟩ (.slice sd' xd'.length xd'.length)).setCell ⟨w.heap.size, 3, none⟩ (.bool bd'))) := ret_ratvE hG Bq (by omega) qd
  clear n1 n2 qd
  go_wp2_with fail
  exact bodyPost_ret (v := .tuple #[.agg #[.slice sd xd.length xd.length, .bool bd, .slice sd' xd'.length xd'.length, .bool bd'], .int .i64 c]) (by simp [results, Tryz.results23, go_sem, q90, q91, q92, q93]) rfl hF.out
end Go.Proofs.YtldkddogadmpbaaGreatDoor
namespace Go.Proofs.YtldkddogadmpbaaGreatDoor
open Go.RowKit Mat
set_option maxRecDepth 100000
set_option linter.unusedVariables false
set_option linter.unusedSimpArgs false
set_option maxHeartbeats 1000000 in
theorem Up_bad (w : World) (va : Value) (a : Nat) (ha : NatV w va a) (k : Int) (hk : k < 0 ∨ 65536 < k) :
    Calls Tryz.prog 53 #[va, .int .i64 k] w (RetNatE w 0 1) := by
  obtain ⟨sa, xs, rfl, hx, rfl⟩ := ha
  have hgw : w.grownBy ((w.alloc (.cells #[.slice sa xs.length xs.length] 24)).alloc (.cells #[.slice none 0 0] 24)) none := grown_alloc (World.grownBy_alloc _ _ _) _
  rcases hk with hk | hk
  all_goals
    go_enter Tryz.func53, Tryz.ntmps53
    go_wp2_with fail
    exact bodyPost_ret (v := .tuple #[.agg #[.slice none 0 0], .int .i64 1]) (by simp [results, Tryz.results53, go_sem]) rfl ⟨_, rfl, NatV.zero _, by repeat (first | exact hgw | exact World.grownBy_alloc _ _ _ | refine grown_new (g := w.heap.size + 1) ?_ (grown_set (grown_refl _ _) _ _) (by omega))⟩
set_option maxHeartbeats 1000000 in
theorem Down_bad (w : World) (va : Value) (a : Nat) (ha : NatV w va a) (k : Int) (hk : k < 0 ∨ 65536 < k) :
    Calls Tryz.prog 61 #[va, .int .i64 k] w (RetNatE w 0 1) := by
  obtain ⟨sa, xs, rfl, hx, rfl⟩ := ha
  have hgw : w.grownBy ((w.alloc (.cells #[.slice sa xs.length xs.length] 24)).alloc (.cells #[.slice none 0 0] 24)) none := grown_alloc (World.grownBy_alloc _ _ _) _
  rcases hk with hk | hk
  all_goals
    go_enter Tryz.func61, Tryz.ntmps61
    go_wp2_with fail
    exact bodyPost_ret (v := .tuple #[.agg #[.slice none 0 0], .int .i64 1]) (by simp [results, Tryz.results61, go_sem]) rfl ⟨_, rfl, NatV.zero _, by repeat (first | exact hgw | exact World.grownBy_alloc _ _ _ | refine grown_new (g := w.heap.size + 1) ?_ (grown_set (grown_refl _ _) _ _) (by omega))⟩
set_option maxHeartbeats 1000000 in
theorem Up_some (w : World) (va : Value) (a K : Nat) (ha : NatV w va a) (k : Nat) (hk : k ≤ 65536) (hK : K ≤ 1073741824) (la : a < B ^ K) :
    Calls Tryz.prog 53 #[va, .int .i64 (k : Int)] w (RetNatE w (a * 2 ^ k) 0) := by
  obtain ⟨sa, xs, rfl, hx, rfl⟩ := ha
  have h1 := hx.len la
  clear la
  have hgw : w.grownBy ((w.alloc (.cells #[.slice sa xs.length xs.length] 24)).alloc (.cells #[.slice none 0 0] 24)) none := grown_alloc (World.grownBy_alloc _ _ _) _
  have hbox := heap_new (w.alloc (.cells #[.slice sa xs.length xs.length] 24)) (.cells #[.slice none 0 0] 24) (w.heap.size + 1) (by simp)
  go_enter Tryz.func53, Tryz.ntmps53
  go_wp2_with fail
  refine (raised_any _ sa _ _ xs k rfl (hx.rd.kept hgw) hx.dig (by omega) (by omega)).mono ?_
  rintro e w2 ⟨g, n, cs, zs, rfl, hge, hb2, hat2, hl2, hn2, hd2, hv2, hg2⟩
  have hbox2 := heap_kept hg2 hbox
  have hgw2 := grown_trans hgw hg2
  have HV := Lib.hid hv2
  have HL := Lib.hid hl2
  have bn : n ≤ 1099511627776 := by omega
  clear hv2 hl2 hn2 hg2 hbox hge
  obtain ⟨hc2, hf2⟩ := box_cell hbox2
  go_wp2_with fail
  refine (own_at _ _ n _ zs HL.out (Rdo.of hb2 hat2) bn (Nat.le_refl _) hd2).mono ?_
  rintro e w4 ⟨v, rfl, ⟨sc, ys, rfl, hl4, hv4⟩, hg4⟩
  have hbox4 := heap_kept hg4 hbox2
  obtain ⟨hc4, hf4⟩ := box_cell hbox4
  have hF := Lib.hid (ret_setE (code := 0) (grown_trans hgw2 hg4) hbox4 (by decide) (by omega) hl4 (hv4.trans HV.out) (.slice sc ys.length ys.length))
  clear hv4 hbox4 hbox2 hg4 hgw2 hgw hb2 hat2 hc2 hf2
  go_wp2_with fail
  exact bodyPost_ret (v := .tuple #[.agg #[.slice sc ys.length ys.length], .int .i64 0]) (by simp [results, Tryz.results53, go_sem, hc4]) rfl hF.out
set_option maxHeartbeats 1000000 in
theorem Down_some (w : World) (va : Value) (a K : Nat) (ha : NatV w va a) (k : Nat) (hk : k ≤ 65536) (hK : K ≤ 1073741824) (la : a < B ^ K) :
    Calls Tryz.prog 61 #[va, .int .i64 (k : Int)] w (RetNatE w (a / 2 ^ k) 0) := by
  obtain ⟨sa, xs, rfl, hx, rfl⟩ := ha
  have h1 := hx.len la
  clear la
  have hgw : w.grownBy ((w.alloc (.cells #[.slice sa xs.length xs.length] 24)).alloc (.cells #[.slice none 0 0] 24)) none := grown_alloc (World.grownBy_alloc _ _ _) _
  have hbox := heap_new (w.alloc (.cells #[.slice sa xs.length xs.length] 24)) (.cells #[.slice none 0 0] 24) (w.heap.size + 1) (by simp)
  by_cases h0 : xs.length = 0
  · obtain rfl : xs = [] := List.length_eq_zero_iff.1 h0
    obtain rfl := hx.nil rfl
    clear h0 h1
    simp only [List.length_nil] at hgw hbox ⊢
    have HZ : Hid (0 = val B [] / 2 ^ k) := by show _ = _; simp [val]
    rw [← HZ.out]
    go_enter Tryz.func61, Tryz.ntmps61
    go_wp2_with fail
    refine (Clone_nil _).mono ?_
    rintro e w' ⟨rfl, rfl⟩
    go_wp2_with fail
    refine (lower_none _ none 0 0 k (by omega) (by omega)).mono ?_
    rintro e w' ⟨rfl, rfl⟩
    go_wp2_with fail
    refine (own_at _ none 0 0 [] rfl (Or.inl rfl) (by omega) (by omega) (Dig.nil _)).mono ?_
    rintro e w4 ⟨v, rfl, ⟨sc, ys, rfl, hl4, hv4⟩, hg4⟩
    have hbox4 := heap_kept hg4 hbox
    obtain ⟨hc4, hf4⟩ := box_cell hbox4
    have hF := Lib.hid (ret_setE (n := 0) (code := 0) (grown_trans hgw hg4) hbox4 (by decide) (by omega) hl4 hv4 (.slice sc ys.length ys.length))
    clear hv4 hbox4 hg4 hgw hbox
    go_wp2_with fail
    exact bodyPost_ret (v := .tuple #[.agg #[.slice sc ys.length ys.length], .int .i64 0]) (by simp [results, Tryz.results61, go_sem, hc4]) rfl hF.out
  · obtain ⟨b1, o1, cs1, rfl, hb1, hat1⟩ := hx.rd.get 0 (by omega)
    go_enter Tryz.func61, Tryz.ntmps61
    go_wp2_with fail
    refine (Clone_any _ b1 o1 _ cs1 xs (hb1.kept hgw (by simp)) hat1 (by omega) (by omega)).mono ?_
    rintro e w2 ⟨g, cap, cs2, rfl, hge, hb2, hat2, hcap, hg2⟩
    have hge' : w.heap.size + 1 + 1 ≤ g := by simpa using hge
    have hgw2 := grown_trans hgw hg2
    have hbox2 := heap_kept hg2 hbox
    clear hge hg2 hbox
    obtain ⟨hc2, hf2⟩ := box_cell hbox2
    go_wp2_with fail
    refine (lower_any _ g 0 _ _ xs cs2 k rfl hb2 hat2 hx.dig hcap (by omega) (by omega)).mono ?_
    rintro e w3 ⟨sc, m, cap3, cs3, zs, rfl, hm3, hl3, hlx, hd3, hv3, hs3, _, hb3, hat3, hg3⟩
    have hbox3 := heap_row hg3 hbox2 (by omega)
    have hgw3 := grown_new hgw2 hg3 (by omega)
    have HV := Lib.hid hv3
    have HL := Lib.hid hl3
    have hr := Lowered.rdo hl3 hs3 hb3 hat3
    clear hv3 hl3 hs3 hg3 hbox2 hgw2 hc2 hf2 hb2 hat2
    go_wp2_with fail
    refine (own_at _ _ m _ zs HL.out hr (by omega) hm3 hd3).mono ?_
    rintro e w4 ⟨v, rfl, ⟨sd, ys, rfl, hl4, hv4⟩, hg4⟩
    have hbox4 := heap_kept hg4 hbox3
    obtain ⟨hc4, hf4⟩ := box_cell hbox4
    have hF := Lib.hid (ret_setE (code := 0) (grown_trans hgw3 hg4) hbox4 (by decide) (by omega) hl4 (hv4.trans HV.out) (.slice sd ys.length ys.length))
    clear hv4 hbox4 hbox3 hg4 hgw3 hgw hb3 hat3 hr
    go_wp2_with fail
    exact bodyPost_ret (v := .tuple #[.agg #[.slice sd ys.length ys.length], .int .i64 0]) (by simp [results, Tryz.results61, go_sem, hc4]) rfl hF.out
end Go.Proofs.YtldkddogadmpbaaGreatDoor
