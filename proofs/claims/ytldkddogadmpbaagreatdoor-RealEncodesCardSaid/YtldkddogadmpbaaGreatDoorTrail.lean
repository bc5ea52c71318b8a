/- How often two divides: a word, limbs. -/
import Derived.Test.YtldkddogadmpbaaGreatDoorBits
import Derived.Shelf.Spec.TrailingZeros
namespace Go.Proofs.YtldkddogadmpbaaGreatDoor
open Go.RowKit Mat
set_option maxRecDepth 100000
set_option linter.unusedVariables false
set_option linter.unusedSimpArgs false
theorem run_field (v : Value) (W : World) : (Instr.field 24 (.agg #[v]) 0).run Tryz.prog W = .ok v W := by kernel_rfl
theorem Of_one (w : World) : Calls Tryz.prog 52 #[.int .u64 1] w (RetNat w 1) := Of_any w 1 (by decide)

/-- The table of math/bits.TrailingZeros64, in its variable. -/
def Tab (w : World) : Prop := TabAt 1 Lib.deBruijn64tab w
theorem Tab.kept {w w' : World} {row : Option Nat} (h : Tab w) (hg : w.grownBy w' row) (hr : some 1 ≠ row) : Tab w' := fun j hj => hg.cell (h j hj) hr
theorem Tab.size {w : World} (h : Tab w) : 1 < w.heap.size := by
  have := h 0 (by decide)
  unfold World.cell? at this
  rcases Nat.lt_or_ge 1 w.heap.size with h1 | h1
  · exact h1
  · rw [Array.getElem?_eq_none h1] at this; simp at this

set_option maxHeartbeats 1000000 in
theorem tz_core (x k idx : Nat) (w : World) (hx0 : ((x : Int) == 0) = false)
    (key : IntKind.u64.wrap (bits BinOp.and IntKind.u64 (x : Int) (IntKind.u64.wrap (-(x : Int))) * 285870213051353865) / 288230376151711744 = (idx : Int))
    (hi : idx < 64) (hk : k < 64) (hcell : w.cell? ⟨1, idx, none⟩ = some (.int .u8 k)) :
    Calls Tryz.prog 103 #[.int .u64 x] w fun e w' => e = .returned (.int .i64 k) ∧ w' = w := by
  go_enter Tryz.func103, Tryz.ntmps103
  go_wp2_with (simp only [key])
  go_ret
  exact ⟨rfl, rfl⟩

/-- How often two divides a word that isn't 0. -/
theorem tz_any (x : Nat) (hx : x < B) (h0 : x ≠ 0) (w : World) (hT : Tab w) :
    Calls Tryz.prog 103 #[.int .u64 x] w fun e w' => e = .returned (.int .i64 (Lib.ctz 64 x)) ∧ w' = w := by
  have hx' : x < 18446744073709551616 := hx
  obtain ⟨hlow, hk⟩ := Lib.lowest_bit 64 x h0 hx'
  obtain ⟨hi, htab⟩ := Lib.deBruijn64_at _ hk
  have hcell := hT _ hi
  rw [htab] at hcell
  exact tz_core x _ _ w (by simp; omega) (tz64_key x _ hx' h0 hlow) hi hk hcell
theorem ctz_spec (x : Nat) (hx : x < B) (h0 : x ≠ 0) : ∃ m, x = 2 ^ Lib.ctz 64 x * (2 * m + 1) ∧ Lib.ctz 64 x < 64 := by
  have hx' : x < 2 ^ 64 := hx
  have := Lib.ctzFrom_spec 64 x (by omega) hx'
  unfold Lib.ctz
  rw [if_neg h0]
  exact this

theorem twos_spec {xs : List Nat} (dx : Dig B xs) (k x : Nat) (hk : k < xs.length) (ex : xs[k] = x) (h0 : val B (xs.take k) = 0) (hx : x ≠ 0) : ∃ m, val B xs = 2 ^ (k * 64 + Lib.ctz 64 x) * (2 * m + 1) ∧ Lib.ctz 64 x < 64 := by
  have hxB : x < B := ex ▸ dx.get k _
  obtain ⟨m, hm, ht⟩ := ctz_spec x hxB hx
  generalize Lib.ctz 64 x = t at *
  have h1 := val_split B xs k (by omega)
  rw [h0, Nat.zero_add, List.drop_eq_getElem_cons hk, ex] at h1
  have h2 : val B (x :: xs.drop (k + 1)) = x + B * val B (xs.drop (k + 1)) := rfl
  rw [h2] at h1
  obtain ⟨d, hd⟩ : ∃ d, 64 = t + (d + 1) := ⟨63 - t, by omega⟩
  have hB : B = 2 ^ t * (2 ^ d * 2) := by rw [← Nat.pow_succ, ← Nat.pow_add, ← hd, ← B_pow]
  have hBk : B ^ k = 2 ^ (k * 64) := by rw [B_pow, ← Nat.pow_mul, Nat.mul_comm]
  refine ⟨m + 2 ^ d * val B (xs.drop (k + 1)), ?_, ht⟩
  rw [h1, hBk, Nat.pow_add, Nat.mul_assoc]
  congr 1
  rw [hB]
  generalize val B (xs.drop (k + 1)) = r
  rw [hm]
  generalize 2 ^ t = a
  generalize 2 ^ d = b
  grind

/-- How often two divides limbs that aren't 0. -/
def TwosOf (w : World) (v : Nat) (n : Nat) (e : Ending) (w' : World) : Prop := ∃ t m : Nat, e = .returned (.int .i64 (t : Int)) ∧ v = 2 ^ t * (2 * m + 1) ∧ t < 64 * n ∧ w = w'

set_option maxHeartbeats 1000000 in
theorem twos_any (w : World) (sa : Option Addr) (n cap : Nat) (xs : List Nat) (hn : xs.length = n) (hx : Rdo w sa xs) (dx : Dig B xs) (h0 : 0 < val B xs) (bn : n ≤ 1073741824) (hT : Tab w) :
    Calls Tryz.prog 93 #[.slice sa n cap] w (TwosOf w (val B xs) n) := by
  have Hn := Lib.hid hn
  have H0 := Lib.hid h0
  have HT := Lib.hid hT
  have hn0 : 0 < n := by
    rw [← hn]
    rcases Nat.eq_zero_or_pos xs.length with h | h
    · rw [List.length_eq_zero_iff.1 h] at h0; simp [val] at h0
    · exact h
  clear hn h0 hT
  go_enter Tryz.func93, Tryz.ntmps93
  go_wp2_with fail
  go_loopw [3] (fun i wr => ∃ (k : Nat), k < n ∧ i = .int .i64 k ∧ w = wr ∧ Hid (val B (xs.take k) = 0)) (fun i _ => n - (intOf i).toNat)
  case atStart => exact ⟨0, hn0, rfl, rfl, by show _ = _; rw [List.take_zero]; rfl⟩
  case round =>
    obtain ⟨k, hk, rfl, rfl, hv⟩ := hrel
    obtain ⟨b1, o1, rfl, c1⟩ := hx.cell (by rw [Hn.out]; omega)
    have c1 := c1 k (by rw [Hn.out]; omega)
    obtain ⟨x, ex⟩ : ∃ x, xs[k]'(by rw [Hn.out]; omega) = x := ⟨_, rfl⟩
    rw [ex] at c1
    have hxB : x < B := ex ▸ dx.get k _
    have EX := Lib.hid ex
    clear ex
    by_cases hz : x = 0
    · subst hz
      have hv2 : val B (xs.take (k + 1)) = 0 := by rw [val_take_succ B xs k (by rw [Hn.out]; omega), EX.out, hv.out]; omega
      have hk2 : k + 1 < n := by
        rcases Nat.lt_or_ge (k + 1) n with h | h
        · exact h
        · have := H0.out
          rw [List.take_of_length_le (by rw [Hn.out]; omega)] at hv2
          omega
      have HV2 := Lib.hid hv2
      clear hv2
      go_wp2_with fail
      go_roundw
      case rel => exact ⟨k + 1, by omega, by go_num, by trivial, HV2⟩
      case measure => simp [intOf]; omega
    · have t : ((x : Int) == 0) = false := beq_eq_false_iff_ne.2 (by omega)
      obtain ⟨m, hm, ht⟩ := twos_spec dx k x (by rw [Hn.out]; omega) EX.out hv.out hz
      obtain ⟨q, hq⟩ : ∃ q, Lib.ctz 64 x = q := ⟨_, rfl⟩
      have hC := tz_any x hxB hz w HT.out
      rw [hq] at hm ht hC
      have HC := Lib.hid hC
      have HM := Lib.hid hm
      clear hC hm hq hxB hz
      go_wp2_with fail
      refine HC.out.mono ?_
      rintro e w' ⟨rfl, rfl⟩
      go_wp2_with fail
      go_ret
      exact ⟨k * 64 + q, m, congrArg Ending.returned (congrArg (Value.int IntKind.i64) (by omega)), HM.out, by omega, rfl⟩

/-- The greatest that divides both words. -/
theorem odd_step {x y t m : Nat} (hy : y % 2 = 1) (hxy : y < x) (h : x - y = 2 ^ t * (2 * m + 1)) : Nat.gcd (2 * m + 1) y = Nat.gcd x y := by
  have h1 : Nat.gcd x y = Nat.gcd (x - y) y := (Nat.gcd_sub_self_left (Nat.le_of_lt hxy)).symm
  rw [h1, h]
  have hc : Nat.Coprime (2 ^ t) y := by
    apply Nat.Coprime.pow_left
    rw [Nat.coprime_comm] 
    unfold Nat.Coprime
    rw [Nat.gcd_comm, Nat.gcd_rec, hy]
    rfl
  rw [Nat.Coprime.gcd_mul_left_cancel _ hc]

set_option maxHeartbeats 1000000 in
theorem oddWordGcd_any (w : World) (x0 y0 : Nat) (hx : x0 < B) (hy : y0 < B) (ox : x0 % 2 = 1) (oy : y0 % 2 = 1) (hT : Tab w) :
    Calls Tryz.prog 105 #[.int .u64 x0, .int .u64 y0] w fun e w' => e = .returned (.int .u64 (Nat.gcd x0 y0 : Int)) ∧ w = w' := by
  have HT := Lib.hid hT
  clear hT
  obtain ⟨g, hg⟩ : ∃ g, Nat.gcd x0 y0 = g := ⟨_, rfl⟩
  rw [hg]
  have HG := Lib.hid hg
  clear hg
  go_enter Tryz.func105, Tryz.ntmps105
  go_wp2_with fail
  go_loopw [0, 1] (fun a b wr => ∃ (x y : Nat), a = .int .u64 x ∧ b = .int .u64 y ∧ x < B ∧ y < B ∧ x % 2 = 1 ∧ y % 2 = 1 ∧ w = wr ∧ Hid (Nat.gcd x y = g)) (fun a b _ => (intOf a).toNat + (intOf b).toNat)
  case atStart => exact ⟨x0, y0, rfl, rfl, hx, hy, ox, oy, rfl, HG⟩
  case round =>
    obtain ⟨x, y, rfl, rfl, hxB, hyB, ox, oy, rfl, hg⟩ := hrel
    rcases Nat.lt_trichotomy y x with h | h | h
    · have f1 : ((x : Int) == (y : Int)) = false := beq_eq_false_iff_ne.2 (by omega)
      have f2 : decide (x < y) = false := decide_eq_false (by omega)
      have f3 : IntKind.u64.wrap ((x : Int) - (y : Int)) = ((x - y : Nat) : Int) := by rw [IntKind.wrap_u64]; unfold B at *; omega
      obtain ⟨d, hd⟩ : ∃ d, x - y = d := ⟨_, rfl⟩
      rw [hd] at f3
      have hC := tz_any d (by omega) (by omega) w HT.out
      obtain ⟨m, hm, hq64⟩ := ctz_spec d (by omega) (by omega)
      obtain ⟨q, hq⟩ : ∃ q, Lib.ctz 64 d = q := ⟨_, rfl⟩
      rw [hq] at hm hC hq64
      have HC := Lib.hid hC
      have HM := Lib.hid hm
      have HD := Lib.hid hd
      have HX := Lib.hid h
      clear hC hm hd h
      go_wp2_with fail
      refine HC.out.mono ?_
      rintro e w' ⟨rfl, rfl⟩
      go_wp2_with fail
      have hgc : Hid (Nat.gcd (2 * m + 1) y = g) := by show _ = _; rw [odd_step oy HX.out (HD.out.trans HM.out)]; exact hg.out
      have hdv : d / 2 ^ q = 2 * m + 1 := by rw [HM.out]; exact Nat.mul_div_cancel_left _ (Nat.two_pow_pos q)
      have hle : 2 * m + 1 ≤ d := by rw [HM.out]; exact Nat.le_mul_of_pos_left _ (Nat.two_pow_pos q)
      have hdx : d < x := by have := HD.out; omega
      have hdi : (d : Int) / 2 ^ q = ((2 * m + 1 : Nat) : Int) := by rw [← hdv]; norm_cast
      go_roundw
      case rel =>
        refine ⟨2 * m + 1, y, ?_, rfl, by omega, hyB, by omega, oy, by trivial, hgc⟩
        rw [hdi]
      case measure =>
        rw [hdi]
        simp only [intOf]
        omega
    · subst h
      have f1 : ((y : Int) == (y : Int)) = true := beq_self_eq_true _
      rw [Nat.gcd_self] at hg
      have HG2 := hg.out
      subst HG2
      go_wp2_with fail
      go_ret
      exact ⟨rfl, rfl⟩
    · have f1 : ((x : Int) == (y : Int)) = false := beq_eq_false_iff_ne.2 (by omega)
      have f2 : decide (x < y) = true := decide_eq_true (by omega)
      have f3 : IntKind.u64.wrap ((y : Int) - (x : Int)) = ((y - x : Nat) : Int) := by rw [IntKind.wrap_u64]; unfold B at *; omega
      obtain ⟨d, hd⟩ : ∃ d, y - x = d := ⟨_, rfl⟩
      rw [hd] at f3
      have hC := tz_any d (by omega) (by omega) w HT.out
      obtain ⟨m, hm, hq64⟩ := ctz_spec d (by omega) (by omega)
      obtain ⟨q, hq⟩ : ∃ q, Lib.ctz 64 d = q := ⟨_, rfl⟩
      rw [hq] at hm hC hq64
      have HC := Lib.hid hC
      have HM := Lib.hid hm
      have HD := Lib.hid hd
      have HX := Lib.hid h
      clear hC hm hd h
      go_wp2_with fail
      refine HC.out.mono ?_
      rintro e w' ⟨rfl, rfl⟩
      go_wp2_with fail
      have hgc : Hid (Nat.gcd (2 * m + 1) x = g) := by show _ = _; rw [odd_step ox HX.out (HD.out.trans HM.out), Nat.gcd_comm]; exact hg.out
      have hdv : d / 2 ^ q = 2 * m + 1 := by rw [HM.out]; exact Nat.mul_div_cancel_left _ (Nat.two_pow_pos q)
      have hle : 2 * m + 1 ≤ d := by rw [HM.out]; exact Nat.le_mul_of_pos_left _ (Nat.two_pow_pos q)
      have hdx : d < y := by have := HD.out; omega
      have hdi : (d : Int) / 2 ^ q = ((2 * m + 1 : Nat) : Int) := by rw [← hdv]; norm_cast
      go_roundw
      case rel =>
        refine ⟨2 * m + 1, x, ?_, rfl, by omega, hxB, by omega, ox, by trivial, hgc⟩
        rw [hdi]
      case measure =>
        rw [hdi]
        simp only [intOf]
        omega
end Go.Proofs.YtldkddogadmpbaaGreatDoor
