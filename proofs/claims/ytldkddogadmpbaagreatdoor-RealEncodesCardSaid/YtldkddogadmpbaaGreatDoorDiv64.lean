/- Two limbs divided by one: math/bits.Div64. -/
import Derived.Test.YtldkddogadmpbaaGreatDoorLen
import Derived.Deep.DeepCutAuto
import Derived.Deep.CutBlock
namespace Go.Proofs.YtldkddogadmpbaaGreatDoor
open Go.RowKit Mat
set_option maxRecDepth 100000
set_option linter.unusedVariables false
set_option linter.unusedSimpArgs false

def divQ (hi lo y : Nat) : Nat := (hi * B + lo) / y
def divR (hi lo y : Nat) : Nat := (hi * B + lo) % y

/-- What Div64 tells. -/
def Dived (w : World) (hi lo y : Nat) (e : Ending) (w' : World) : Prop := e = .returned (.tuple #[.int .u64 (divQ hi lo y : Int), .int .u64 (divR hi lo y : Int)]) ∧ ∃ q, w' = w.drewN q

set_option maxHeartbeats 1000000 in
theorem div64_zero (lo y : Nat) (hl : lo < B) (hy : y < B) (h0 : 0 < y) (w : World) :
    Calls Tryz.prog 106 #[.int .u64 0, .int .u64 (lo : Int), .int .u64 (y : Int)] w (Dived w 0 lo y) := by
  have e1 : ((lo : Int) / (y : Int)) = (divQ 0 lo y : Int) := by unfold divQ; rw [Nat.zero_mul, Nat.zero_add]; exact (Int.natCast_ediv ..).symm
  have e2 : ((lo : Int) % (y : Int)) = (divR 0 lo y : Int) := by unfold divR; rw [Nat.zero_mul, Nat.zero_add]; exact (Int.natCast_emod ..).symm
  have hq : divQ 0 lo y < B := by
    unfold divQ; rw [Nat.zero_mul, Nat.zero_add]; exact Nat.lt_of_le_of_lt (Nat.div_le_self _ _) hl
  have E2 := Lib.hid e2
  have E3 := Lib.hid (Mul64.wrapN _ hq)
  clear e2 hq
  have f1 : ((y : Int) == 0) = false := beq_eq_false_iff_ne.2 (by omega)
  have f2 : decide ((y : Int) ≤ 0) = false := decide_eq_false (by omega)
  go_enter Tryz.func106, Tryz.ntmps106
  go_wp2_with fail
  go_quiet (fail)
  go_wp2_with fail
  go_ret2
  refine ⟨?_, _, rfl⟩
  show Ending.returned (.tuple #[.int .u64 (IntKind.u64.wrap (divQ 0 lo y : Int)), .int .u64 ((lo : Int) % (y : Int))]) = _
  rw [E2.out, E3.out]

/-- A digit of a quotient, guessed by the divisor's upper half and mended. -/
theorem dg_ge {u y1 y0 d b : Nat} (hb : 0 < b) (h1 : 0 < y1) (hd : d < b) : (u * b + d) / (y1 * b + y0) ≤ u / y1 := by
  have h : (u * b + d) / (y1 * b + y0) ≤ (u * b + d) / (b * y1) := Nat.div_le_div_left (by rw [Nat.mul_comm]; omega) (Nat.mul_pos hb h1)
  rw [← Nat.div_div_eq_div_mul, Nat.mul_comm u b, Nat.mul_add_div hb, Nat.div_eq_of_lt hd, Nat.add_zero] at h
  rwa [Nat.mul_comm u b]
theorem dg_lt {u y1 y0 d b : Nat} (hd : d < b) (hu : u < y1 * b + y0) : (u * b + d) / (y1 * b + y0) < b := by
  rw [Nat.div_lt_iff_lt_mul (by omega)]
  have : (u + 1) * b ≤ (y1 * b + y0) * b := Nat.mul_le_mul_right _ hu
  rw [Nat.add_mul] at this
  rw [Nat.mul_comm b]; omega
theorem dg_dec {u y1 y0 d b q r : Nat} (h : q * y1 + r = u) (ht : b * r + d < q * y0) : (u * b + d) / (y1 * b + y0) + 1 ≤ q := by
  have hq : 0 < q := by
    rcases Nat.eq_zero_or_pos q with h0 | h0
    · subst h0; simp at ht
    · exact h0
  have hy : 0 < y0 := by
    rcases Nat.eq_zero_or_pos y0 with h0 | h0
    · subst h0; simp at ht
    · exact h0
  have : (u * b + d) < (y1 * b + y0) * q := by
    have e : (y1 * b + y0) * q = (q * y1) * b + q * y0 := by grind
    have e2 : u * b = (q * y1) * b + b * r := by rw [← h]; grind
    omega
  exact Nat.div_lt_of_lt_mul this
theorem dg_stop {u y1 y0 d b q r : Nat} (hy : 0 < y1 * b + y0) (h : q * y1 + r = u) (ht : q * y0 ≤ b * r + d) : q ≤ (u * b + d) / (y1 * b + y0) := by
  rw [Nat.le_div_iff_mul_le hy]
  have e : q * (y1 * b + y0) = (q * y1) * b + q * y0 := by grind
  have e2 : u * b = (q * y1) * b + b * r := by rw [← h]; grind
  omega
theorem dg_stop2 {y0 d b q r : Nat} (hr : b ≤ r) (hq : q ≤ b) (hy : y0 < b) : q * y0 ≤ b * r + d := by
  have h1 : q * y0 ≤ b * b := Nat.mul_le_mul hq (by omega)
  have h2 : b * b ≤ b * r := Nat.mul_le_mul_left _ hr
  omega

/-- Half a limb. -/
def W : Nat := 4294967296
theorem W_mul : W * W = B := by decide
theorem wrap_rem {u d q y r : Nat} (h : u * W + d = q * y + r) (hr : r < B) :
    IntKind.u64.wrap (IntKind.u64.wrap (IntKind.u64.wrap ((u : Int) * 4294967296) + (d : Int)) - IntKind.u64.wrap ((q : Int) * (y : Int))) = (r : Int) := by
  have h2 : (u : Int) * 4294967296 + (d : Int) = (q : Int) * (y : Int) + (r : Int) := by
    have := congrArg (fun n : Nat => (n : Int)) h
    simpa [W] using this
  have hr : r < 18446744073709551616 := hr
  simp only [IntKind.wrap_u64]
  generalize (q : Int) * (y : Int) = p at *
  omega

theorem dived_end {u d1 d0 ys q1 v q0 hi lo y s : Nat} (h1 : u * W + d1 = q1 * ys + v) (h2 : v * W + d0 = q0 * ys + (v * W + d0) % ys) (hN : u * B + (d1 * W + d0) = (hi * B + lo) * 2 ^ s) (hY : ys = y * 2 ^ s) (hy : 0 < y) :
    q1 * W + q0 = divQ hi lo y ∧ (v * W + d0) % ys / 2 ^ s = divR hi lo y := by
  have hp : 0 < 2 ^ s := Nat.two_pow_pos s
  have hlt : (v * W + d0) % ys < ys := Nat.mod_lt _ (by rw [hY]; exact Nat.mul_pos hy hp)
  generalize (v * W + d0) % ys = r at *
  have e1 : (hi * B + lo) * 2 ^ s = (q1 * W + q0) * y * 2 ^ s + r := by
    rw [← hN, ← W_mul]
    have : u * (W * W) + (d1 * W + d0) = (u * W + d1) * W + d0 := by grind
    rw [this, h1]
    have : (q1 * ys + v) * W + d0 = q1 * ys * W + (v * W + d0) := by grind
    rw [this, h2, hY]; grind
  show q1 * W + q0 = (hi * B + lo) / y ∧ r / 2 ^ s = (hi * B + lo) % y
  generalize hi * B + lo = N at *
  generalize q1 * W + q0 = Q at *
  have hQN : Q * y ≤ N := by
    rcases Nat.lt_or_ge N (Q * y) with h | h
    · have := Nat.mul_lt_mul_of_pos_right h hp; omega
    · exact h
  obtain ⟨t, ht⟩ : ∃ t, N = Q * y + t := ⟨N - Q * y, by omega⟩
  have hr : r = t * 2 ^ s := by rw [ht, Nat.add_mul] at e1; omega
  have hty : t < y := by
    rw [hr, hY] at hlt
    exact Nat.lt_of_mul_lt_mul_right hlt
  have e2 : N / y = Q := by rw [ht, Nat.mul_comm, Nat.mul_add_div hy, Nat.div_eq_of_lt hty, Nat.add_zero]
  have e3 : N % y = t := by rw [ht, Nat.mul_comm, Nat.mul_add_mod, Nat.mod_eq_of_lt hty]
  exact ⟨e2.symm, by rw [hr, Nat.mul_div_cancel _ hp]; exact e3.symm⟩

set_option maxHeartbeats 8000000 in
theorem div64_core (hi lo y s u y1 y0 d1 d0 : Nat) (U Y1 Y0 D1 D0 YS LS : Int) (w : World) (h0 : 0 < hi) (hlt : hi < y) (hs : s = 64 - Lib.bitLen y) (hy : y < B) (s64 : s ≤ 64)
    (e1 : IntKind.u64.wrap ((y : Int) * 2 ^ s) = YS) (e2 : IntKind.u64.wrap ((lo : Int) * 2 ^ s) = LS)
    (e3 : bits .or .u64 (IntKind.u64.wrap ((hi : Int) * 2 ^ s)) ((lo : Int) / 2 ^ (64 - s)) = U)
    (e4 : bits .and .u64 YS 4294967295 = Y0) (e5 : YS / 4294967296 = Y1) (e6 : bits .and .u64 LS 4294967295 = D0) (e7 : LS / 4294967296 = D1)
    (by1 : 2147483648 ≤ Y1) (by1' : Y1 < 4294967296) (by0 : 0 ≤ Y0) (by0' : Y0 < 4294967296) (bd1 : 0 ≤ D1) (bd1' : D1 < 4294967296) (bd0 : 0 ≤ D0) (bd0' : D0 < 4294967296)
    (hu0 : 0 ≤ U) (hu : U < YS) (hYS : YS ≤ 18446744073709551615)
    (HU : Hid (U = (u : Int))) (HY1 : Hid (Y1 = (y1 : Int))) (HY0 : Hid (Y0 = (y0 : Int))) (HD1 : Hid (D1 = (d1 : Int))) (HD0 : Hid (D0 = (d0 : Int))) (HYS : Hid (YS = ((y1 * W + y0 : Nat) : Int)))
    (HN : Hid (u * B + (d1 * W + d0) = (hi * B + lo) * 2 ^ s)) (HY : Hid (y1 * W + y0 = y * 2 ^ s)) :
    Calls Tryz.prog 106 #[.int .u64 (hi : Int), .int .u64 (lo : Int), .int .u64 (y : Int)] w (Dived w hi lo y) := by
  have f1 : ((y : Int) == 0) = false := beq_eq_false_iff_ne.2 (by omega)
  have f3 : ((hi : Int) == 0) = false := beq_eq_false_iff_ne.2 (by omega)
  have f2 : decide (y ≤ hi) = false := decide_eq_false (by omega)
  have f4 : (Y1 == 0) = false := beq_eq_false_iff_ne.2 (by omega)
  have Hs := Lib.hid hs
  clear hs
  have hypos : Hid (0 < y1 * W + y0) := by show _ < _; have := HY1.out; unfold W; omega
  obtain ⟨q1, hq1⟩ : ∃ q1, (u * W + d1) / (y1 * W + y0) = q1 := ⟨_, rfl⟩
  have HQ1 := Lib.hid hq1
  have hq1b : q1 < 4294967296 := by rw [← hq1]; exact dg_lt (show d1 < W by have := HD1.out; unfold W; omega) (by have := HU.out; have := HYS.out; omega)
  clear hq1
  obtain ⟨Q1, hQ1⟩ : ∃ Q1 : Int, Q1 = (q1 : Int) := ⟨_, rfl⟩
  have b1 : 0 ≤ Q1 := by omega
  have b2 : Q1 < 4294967296 := by omega
  have HQ1I := Lib.hid hQ1
  clear hQ1 hq1b
  obtain ⟨QA, hQA⟩ : ∃ QA, U / Y1 = QA := ⟨_, rfl⟩
  obtain ⟨PA, hPA⟩ : ∃ PA, QA * Y1 = PA := ⟨_, rfl⟩
  have g0 : 0 ≤ QA := by rw [← hQA]; exact Int.ediv_nonneg hu0 (by omega)
  have hdm : U = QA * Y1 + U % Y1 := by rw [← hQA]; have := Int.mul_ediv_add_emod U Y1; rw [Int.mul_comm] at this; omega
  have hm1 : 0 ≤ U % Y1 := Int.emod_nonneg _ (by omega)
  have hm2 : U % Y1 < Y1 := Int.emod_lt_of_pos _ (by omega)
  rw [hPA] at hdm
  generalize U % Y1 = RA at *
  have hPU : PA ≤ U := by omega
  have hP0 : 0 ≤ PA := by rw [← hPA]; exact Int.mul_nonneg g0 (by omega)
  have hQU : QA ≤ 4294967297 := by
    have hh : U < Y1 * 4294967298 := by have := HYS.out; have := HY1.out; have := HY0.out; unfold W at this; omega
    have h5 := Int.ediv_lt_of_lt_mul (by omega) hh
    first | (rw [hQA] at h5; omega) | (rw [Int.mul_comm] at hh; have h6 := Int.ediv_lt_of_lt_mul (by omega) hh; rw [hQA] at h6; omega)
  obtain ⟨qa, hqa⟩ : ∃ qa : Nat, QA = (qa : Int) := ⟨QA.toNat, by omega⟩
  obtain ⟨ra, hra⟩ : ∃ ra : Nat, RA = (ra : Int) := ⟨RA.toNat, by omega⟩
  have HQA : Hid (qa * y1 + ra = u) := by
    show _ = _
    have h1 := HY1.out; have h2 := HU.out
    rw [← hPA, hqa, hra, h1, h2] at hdm
    have : ((qa * y1 + ra : Nat) : Int) = (u : Int) := by rw [Int.natCast_add, Int.natCast_mul]; exact hdm.symm
    exact Int.ofNat.inj this
  have hle : Hid (q1 ≤ qa) := by
    show _ ≤ _
    have h3 : u / y1 = qa := by
      have := hQA; rw [HU.out, HY1.out, hqa] at this
      exact Int.ofNat.inj ((Int.natCast_ediv ..).trans this)
    rw [← HQ1.out, ← h3]
    exact dg_ge (by decide) (by have := HY1.out; omega) (show d1 < W by have := HD1.out; unfold W; omega)
  have e8 := hQA
  have e9 := hPA
  have n1 : Hid (U - PA = RA) := by show _ = _; omega
  have Hqa := Lib.hid hqa
  have Hra := Lib.hid hra
  have HQAe := Lib.hid hQA
  clear hqa hra hQA hPA hdm
  go_enter Tryz.func106, Tryz.ntmps106
  go_upto_block 0 with (go_at_call 107; refine (lead64_any y hy _).mono ?_; rintro e w' ⟨rfl, rfl⟩; rw [← Hs.out])
  rw [n1.out]
  go_cut [15, 16] (fun a _ wx => a = .int .u64 Q1 ∧ w = wx)
  case first =>
    clear e1 e2 e3 e4 e5 e6 e7 e8 e9 f1 f2 f3 f4
    go_wp2_with fail
    go_loop [15, 16] (fun a b => ∃ (q r : Nat) (QN RN : Int), a = .int .u64 QN ∧ b = .int .u64 RN ∧ Hid (QN = (q : Int)) ∧ Hid (RN = (r : Int)) ∧ Hid (q * y1 + r = u) ∧ Hid (q1 ≤ q) ∧ 0 ≤ QN ∧ QN ≤ 4294967297 ∧ 0 ≤ RN ∧ RN < 4294967296) (fun a _ => (intOf a).toNat)
    case atStart => exact ⟨qa, ra, QA, RA, congrArg (Value.int IntKind.u64) HQAe.out, rfl, Hqa, Hra, HQA, hle, g0, hQU, hm1, by omega⟩
    case round =>
      clear HQA hle Hqa Hra
      obtain ⟨q, r, QN, RN, rfl, rfl, hQN, hRN, hqr, hle, hq0, hub, hr0, hrb⟩ := hrel
      obtain ⟨P, hP⟩ : ∃ P, q * y0 = P := ⟨_, rfl⟩
      obtain ⟨PI, hPI⟩ : ∃ PI : Int, PI = (P : Int) := ⟨_, rfl⟩
      have eP : QN * Y0 = PI := by rw [hQN.out, HY0.out, hPI, ← hP]; exact (Int.natCast_mul ..).symm
      have bP : q < 4294967296 → P ≤ 18446744065119617025 := fun h => by rw [← hP]; exact Nat.mul_le_mul (show q ≤ 4294967295 by omega) (show y0 ≤ 4294967295 by have := HY0.out; omega)
      have HPq := Lib.hid hP
      have HPI := Lib.hid hPI
      clear hP hPI
      by_cases hgo : 4294967296 ≤ q ∨ (q < 4294967296 ∧ 4294967296 * r + d1 < P)
      · have hq1 : q1 + 1 ≤ q := by
          rcases hgo with h | ⟨_, h⟩
          · have := HQ1I.out; omega
          · rw [← HQ1.out]; exact dg_dec hqr.out (by rw [HPq.out]; exact h)
        have hqr2 : Hid ((q - 1) * y1 + (r + y1) = u) := by
          show _ = _
          obtain ⟨q', rfl⟩ : ∃ q', q = q' + 1 := ⟨q - 1, by omega⟩
          have := hqr.out
          rw [Nat.add_mul, Nat.one_mul] at this
          rw [Nat.add_sub_cancel]; omega
        have Hq1 := Lib.hid hq1
        clear hq1 hle
        have hQ1 := hQN.out
        have hR1 := hRN.out
        have hY := HY1.out
        have hD := HD1.out
        have hPP := HPI.out
        rcases hgo with hA | ⟨hA, ht⟩
        rotate_left
        replace bP := bP hA
        replace bP : PI ≤ 18446744065119617025 := by omega
        have bP0 : 0 ≤ PI := by omega
        replace hA : QN < 4294967296 := by omega
        replace ht : 4294967296 * RN + D1 < PI := by omega
        rotate_left
        clear bP eP
        replace hA : (4294967296 : Int) ≤ QN := by omega
        all_goals
          by_cases hbr : (4294967296 : Int) ≤ RN + Y1
          · have hend : QN - 1 = Q1 := by
              have h1 := dg_stop (d := d1) hypos.out hqr2.out (dg_stop2 (show W ≤ r + y1 by unfold W; omega) (show q - 1 ≤ W by unfold W; omega) (show y0 < W by have := HY0.out; unfold W; omega))
              rw [HQ1.out] at h1
              have := HQ1I.out
              have := Hq1.out
              omega
            have HE := Lib.hid hend
            have hw3 : 0 ≤ QN - 1 := by have := Hq1.out; omega
            clear hend hqr hqr2 HPq hQ1 hR1 hY hD hPP
            go_wp2_with fail
            go_meet
            exact ⟨congrArg (Value.int IntKind.u64) HE.out, rfl⟩
          · have hbr' : RN + Y1 < 4294967296 := by omega
            have hw : Hid (RN + Y1 = ((r + y1 : Nat) : Int)) := by show _ = _; omega
            have hw2 : Hid (QN - 1 = ((q - 1 : Nat) : Int)) := by show _ = _; have := Hq1.out; omega
            have hw3 : 0 ≤ QN - 1 := by have := Hq1.out; omega
            clear hbr hQ1 hR1 hY hD hPP hqr HPq
            go_wp2_with fail
            go_round
            case rel => exact ⟨q - 1, r + y1, QN - 1, RN + Y1, by go_num, by go_num, hw2, hw, hqr2, show Hid _ from (by show _ ≤ _; have := Hq1.out; omega), by omega, by omega, by omega, by omega⟩
            case measure => simp [intOf]; omega
      · have hQ1 := hQN.out
        have hR1 := hRN.out
        have hD := HD1.out
        have hPP := HPI.out
        have hA : q < 4294967296 := by omega
        have ht : P ≤ 4294967296 * r + d1 := by omega
        have hend : QN = Q1 := by
          have h1 := dg_stop (d := d1) hypos.out hqr.out (by rw [HPq.out]; exact ht)
          rw [HQ1.out] at h1
          have := HQ1I.out
          have := hle.out
          omega
        have HE := Lib.hid hend
        replace bP := bP hA
        replace bP : PI ≤ 18446744065119617025 := by omega
        have bP0 : 0 ≤ PI := by omega
        replace ht : PI ≤ 4294967296 * RN + D1 := by omega
        replace hA : QN < 4294967296 := by omega
        clear hend hle hqr HPq hgo hQ1 hR1 hD hPP
        go_wp2_with fail
        go_meet
        exact ⟨by rw [HE.out], rfl⟩
  case rest =>
    obtain ⟨rfl, rfl⟩ := hcut
    obtain ⟨v, hv⟩ : ∃ v, (u * W + d1) % (y1 * W + y0) = v := ⟨_, rfl⟩
    have hvy : v < y1 * W + y0 := by rw [← hv]; exact Nat.mod_lt _ hypos.out
    have hdm : u * W + d1 = q1 * (y1 * W + y0) + v := by
      have := Nat.div_add_mod (u * W + d1) (y1 * W + y0)
      rw [HQ1.out, hv, Nat.mul_comm] at this
      exact this.symm
    obtain ⟨V, hV⟩ : ∃ V : Int, V = (v : Int) := ⟨_, rfl⟩
    have gv0 : 0 ≤ V := by omega
    have gv1 : V < YS := by have := HYS.out; omega
    have g1 : IntKind.u64.wrap (IntKind.u64.wrap (IntKind.u64.wrap (U * 4294967296) + D1) - IntKind.u64.wrap (Q1 * YS)) = V := by
      rw [HU.out, HD1.out, HQ1I.out, HYS.out, hV]
      exact wrap_rem hdm (show v < 18446744073709551616 by omega)
    have HV := Lib.hid hv
    have HDM := Lib.hid hdm
    have HVI := Lib.hid hV
    clear hv hdm hV hvy
    obtain ⟨q0s, hq0⟩ : ∃ q0s, (v * W + d0) / (y1 * W + y0) = q0s := ⟨_, rfl⟩
    have HZ1 := Lib.hid hq0
    have hq0b : q0s < 4294967296 := by rw [← hq0]; exact dg_lt (show d0 < W by have := HD0.out; unfold W; omega) (by have := HVI.out; have := HYS.out; omega)
    clear hq0
    obtain ⟨Q0S, hQ0S⟩ : ∃ Q0S : Int, Q0S = (q0s : Int) := ⟨_, rfl⟩
    have c1 : 0 ≤ Q0S := by omega
    have c2 : Q0S < 4294967296 := by omega
    have HZ1I := Lib.hid hQ0S
    clear hQ0S hq0b
    obtain ⟨QB, hQB⟩ : ∃ QB, V / Y1 = QB := ⟨_, rfl⟩
    obtain ⟨PB, hPB⟩ : ∃ PB, QB * Y1 = PB := ⟨_, rfl⟩
    have k0 : 0 ≤ QB := by rw [← hQB]; exact Int.ediv_nonneg gv0 (by omega)
    have hdm : V = QB * Y1 + V % Y1 := by rw [← hQB]; have := Int.mul_ediv_add_emod V Y1; rw [Int.mul_comm] at this; omega
    have km1 : 0 ≤ V % Y1 := Int.emod_nonneg _ (by omega)
    have km2 : V % Y1 < Y1 := Int.emod_lt_of_pos _ (by omega)
    rw [hPB] at hdm
    generalize V % Y1 = RB at *
    have hPV : PB ≤ V := by omega
    have hPB0 : 0 ≤ PB := by rw [← hPB]; exact Int.mul_nonneg k0 (by omega)
    have hQBu : QB ≤ 4294967297 := by
      have hh : V < Y1 * 4294967298 := by have := HYS.out; have := HY1.out; have := HY0.out; unfold W at this; omega
      have h5 := Int.ediv_lt_of_lt_mul (by omega) hh
      first | (rw [hQB] at h5; omega) | (rw [Int.mul_comm] at hh; have h6 := Int.ediv_lt_of_lt_mul (by omega) hh; rw [hQB] at h6; omega)
    obtain ⟨qb, hqb⟩ : ∃ qb : Nat, QB = (qb : Int) := ⟨QB.toNat, by omega⟩
    obtain ⟨rb, hrb⟩ : ∃ rb : Nat, RB = (rb : Int) := ⟨RB.toNat, by omega⟩
    have HQB : Hid (qb * y1 + rb = v) := by
      show _ = _
      have h1 := HY1.out; have h2 := HVI.out
      rw [← hPB, hqb, hrb, h1, h2] at hdm
      have : ((qb * y1 + rb : Nat) : Int) = (v : Int) := by rw [Int.natCast_add, Int.natCast_mul]; exact hdm.symm
      exact Int.ofNat.inj this
    have hle2 : Hid (q0s ≤ qb) := by
      show _ ≤ _
      have h3 : v / y1 = qb := by
        have := hQB; rw [HVI.out, HY1.out, hqb] at this
        exact Int.ofNat.inj ((Int.natCast_ediv ..).trans this)
      rw [← HZ1.out, ← h3]
      exact dg_ge (by decide) (by have := HY1.out; omega) (show d0 < W by have := HD0.out; unfold W; omega)
    have g2 := hQB
    have g3 := hPB
    have n2 : Hid (V - PB = RB) := by show _ = _; omega
    have Hqb := Lib.hid hqb
    have Hrb := Lib.hid hrb
    have HQBe := Lib.hid hQB
    clear hqb hrb hQB hPB hdm e1 e2 e3 e4 e5 e6 e7 e8 e9
    go_upto_block 2 with (fail)
    rw [n2.out]
    go_cut [18, 16] (fun a _ wx => a = .int .u64 Q0S ∧ w = wx)
    case first =>
      clear f1 f2 f3 f4 g1 g2 g3
      go_wp2_with fail
      go_loop [18, 16] (fun a b => ∃ (q r : Nat) (QN RN : Int), a = .int .u64 QN ∧ b = .int .u64 RN ∧ Hid (QN = (q : Int)) ∧ Hid (RN = (r : Int)) ∧ Hid (q * y1 + r = v) ∧ Hid (q0s ≤ q) ∧ 0 ≤ QN ∧ QN ≤ 4294967297 ∧ 0 ≤ RN ∧ RN < 4294967296) (fun a _ => (intOf a).toNat)
      case atStart => exact ⟨qb, rb, QB, RB, congrArg (Value.int IntKind.u64) HQBe.out, rfl, Hqb, Hrb, HQB, hle2, k0, hQBu, km1, by omega⟩
      case round =>
        clear HQB hle2 Hqb Hrb
        obtain ⟨q, r, QN, RN, rfl, rfl, hQN, hRN, hqr, hle, hq0, hub, hr0, hrb⟩ := hrel
        obtain ⟨P, hP⟩ : ∃ P, q * y0 = P := ⟨_, rfl⟩
        obtain ⟨PI, hPI⟩ : ∃ PI : Int, PI = (P : Int) := ⟨_, rfl⟩
        have eP : QN * Y0 = PI := by rw [hQN.out, HY0.out, hPI, ← hP]; exact (Int.natCast_mul ..).symm
        have bP : q < 4294967296 → P ≤ 18446744065119617025 := fun h => by rw [← hP]; exact Nat.mul_le_mul (show q ≤ 4294967295 by omega) (show y0 ≤ 4294967295 by have := HY0.out; omega)
        have HPq := Lib.hid hP
        have HPI := Lib.hid hPI
        clear hP hPI
        by_cases hgo : 4294967296 ≤ q ∨ (q < 4294967296 ∧ 4294967296 * r + d0 < P)
        · have hq0s : q0s + 1 ≤ q := by
            rcases hgo with h | ⟨_, h⟩
            · have := HZ1I.out; omega
            · rw [← HZ1.out]; exact dg_dec hqr.out (by rw [HPq.out]; exact h)
          have hqr2 : Hid ((q - 1) * y1 + (r + y1) = v) := by
            show _ = _
            obtain ⟨q', rfl⟩ : ∃ q', q = q' + 1 := ⟨q - 1, by omega⟩
            have := hqr.out
            rw [Nat.add_mul, Nat.one_mul] at this
            rw [Nat.add_sub_cancel]; omega
          have Hq0s := Lib.hid hq0s
          clear hq0s hle
          have hQ1 := hQN.out
          have hR1 := hRN.out
          have hY := HY1.out
          have hD := HD0.out
          have hPP := HPI.out
          rcases hgo with hA | ⟨hA, ht⟩
          rotate_left
          replace bP := bP hA
          replace bP : PI ≤ 18446744065119617025 := by omega
          have bP0 : 0 ≤ PI := by omega
          replace hA : QN < 4294967296 := by omega
          replace ht : 4294967296 * RN + D0 < PI := by omega
          rotate_left
          clear bP eP
          replace hA : (4294967296 : Int) ≤ QN := by omega
          all_goals
            by_cases hbr : (4294967296 : Int) ≤ RN + Y1
            · have hend : QN - 1 = Q0S := by
                have h1 := dg_stop (d := d0) hypos.out hqr2.out (dg_stop2 (show W ≤ r + y1 by unfold W; omega) (show q - 1 ≤ W by unfold W; omega) (show y0 < W by have := HY0.out; unfold W; omega))
                rw [HZ1.out] at h1
                have := HZ1I.out
                have := Hq0s.out
                omega
              have HE := Lib.hid hend
              have hw3 : 0 ≤ QN - 1 := by have := Hq0s.out; omega
              clear hend hqr hqr2 HPq hQ1 hR1 hY hD hPP
              go_wp2_with fail
              go_meet
              exact ⟨congrArg (Value.int IntKind.u64) HE.out, rfl⟩
            · have hbr' : RN + Y1 < 4294967296 := by omega
              have hw : Hid (RN + Y1 = ((r + y1 : Nat) : Int)) := by show _ = _; omega
              have hw2 : Hid (QN - 1 = ((q - 1 : Nat) : Int)) := by show _ = _; have := Hq0s.out; omega
              have hw3 : 0 ≤ QN - 1 := by have := Hq0s.out; omega
              clear hbr hQ1 hR1 hY hD hPP hqr HPq
              go_wp2_with fail
              go_round
              case rel => exact ⟨q - 1, r + y1, QN - 1, RN + Y1, by go_num, by go_num, hw2, hw, hqr2, show Hid _ from (by show _ ≤ _; have := Hq0s.out; omega), by omega, by omega, by omega, by omega⟩
              case measure => simp [intOf]; omega
        · have hQ1 := hQN.out
          have hR1 := hRN.out
          have hD := HD0.out
          have hPP := HPI.out
          have hA : q < 4294967296 := by omega
          have ht : P ≤ 4294967296 * r + d0 := by omega
          have hend : QN = Q0S := by
            have h1 := dg_stop (d := d0) hypos.out hqr.out (by rw [HPq.out]; exact ht)
            rw [HZ1.out] at h1
            have := HZ1I.out
            have := hle.out
            omega
          have HE := Lib.hid hend
          replace bP := bP hA
          replace bP : PI ≤ 18446744065119617025 := by omega
          have bP0 : 0 ≤ PI := by omega
          replace ht : PI ≤ 4294967296 * RN + D0 := by omega
          replace hA : QN < 4294967296 := by omega
          clear hend hle hqr HPq hgo hQ1 hR1 hD hPP
          go_wp2_with fail
          go_meet
          exact ⟨by rw [HE.out], rfl⟩
    case rest =>
      obtain ⟨rfl, rfl⟩ := hcut
      go_wp2_with fail
      go_ret2
      refine ⟨?_, 0, rfl⟩
      show Ending.returned (.tuple #[.int .u64 (Q1 * 4294967296 + Q0S), .int .u64 (IntKind.u64.wrap (IntKind.u64.wrap (IntKind.u64.wrap (V * 4294967296) + D0) - IntKind.u64.wrap (Q0S * YS)) / 2 ^ s)]) = _
      have hd2 : v * W + d0 = q0s * (y1 * W + y0) + (v * W + d0) % (y1 * W + y0) := by
        have := Nat.div_add_mod (v * W + d0) (y1 * W + y0)
        rw [HZ1.out, Nat.mul_comm] at this
        exact this.symm
      obtain ⟨a1, a2⟩ := dived_end HDM.out hd2 HN.out HY.out (by omega)
      have hr2 : (v * W + d0) % (y1 * W + y0) < B := by
        have h1 : (v * W + d0) % (y1 * W + y0) < y1 * W + y0 := Nat.mod_lt _ hypos.out
        have h2 := HYS.out
        show _ < 18446744073709551616
        omega
      rw [HVI.out, HD0.out, HZ1I.out, HYS.out, wrap_rem hd2 hr2, shr_int, HQ1I.out]
      have h3 : ((q1 : Int) * 4294967296 + (q0s : Int)) = ((q1 * W + q0s : Nat) : Int) := by rw [Int.natCast_add, Int.natCast_mul]; rfl
      rw [h3, a1]
      show _ = Ending.returned (.tuple #[.int .u64 (divQ hi lo y : Int), .int .u64 (divR hi lo y : Int)])
      rw [← a2]; rfl

theorem div64_any (hi lo y : Nat) (hl : lo < B) (hy : y < B) (hlt : hi < y) (w : World) :
    Calls Tryz.prog 106 #[.int .u64 (hi : Int), .int .u64 (lo : Int), .int .u64 (y : Int)] w (Dived w hi lo y) := by
  rcases Nat.eq_zero_or_pos hi with h0 | h0
  · subst h0; exact div64_zero lo y hl hy (by omega) w
  · have hL := bitLen_le y hy
    obtain ⟨s1, s2, s3⟩ := bitLen_spec (y + 1) y (by omega) (by omega) (by rw [← B_pow]; exact hy)
    obtain ⟨s, hs⟩ : ∃ s, s = 64 - Lib.bitLen y := ⟨_, rfl⟩
    have hp : 0 < 2 ^ s := Nat.two_pow_pos s
    have hlen : Lib.bitLen y = 64 - s := by omega
    rw [hlen] at s1 s2 s3
    have hBs := B_split (p := s) (by omega)
    have hysB : y * 2 ^ s < B := by rw [hBs]; exact Nat.mul_lt_mul_of_pos_right s2 hp
    have hysl : 9223372036854775808 ≤ y * 2 ^ s := by
      have : 2 ^ (64 - s - 1) * 2 ^ s ≤ y * 2 ^ s := Nat.mul_le_mul_right _ s1
      rw [← Nat.pow_add, show 64 - s - 1 + s = 63 from by omega] at this
      exact this
    have hhi : hi * 2 ^ s < B := Nat.lt_trans (Nat.mul_lt_mul_of_pos_right hlt hp) hysB
    have hlo : lo / 2 ^ (64 - s) < 2 ^ s := shr_lt hl (by omega)
    have hu : hi * 2 ^ s + lo / 2 ^ (64 - s) < y * 2 ^ s := by
      have : (hi + 1) * 2 ^ s ≤ y * 2 ^ s := Nat.mul_le_mul_right _ hlt
      rw [Nat.add_mul, Nat.one_mul] at this; omega
    have hysB : y * 2 ^ s < 18446744073709551616 := hysB
    have hls : lo * 2 ^ s % B < 18446744073709551616 := Nat.mod_lt _ B_pos
    have e1 : IntKind.u64.wrap ((y : Int) * 2 ^ s) = ((y * 2 ^ s : Nat) : Int) := by
      rw [← Mul64.wrapN _ hysB, Int.natCast_mul, Int.natCast_pow]; rfl
    have e2 : IntKind.u64.wrap ((lo : Int) * 2 ^ s) = ((lo * 2 ^ s % B : Nat) : Int) := by
      rw [IntKind.wrap_u64, Int.natCast_emod, Int.natCast_mul, Int.natCast_pow]; rfl
    have e3 : bits .or .u64 (IntKind.u64.wrap ((hi : Int) * 2 ^ s)) ((lo : Int) / 2 ^ (64 - s)) = ((hi * 2 ^ s + lo / 2 ^ (64 - s) : Nat) : Int) := by
      have h1 : IntKind.u64.wrap ((hi : Int) * 2 ^ s) = ((hi * 2 ^ s : Nat) : Int) := by
        rw [← Mul64.wrapN _ (show hi * 2 ^ s < 18446744073709551616 from hhi), Int.natCast_mul, Int.natCast_pow]; rfl
      rw [h1, shr_int]
      show bits .or .u64 _ ((lo / 2 ^ (64 - s) : Nat) : Int) = _
      rw [bits_or_u64_nat _ _ hhi (Nat.lt_trans (Nat.lt_of_lt_of_le hlo (by have h5 : 2 ^ s ≤ 2 ^ 63 := Nat.pow_le_pow_right (by omega) (by omega); exact h5)) (by decide)), ← Nat.shiftLeft_eq, Nat.shiftLeft_add_eq_or_of_lt hlo]
    refine div64_core hi lo y s (hi * 2 ^ s + lo / 2 ^ (64 - s)) (y * 2 ^ s / 4294967296) (y * 2 ^ s % 4294967296) (lo * 2 ^ s % B / 4294967296) (lo * 2 ^ s % B % 4294967296) _ _ _ _ _ _ _ w h0 hlt hs hy (by omega) e1 e2 e3
      (Mul64.maskN _ hysB) (Mul64.divN _) (Mul64.maskN _ hls) (Mul64.divN _) ?_ ?_ ?_ ?_ ?_ ?_ ?_ ?_ ?_ ?_ ?_ rfl rfl rfl rfl rfl ?_ ?_ ?_
    all_goals try omega
    · exact Int.natCast_nonneg _
    · refine (show _ = _ from ?_)
      rw [show W = 4294967296 from rfl, Nat.div_add_mod']
    · refine (show _ = _ from ?_)
      rw [show W = 4294967296 from rfl, Nat.div_add_mod']
      have h1 : lo / 2 ^ (64 - s) = lo * 2 ^ s / B := shr_carry (by omega)
      have h2 := Nat.div_add_mod' (lo * 2 ^ s) B
      rw [h1]
      generalize lo * 2 ^ s / B = c at *
      generalize lo * 2 ^ s % B = d at *
      rw [Nat.add_mul, Nat.add_assoc, h2, Nat.add_mul, Nat.mul_right_comm]
    · refine (show _ = _ from ?_)
      rw [show W = 4294967296 from rfl, Nat.div_add_mod']
end Go.Proofs.YtldkddogadmpbaaGreatDoor
