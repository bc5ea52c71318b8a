/- What the laws lean on, part 4. -/
import Derived.Deep.DeepCutAuto
import Derived.Deep.CutBlock
import Derived.Test.YthbhgcaemcobeaaGreatDoorMp3
namespace Go.Proofs.YthbhgcaemcobeaaGreatDoor
open Go.RowKit Mat
set_option maxRecDepth 100000
set_option linter.unusedVariables false
set_option linter.unusedSimpArgs false
def divQ (hi lo y : Nat) : Nat := (hi * B + lo) / y
def divR (hi lo y : Nat) : Nat := (hi * B + lo) % y
def Dived (w : World) (hi lo y : Nat) (e : Ending) (w' : World) : Prop := e = .returned (.tuple #[.int .u64 (divQ hi lo y : Int), .int .u64 (divR hi lo y : Int)]) ∧ ∃ q, w' = w.drewN q
set_option maxHeartbeats 1000000 in
theorem div64_zero (lo y : Nat) (hl : lo < B) (hy : y < B) (h0 : 0 < y) (w : World) :
    Calls Tryz.prog 132 #[.int .u64 0, .int .u64 (lo : Int), .int .u64 (y : Int)] w (Dived w 0 lo y) := by
  have e1 : ((lo : Int) / (y : Int)) = (divQ 0 lo y : Int) := by unfold divQ; rw [Nat.zero_mul, Nat.zero_add]; exact (Int.natCast_ediv ..).symm
  have e2 : ((lo : Int) % (y : Int)) = (divR 0 lo y : Int) := by unfold divR; rw [Nat.zero_mul, Nat.zero_add]; exact (Int.natCast_emod ..).symm
  have hq : divQ 0 lo y < B := by
    unfold divQ; rw [Nat.zero_mul, Nat.zero_add]; exact Nat.lt_of_le_of_lt (Nat.div_le_self _ _) hl
  have E2 := Lib.hid e2
  have E3 := Lib.hid (Mul64.wrapN _ hq)
  clear e2 hq
  have f1 : ((y : Int) == 0) = false := beq_eq_false_iff_ne.2 (by omega)
  have f2 : decide ((y : Int) ≤ 0) = false := decide_eq_false (by omega)
  go_enter Tryz.func132, Tryz.ntmps132
  go_wp2_with fail
  go_quiet (fail)
  go_wp2_with fail
  go_ret2
  refine ⟨?_, _, rfl⟩
  show Ending.returned (.tuple #[.int .u64 (IntKind.u64.wrap (divQ 0 lo y : Int)), .int .u64 ((lo : Int) % (y : Int))]) = _
  rw [E2.out, E3.out]
theorem dg_ge {u y1 y0 d b : Nat} (hb : 0 < b) (h1 : 0 < y1) (hd : d < b) : (u * b + d) / (y1 * b + y0) ≤ u / y1 := by
  have h : (u * b + d) / (y1 * b + y0) ≤ (u * b + d) / (b * y1) := Nat.div_le_div_left (by rw [Nat.mul_comm]; omega) (Nat.mul_pos hb h1)
  rw [← Nat.div_div_eq_div_mul, Nat.mul_comm u b, Nat.mul_add_div hb, Nat.div_eq_of_lt hd, Nat.add_zero] at h
  rwa [Nat.mul_comm u b]
theorem dg_lt {u y1 y0 d b : Nat} (hd : d < b) (hu : u < y1 * b + y0) : (u * b + d) / (y1 * b + y0) < b := by
  rw [Nat.div_lt_iff_lt_mul (by omega)]
  have : (u + 1) * b ≤ (y1 * b + y0) * b := Nat.mul_le_mul_right _ hu
  rw [Nat.add_mul] at this
  rw [Nat.mul_comm b]; omega
theorem dg_dec {u y1 y0 d b q r : Nat} (h : q * y1 + r = u) (ht : b * r + d < q * y0) : (u * b + d) / (y1 * b + y0) + 1 ≤ q := by
  have hq : 0 < q := by
    rcases Nat.eq_zero_or_pos q with h0 | h0
    · subst h0; simp at ht
    · exact h0
  have hy : 0 < y0 := by
    rcases Nat.eq_zero_or_pos y0 with h0 | h0
    · subst h0; simp at ht
    · exact h0
  have : (u * b + d) < (y1 * b + y0) * q := by
    have e : (y1 * b + y0) * q = (q * y1) * b + q * y0 := by grind
    have e2 : u * b = (q * y1) * b + b * r := by rw [← h]; grind
    omega
  exact Nat.div_lt_of_lt_mul this
theorem dg_stop {u y1 y0 d b q r : Nat} (hy : 0 < y1 * b + y0) (h : q * y1 + r = u) (ht : q * y0 ≤ b * r + d) : q ≤ (u * b + d) / (y1 * b + y0) := by
  rw [Nat.le_div_iff_mul_le hy]
  have e : q * (y1 * b + y0) = (q * y1) * b + q * y0 := by grind
  have e2 : u * b = (q * y1) * b + b * r := by rw [← h]; grind
  omega
theorem dg_stop2 {y0 d b q r : Nat} (hr : b ≤ r) (hq : q ≤ b) (hy : y0 < b) : q * y0 ≤ b * r + d := by
  have h1 : q * y0 ≤ b * b := Nat.mul_le_mul hq (by omega)
  have h2 : b * b ≤ b * r := Nat.mul_le_mul_left _ hr
  omega
def W : Nat := 4294967296
theorem W_mul : W * W = B := by decide
theorem wrap_rem {u d q y r : Nat} (h : u * W + d = q * y + r) (hr : r < B) :
    IntKind.u64.wrap (IntKind.u64.wrap (IntKind.u64.wrap ((u : Int) * 4294967296) + (d : Int)) - IntKind.u64.wrap ((q : Int) * (y : Int))) = (r : Int) := by
  have h2 : (u : Int) * 4294967296 + (d : Int) = (q : Int) * (y : Int) + (r : Int) := by
    have := congrArg (fun n : Nat => (n : Int)) h
    simpa [W] using this
  have hr : r < 18446744073709551616 := hr
  simp only [IntKind.wrap_u64]
  generalize (q : Int) * (y : Int) = p at *
  omega
theorem dived_end {u d1 d0 ys q1 v q0 hi lo y s : Nat} (h1 : u * W + d1 = q1 * ys + v) (h2 : v * W + d0 = q0 * ys + (v * W + d0) % ys) (hN : u * B + (d1 * W + d0) = (hi * B + lo) * 2 ^ s) (hY : ys = y * 2 ^ s) (hy : 0 < y) :
    q1 * W + q0 = divQ hi lo y ∧ (v * W + d0) % ys / 2 ^ s = divR hi lo y := by
  have hp : 0 < 2 ^ s := Nat.two_pow_pos s
  have hlt : (v * W + d0) % ys < ys := Nat.mod_lt _ (by rw [hY]; exact Nat.mul_pos hy hp)
  generalize (v * W + d0) % ys = r at *
  have e1 : (hi * B + lo) * 2 ^ s = (q1 * W + q0) * y * 2 ^ s + r := by
    rw [← hN, ← W_mul]
    have : u * (W * W) + (d1 * W + d0) = (u * W + d1) * W + d0 := by grind
    rw [this, h1]
    have : (q1 * ys + v) * W + d0 = q1 * ys * W + (v * W + d0) := by grind
    rw [this, h2, hY]; grind
  show q1 * W + q0 = (hi * B + lo) / y ∧ r / 2 ^ s = (hi * B + lo) % y
  generalize hi * B + lo = N at *
  generalize q1 * W + q0 = Q at *
  have hQN : Q * y ≤ N := by
    rcases Nat.lt_or_ge N (Q * y) with h | h
    · have := Nat.mul_lt_mul_of_pos_right h hp; omega
    · exact h
  obtain ⟨t, ht⟩ : ∃ t, N = Q * y + t := ⟨N - Q * y, by omega⟩
  have hr : r = t * 2 ^ s := by rw [ht, Nat.add_mul] at e1; omega
  have hty : t < y := by
    rw [hr, hY] at hlt
    exact Nat.lt_of_mul_lt_mul_right hlt
  have e2 : N / y = Q := by rw [ht, Nat.mul_comm, Nat.mul_add_div hy, Nat.div_eq_of_lt hty, Nat.add_zero]
  have e3 : N % y = t := by rw [ht, Nat.mul_comm, Nat.mul_add_mod, Nat.mod_eq_of_lt hty]
  exact ⟨e2.symm, by rw [hr, Nat.mul_div_cancel _ hp]; exact e3.symm⟩
set_option maxHeartbeats 8000000 in
theorem div64_core (hi lo y s u y1 y0 d1 d0 : Nat) (U Y1 Y0 D1 D0 YS LS : Int) (w : World) (h0 : 0 < hi) (hlt : hi < y) (hs : s = 64 - Lib.bitLen y) (hy : y < B) (s64 : s ≤ 64)
    (e1 : IntKind.u64.wrap ((y : Int) * 2 ^ s) = YS) (e2 : IntKind.u64.wrap ((lo : Int) * 2 ^ s) = LS)
    (e3 : bits .or .u64 (IntKind.u64.wrap ((hi : Int) * 2 ^ s)) ((lo : Int) / 2 ^ (64 - s)) = U)
    (e4 : bits .and .u64 YS 4294967295 = Y0) (e5 : YS / 4294967296 = Y1) (e6 : bits .and .u64 LS 4294967295 = D0) (e7 : LS / 4294967296 = D1)
    (by1 : 2147483648 ≤ Y1) (by1' : Y1 < 4294967296) (by0 : 0 ≤ Y0) (by0' : Y0 < 4294967296) (bd1 : 0 ≤ D1) (bd1' : D1 < 4294967296) (bd0 : 0 ≤ D0) (bd0' : D0 < 4294967296)
    (hu0 : 0 ≤ U) (hu : U < YS) (hYS : YS ≤ 18446744073709551615)
    (HU : Hid (U = (u : Int))) (HY1 : Hid (Y1 = (y1 : Int))) (HY0 : Hid (Y0 = (y0 : Int))) (HD1 : Hid (D1 = (d1 : Int))) (HD0 : Hid (D0 = (d0 : Int))) (HYS : Hid (YS = ((y1 * W + y0 : Nat) : Int)))
    (HN : Hid (u * B + (d1 * W + d0) = (hi * B + lo) * 2 ^ s)) (HY : Hid (y1 * W + y0 = y * 2 ^ s)) :
    Calls Tryz.prog 132 #[.int .u64 (hi : Int), .int .u64 (lo : Int), .int .u64 (y : Int)] w (Dived w hi lo y) := by
  have f1 : ((y : Int) == 0) = false := beq_eq_false_iff_ne.2 (by omega)
  have f3 : ((hi : Int) == 0) = false := beq_eq_false_iff_ne.2 (by omega)
  have f2 : decide (y ≤ hi) = false := decide_eq_false (by omega)
  have f4 : (Y1 == 0) = false := beq_eq_false_iff_ne.2 (by omega)
  have Hs := Lib.hid hs
  clear hs
  have hypos : Hid (0 < y1 * W + y0) := by show _ < _; have := HY1.out; unfold W; omega
  obtain ⟨q1, hq1⟩ : ∃ q1, (u * W + d1) / (y1 * W + y0) = q1 := ⟨_, rfl⟩
  have HQ1 := Lib.hid hq1
  have hq1b : q1 < 4294967296 := by rw [← hq1]; exact dg_lt (show d1 < W by have := HD1.out; unfold W; omega) (by have := HU.out; have := HYS.out; omega)
  clear hq1
  obtain ⟨Q1, hQ1⟩ : ∃ Q1 : Int, Q1 = (q1 : Int) := ⟨_, rfl⟩
  have b1 : 0 ≤ Q1 := by omega
  have b2 : Q1 < 4294967296 := by omega
  have HQ1I := Lib.hid hQ1
  clear hQ1 hq1b
  obtain ⟨QA, hQA⟩ : ∃ QA, U / Y1 = QA := ⟨_, rfl⟩
  obtain ⟨PA, hPA⟩ : ∃ PA, QA * Y1 = PA := ⟨_, rfl⟩
  have g0 : 0 ≤ QA := by rw [← hQA]; exact Int.ediv_nonneg hu0 (by omega)
  have hdm : U = QA * Y1 + U % Y1 := by rw [← hQA]; have := Int.mul_ediv_add_emod U Y1; rw [Int.mul_comm] at this; omega
  have hm1 : 0 ≤ U % Y1 := Int.emod_nonneg _ (by omega)
  have hm2 : U % Y1 < Y1 := Int.emod_lt_of_pos _ (by omega)
  rw [hPA] at hdm
  generalize U % Y1 = RA at *
  have hPU : PA ≤ U := by omega
  have hP0 : 0 ≤ PA := by rw [← hPA]; exact Int.mul_nonneg g0 (by omega)
  have hQU : QA ≤ 4294967297 := by
    have hh : U < Y1 * 4294967298 := by have := HYS.out; have := HY1.out; have := HY0.out; unfold W at this; omega
    have h5 := Int.ediv_lt_of_lt_mul (by omega) hh
    first | (rw [hQA] at h5; omega) | (rw [Int.mul_comm] at hh; have h6 := Int.ediv_lt_of_lt_mul (by omega) hh; rw [hQA] at h6; omega)
  obtain ⟨qa, hqa⟩ : ∃ qa : Nat, QA = (qa : Int) := ⟨QA.toNat, by omega⟩
  obtain ⟨ra, hra⟩ : ∃ ra : Nat, RA = (ra : Int) := ⟨RA.toNat, by omega⟩
  have HQA : Hid (qa * y1 + ra = u) := by
    show _ = _
    have h1 := HY1.out; have h2 := HU.out
    rw [← hPA, hqa, hra, h1, h2] at hdm
    have : ((qa * y1 + ra : Nat) : Int) = (u : Int) := by rw [Int.natCast_add, Int.natCast_mul]; exact hdm.symm
    exact Int.ofNat.inj this
  have hle : Hid (q1 ≤ qa) := by
    show _ ≤ _
    have h3 : u / y1 = qa := by
      have := hQA; rw [HU.out, HY1.out, hqa] at this
      exact Int.ofNat.inj ((Int.natCast_ediv ..).trans this)
    rw [← HQ1.out, ← h3]
    exact dg_ge (by decide) (by have := HY1.out; omega) (show d1 < W by have := HD1.out; unfold W; omega)
  have e8 := hQA
  have e9 := hPA
  have n1 : Hid (U - PA = RA) := by show _ = _; omega
  have Hqa := Lib.hid hqa
  have Hra := Lib.hid hra
  have HQAe := Lib.hid hQA
  clear hqa hra hQA hPA hdm
  go_enter Tryz.func132, Tryz.ntmps132
  go_upto_block 0 with (go_at_call 144; refine (lead64_any y hy _).mono ?_; rintro e w' ⟨rfl, rfl⟩; rw [← Hs.out])
  rw [n1.out]
  go_cut [15, 16] (fun a _ wx => a = .int .u64 Q1 ∧ w = wx)
  case first =>
    clear e1 e2 e3 e4 e5 e6 e7 e8 e9 f1 f2 f3 f4
    go_wp2_with fail
    go_loop [15, 16] (fun a b => ∃ (q r : Nat) (QN RN : Int), a = .int .u64 QN ∧ b = .int .u64 RN ∧ Hid (QN = (q : Int)) ∧ Hid (RN = (r : Int)) ∧ Hid (q * y1 + r = u) ∧ Hid (q1 ≤ q) ∧ 0 ≤ QN ∧ QN ≤ 4294967297 ∧ 0 ≤ RN ∧ RN < 4294967296) (fun a _ => (intOf a).toNat)
    case atStart => exact ⟨qa, ra, QA, RA, congrArg (Value.int IntKind.u64) HQAe.out, rfl, Hqa, Hra, HQA, hle, g0, hQU, hm1, by omega⟩
    case round =>
      clear HQA hle Hqa Hra
      obtain ⟨q, r, QN, RN, rfl, rfl, hQN, hRN, hqr, hle, hq0, hub, hr0, hrb⟩ := hrel
      obtain ⟨P, hP⟩ : ∃ P, q * y0 = P := ⟨_, rfl⟩
      obtain ⟨PI, hPI⟩ : ∃ PI : Int, PI = (P : Int) := ⟨_, rfl⟩
      have eP : QN * Y0 = PI := by rw [hQN.out, HY0.out, hPI, ← hP]; exact (Int.natCast_mul ..).symm
      have bP : q < 4294967296 → P ≤ 18446744065119617025 := fun h => by rw [← hP]; exact Nat.mul_le_mul (show q ≤ 4294967295 by omega) (show y0 ≤ 4294967295 by have := HY0.out; omega)
      have HPq := Lib.hid hP
      have HPI := Lib.hid hPI
      clear hP hPI
      by_cases hgo : 4294967296 ≤ q ∨ (q < 4294967296 ∧ 4294967296 * r + d1 < P)
      · have hq1 : q1 + 1 ≤ q := by
          rcases hgo with h | ⟨_, h⟩
          · have := HQ1I.out; omega
          · rw [← HQ1.out]; exact dg_dec hqr.out (by rw [HPq.out]; exact h)
        have hqr2 : Hid ((q - 1) * y1 + (r + y1) = u) := by
          show _ = _
          obtain ⟨q', rfl⟩ : ∃ q', q = q' + 1 := ⟨q - 1, by omega⟩
          have := hqr.out
          rw [Nat.add_mul, Nat.one_mul] at this
          rw [Nat.add_sub_cancel]; omega
        have Hq1 := Lib.hid hq1
        clear hq1 hle
        have hQ1 := hQN.out
        have hR1 := hRN.out
        have hY := HY1.out
        have hD := HD1.out
        have hPP := HPI.out
        rcases hgo with hA | ⟨hA, ht⟩
        rotate_left
        replace bP := bP hA
        replace bP : PI ≤ 18446744065119617025 := by omega
        have bP0 : 0 ≤ PI := by omega
        replace hA : QN < 4294967296 := by omega
        replace ht : 4294967296 * RN + D1 < PI := by omega
        rotate_left
        clear bP eP
        replace hA : (4294967296 : Int) ≤ QN := by omega
        all_goals
          by_cases hbr : (4294967296 : Int) ≤ RN + Y1
          · have hend : QN - 1 = Q1 := by
              have h1 := dg_stop (d := d1) hypos.out hqr2.out (dg_stop2 (show W ≤ r + y1 by unfold W; omega) (show q - 1 ≤ W by unfold W; omega) (show y0 < W by have := HY0.out; unfold W; omega))
              rw [HQ1.out] at h1
              have := HQ1I.out
              have := Hq1.out
              omega
            have HE := Lib.hid hend
            have hw3 : 0 ≤ QN - 1 := by have := Hq1.out; omega
            clear hend hqr hqr2 HPq hQ1 hR1 hY hD hPP
            go_wp2_with fail
            go_meet
            exact ⟨congrArg (Value.int IntKind.u64) HE.out, rfl⟩
          · have hbr' : RN + Y1 < 4294967296 := by omega
            have hw : Hid (RN + Y1 = ((r + y1 : Nat) : Int)) := by show _ = _; omega
            have hw2 : Hid (QN - 1 = ((q - 1 : Nat) : Int)) := by show _ = _; have := Hq1.out; omega
            have hw3 : 0 ≤ QN - 1 := by have := Hq1.out; omega
            clear hbr hQ1 hR1 hY hD hPP hqr HPq
            go_wp2_with fail
            go_round
            case rel => exact ⟨q - 1, r + y1, QN - 1, RN + Y1, by go_num, by go_num, hw2, hw, hqr2, show Hid _ from (by show _ ≤ _; have := Hq1.out; omega), by omega, by omega, by omega, by omega⟩
            case measure => simp [intOf]; omega
      · have hQ1 := hQN.out
        have hR1 := hRN.out
        have hD := HD1.out
        have hPP := HPI.out
        have hA : q < 4294967296 := by omega
        have ht : P ≤ 4294967296 * r + d1 := by omega
        have hend : QN = Q1 := by
          have h1 := dg_stop (d := d1) hypos.out hqr.out (by rw [HPq.out]; exact ht)
          rw [HQ1.out] at h1
          have := HQ1I.out
          have := hle.out
          omega
        have HE := Lib.hid hend
        replace bP := bP hA
        replace bP : PI ≤ 18446744065119617025 := by omega
        have bP0 : 0 ≤ PI := by omega
        replace ht : PI ≤ 4294967296 * RN + D1 := by omega
        replace hA : QN < 4294967296 := by omega
        clear hend hle hqr HPq hgo hQ1 hR1 hD hPP
        go_wp2_with fail
        go_meet
        exact ⟨by rw [HE.out], rfl⟩
  case rest =>
    obtain ⟨rfl, rfl⟩ := hcut
    obtain ⟨v, hv⟩ : ∃ v, (u * W + d1) % (y1 * W + y0) = v := ⟨_, rfl⟩
    have hvy : v < y1 * W + y0 := by rw [← hv]; exact Nat.mod_lt _ hypos.out
    have hdm : u * W + d1 = q1 * (y1 * W + y0) + v := by
      have := Nat.div_add_mod (u * W + d1) (y1 * W + y0)
      rw [HQ1.out, hv, Nat.mul_comm] at this
      exact this.symm
    obtain ⟨V, hV⟩ : ∃ V : Int, V = (v : Int) := ⟨_, rfl⟩
    have gv0 : 0 ≤ V := by omega
    have gv1 : V < YS := by have := HYS.out; omega
    have g1 : IntKind.u64.wrap (IntKind.u64.wrap (IntKind.u64.wrap (U * 4294967296) + D1) - IntKind.u64.wrap (Q1 * YS)) = V := by
      rw [HU.out, HD1.out, HQ1I.out, HYS.out, hV]
      exact wrap_rem hdm (show v < 18446744073709551616 by omega)
    have HV := Lib.hid hv
    have HDM := Lib.hid hdm
    have HVI := Lib.hid hV
    clear hv hdm hV hvy
    obtain ⟨q0s, hq0⟩ : ∃ q0s, (v * W + d0) / (y1 * W + y0) = q0s := ⟨_, rfl⟩
    have HZ1 := Lib.hid hq0
    have hq0b : q0s < 4294967296 := by rw [← hq0]; exact dg_lt (show d0 < W by have := HD0.out; unfold W; omega) (by have := HVI.out; have := HYS.out; omega)
    clear hq0
    obtain ⟨Q0S, hQ0S⟩ : ∃ Q0S : Int, Q0S = (q0s : Int) := ⟨_, rfl⟩
    have c1 : 0 ≤ Q0S := by omega
    have c2 : Q0S < 4294967296 := by omega
    have HZ1I := Lib.hid hQ0S
    clear hQ0S hq0b
    obtain ⟨QB, hQB⟩ : ∃ QB, V / Y1 = QB := ⟨_, rfl⟩
    obtain ⟨PB, hPB⟩ : ∃ PB, QB * Y1 = PB := ⟨_, rfl⟩
    have k0 : 0 ≤ QB := by rw [← hQB]; exact Int.ediv_nonneg gv0 (by omega)
    have hdm : V = QB * Y1 + V % Y1 := by rw [← hQB]; have := Int.mul_ediv_add_emod V Y1; rw [Int.mul_comm] at this; omega
    have km1 : 0 ≤ V % Y1 := Int.emod_nonneg _ (by omega)
    have km2 : V % Y1 < Y1 := Int.emod_lt_of_pos _ (by omega)
    rw [hPB] at hdm
    generalize V % Y1 = RB at *
    have hPV : PB ≤ V := by omega
    have hPB0 : 0 ≤ PB := by rw [← hPB]; exact Int.mul_nonneg k0 (by omega)
    have hQBu : QB ≤ 4294967297 := by
      have hh : V < Y1 * 4294967298 := by have := HYS.out; have := HY1.out; have := HY0.out; unfold W at this; omega
      have h5 := Int.ediv_lt_of_lt_mul (by omega) hh
      first | (rw [hQB] at h5; omega) | (rw [Int.mul_comm] at hh; have h6 := Int.ediv_lt_of_lt_mul (by omega) hh; rw [hQB] at h6; omega)
    obtain ⟨qb, hqb⟩ : ∃ qb : Nat, QB = (qb : Int) := ⟨QB.toNat, by omega⟩
    obtain ⟨rb, hrb⟩ : ∃ rb : Nat, RB = (rb : Int) := ⟨RB.toNat, by omega⟩
    have HQB : Hid (qb * y1 + rb = v) := by
      show _ = _
      have h1 := HY1.out; have h2 := HVI.out
      rw [← hPB, hqb, hrb, h1, h2] at hdm
      have : ((qb * y1 + rb : Nat) : Int) = (v : Int) := by rw [Int.natCast_add, Int.natCast_mul]; exact hdm.symm
      exact Int.ofNat.inj this
    have hle2 : Hid (q0s ≤ qb) := by
      show _ ≤ _
      have h3 : v / y1 = qb := by
        have := hQB; rw [HVI.out, HY1.out, hqb] at this
        exact Int.ofNat.inj ((Int.natCast_ediv ..).trans this)
      rw [← HZ1.out, ← h3]
      exact dg_ge (by decide) (by have := HY1.out; omega) (show d0 < W by have := HD0.out; unfold W; omega)
    have g2 := hQB
    have g3 := hPB
    have n2 : Hid (V - PB = RB) := by show _ = _; omega
    have Hqb := Lib.hid hqb
    have Hrb := Lib.hid hrb
    have HQBe := Lib.hid hQB
    clear hqb hrb hQB hPB hdm e1 e2 e3 e4 e5 e6 e7 e8 e9
    go_upto_block 2 with (fail)
    rw [n2.out]
    go_cut [18, 16] (fun a _ wx => a = .int .u64 Q0S ∧ w = wx)
    case first =>
      clear f1 f2 f3 f4 g1 g2 g3
      go_wp2_with fail
      go_loop [18, 16] (fun a b => ∃ (q r : Nat) (QN RN : Int), a = .int .u64 QN ∧ b = .int .u64 RN ∧ Hid (QN = (q : Int)) ∧ Hid (RN = (r : Int)) ∧ Hid (q * y1 + r = v) ∧ Hid (q0s ≤ q) ∧ 0 ≤ QN ∧ QN ≤ 4294967297 ∧ 0 ≤ RN ∧ RN < 4294967296) (fun a _ => (intOf a).toNat)
      case atStart => exact ⟨qb, rb, QB, RB, congrArg (Value.int IntKind.u64) HQBe.out, rfl, Hqb, Hrb, HQB, hle2, k0, hQBu, km1, by omega⟩
      case round =>
        clear HQB hle2 Hqb Hrb
        obtain ⟨q, r, QN, RN, rfl, rfl, hQN, hRN, hqr, hle, hq0, hub, hr0, hrb⟩ := hrel
        obtain ⟨P, hP⟩ : ∃ P, q * y0 = P := ⟨_, rfl⟩
        obtain ⟨PI, hPI⟩ : ∃ PI : Int, PI = (P : Int) := ⟨_, rfl⟩
        have eP : QN * Y0 = PI := by rw [hQN.out, HY0.out, hPI, ← hP]; exact (Int.natCast_mul ..).symm
        have bP : q < 4294967296 → P ≤ 18446744065119617025 := fun h => by rw [← hP]; exact Nat.mul_le_mul (show q ≤ 4294967295 by omega) (show y0 ≤ 4294967295 by have := HY0.out; omega)
        have HPq := Lib.hid hP
        have HPI := Lib.hid hPI
        clear hP hPI
        by_cases hgo : 4294967296 ≤ q ∨ (q < 4294967296 ∧ 4294967296 * r + d0 < P)
        · have hq0s : q0s + 1 ≤ q := by
            rcases hgo with h | ⟨_, h⟩
            · have := HZ1I.out; omega
            · rw [← HZ1.out]; exact dg_dec hqr.out (by rw [HPq.out]; exact h)
          have hqr2 : Hid ((q - 1) * y1 + (r + y1) = v) := by
            show _ = _
            obtain ⟨q', rfl⟩ : ∃ q', q = q' + 1 := ⟨q - 1, by omega⟩
            have := hqr.out
            rw [Nat.add_mul, Nat.one_mul] at this
            rw [Nat.add_sub_cancel]; omega
          have Hq0s := Lib.hid hq0s
          clear hq0s hle
          have hQ1 := hQN.out
          have hR1 := hRN.out
          have hY := HY1.out
          have hD := HD0.out
          have hPP := HPI.out
          rcases hgo with hA | ⟨hA, ht⟩
          rotate_left
          replace bP := bP hA
          replace bP : PI ≤ 18446744065119617025 := by omega
          have bP0 : 0 ≤ PI := by omega
          replace hA : QN < 4294967296 := by omega
          replace ht : 4294967296 * RN + D0 < PI := by omega
          rotate_left
          clear bP eP
          replace hA : (4294967296 : Int) ≤ QN := by omega
          all_goals
            by_cases hbr : (4294967296 : Int) ≤ RN + Y1
            · have hend : QN - 1 = Q0S := by
                have h1 := dg_stop (d := d0) hypos.out hqr2.out (dg_stop2 (show W ≤ r + y1 by unfold W; omega) (show q - 1 ≤ W by unfold W; omega) (show y0 < W by have := HY0.out; unfold W; omega))
                rw [HZ1.out] at h1
                have := HZ1I.out
                have := Hq0s.out
                omega
              have HE := Lib.hid hend
              have hw3 : 0 ≤ QN - 1 := by have := Hq0s.out; omega
              clear hend hqr hqr2 HPq hQ1 hR1 hY hD hPP
              go_wp2_with fail
              go_meet
              exact ⟨congrArg (Value.int IntKind.u64) HE.out, rfl⟩
            · have hbr' : RN + Y1 < 4294967296 := by omega
              have hw : Hid (RN + Y1 = ((r + y1 : Nat) : Int)) := by show _ = _; omega
              have hw2 : Hid (QN - 1 = ((q - 1 : Nat) : Int)) := by show _ = _; have := Hq0s.out; omega
              have hw3 : 0 ≤ QN - 1 := by have := Hq0s.out; omega
              clear hbr hQ1 hR1 hY hD hPP hqr HPq
              go_wp2_with fail
              go_round
              case rel => exact ⟨q - 1, r + y1, QN - 1, RN + Y1, by go_num, by go_num, hw2, hw, hqr2, show Hid _ from (by show _ ≤ _; have := Hq0s.out; omega), by omega, by omega, by omega, by omega⟩
              case measure => simp [intOf]; omega
        · have hQ1 := hQN.out
          have hR1 := hRN.out
          have hD := HD0.out
          have hPP := HPI.out
          have hA : q < 4294967296 := by omega
          have ht : P ≤ 4294967296 * r + d0 := by omega
          have hend : QN = Q0S := by
            have h1 := dg_stop (d := d0) hypos.out hqr.out (by rw [HPq.out]; exact ht)
            rw [HZ1.out] at h1
            have := HZ1I.out
            have := hle.out
            omega
          have HE := Lib.hid hend
          replace bP := bP hA
          replace bP : PI ≤ 18446744065119617025 := by omega
          have bP0 : 0 ≤ PI := by omega
          replace ht : PI ≤ 4294967296 * RN + D0 := by omega
          replace hA : QN < 4294967296 := by omega
          clear hend hle hqr HPq hgo hQ1 hR1 hD hPP
          go_wp2_with fail
          go_meet
          exact ⟨by rw [HE.out], rfl⟩
    case rest =>
      obtain ⟨rfl, rfl⟩ := hcut
      go_wp2_with fail
      go_ret2
      refine ⟨?_, 0, rfl⟩
      show Ending.returned (.tuple #[.int .u64 (Q1 * 4294967296 + Q0S), .int .u64 (IntKind.u64.wrap (IntKind.u64.wrap (IntKind.u64.wrap (V * 4294967296) + D0) - IntKind.u64.wrap (Q0S * YS)) / 2 ^ s)]) = _
      have hd2 : v * W + d0 = q0s * (y1 * W + y0) + (v * W + d0) % (y1 * W + y0) := by
        have := Nat.div_add_mod (v * W + d0) (y1 * W + y0)
        rw [HZ1.out, Nat.mul_comm] at this
        exact this.symm
      obtain ⟨a1, a2⟩ := dived_end HDM.out hd2 HN.out HY.out (by omega)
      have hr2 : (v * W + d0) % (y1 * W + y0) < B := by
        have h1 : (v * W + d0) % (y1 * W + y0) < y1 * W + y0 := Nat.mod_lt _ hypos.out
        have h2 := HYS.out
        show _ < 18446744073709551616
        omega
      rw [HVI.out, HD0.out, HZ1I.out, HYS.out, wrap_rem hd2 hr2, shr_int, HQ1I.out]
      have h3 : ((q1 : Int) * 4294967296 + (q0s : Int)) = ((q1 * W + q0s : Nat) : Int) := by rw [Int.natCast_add, Int.natCast_mul]; rfl
      rw [h3, a1]
      show _ = Ending.returned (.tuple #[.int .u64 (divQ hi lo y : Int), .int .u64 (divR hi lo y : Int)])
      rw [← a2]; rfl
theorem div64_any (hi lo y : Nat) (hl : lo < B) (hy : y < B) (hlt : hi < y) (w : World) :
    Calls Tryz.prog 132 #[.int .u64 (hi : Int), .int .u64 (lo : Int), .int .u64 (y : Int)] w (Dived w hi lo y) := by
  rcases Nat.eq_zero_or_pos hi with h0 | h0
  · subst h0; exact div64_zero lo y hl hy (by omega) w
  · have hL := bitLen_le y hy
    obtain ⟨s1, s2, s3⟩ := bitLen_spec (y + 1) y (by omega) (by omega) (by rw [← B_pow]; exact hy)
    obtain ⟨s, hs⟩ : ∃ s, s = 64 - Lib.bitLen y := ⟨_, rfl⟩
    have hp : 0 < 2 ^ s := Nat.two_pow_pos s
    have hlen : Lib.bitLen y = 64 - s := by omega
    rw [hlen] at s1 s2 s3
    have hBs := B_split (p := s) (by omega)
    have hysB : y * 2 ^ s < B := by rw [hBs]; exact Nat.mul_lt_mul_of_pos_right s2 hp
    have hysl : 9223372036854775808 ≤ y * 2 ^ s := by
      have : 2 ^ (64 - s - 1) * 2 ^ s ≤ y * 2 ^ s := Nat.mul_le_mul_right _ s1
      rw [← Nat.pow_add, show 64 - s - 1 + s = 63 from by omega] at this
      exact this
    have hhi : hi * 2 ^ s < B := Nat.lt_trans (Nat.mul_lt_mul_of_pos_right hlt hp) hysB
    have hlo : lo / 2 ^ (64 - s) < 2 ^ s := shr_lt hl (by omega)
    have hu : hi * 2 ^ s + lo / 2 ^ (64 - s) < y * 2 ^ s := by
      have : (hi + 1) * 2 ^ s ≤ y * 2 ^ s := Nat.mul_le_mul_right _ hlt
      rw [Nat.add_mul, Nat.one_mul] at this; omega
    have hysB : y * 2 ^ s < 18446744073709551616 := hysB
    have hls : lo * 2 ^ s % B < 18446744073709551616 := Nat.mod_lt _ B_pos
    have e1 : IntKind.u64.wrap ((y : Int) * 2 ^ s) = ((y * 2 ^ s : Nat) : Int) := by
      rw [← Mul64.wrapN _ hysB, Int.natCast_mul, Int.natCast_pow]; rfl
    have e2 : IntKind.u64.wrap ((lo : Int) * 2 ^ s) = ((lo * 2 ^ s % B : Nat) : Int) := by
      rw [IntKind.wrap_u64, Int.natCast_emod, Int.natCast_mul, Int.natCast_pow]; rfl
    have e3 : bits .or .u64 (IntKind.u64.wrap ((hi : Int) * 2 ^ s)) ((lo : Int) / 2 ^ (64 - s)) = ((hi * 2 ^ s + lo / 2 ^ (64 - s) : Nat) : Int) := by
      have h1 : IntKind.u64.wrap ((hi : Int) * 2 ^ s) = ((hi * 2 ^ s : Nat) : Int) := by
        rw [← Mul64.wrapN _ (show hi * 2 ^ s < 18446744073709551616 from hhi), Int.natCast_mul, Int.natCast_pow]; rfl
      rw [h1, shr_int]
      show bits .or .u64 _ ((lo / 2 ^ (64 - s) : Nat) : Int) = _
      rw [bits_or_u64_nat _ _ hhi (Nat.lt_trans (Nat.lt_of_lt_of_le hlo (by have h5 : 2 ^ s ≤ 2 ^ 63 := Nat.pow_le_pow_right (by omega) (by omega); exact h5)) (by decide)), ← Nat.shiftLeft_eq, Nat.shiftLeft_add_eq_or_of_lt hlo]
    refine div64_core hi lo y s (hi * 2 ^ s + lo / 2 ^ (64 - s)) (y * 2 ^ s / 4294967296) (y * 2 ^ s % 4294967296) (lo * 2 ^ s % B / 4294967296) (lo * 2 ^ s % B % 4294967296) _ _ _ _ _ _ _ w h0 hlt hs hy (by omega) e1 e2 e3
      (Mul64.maskN _ hysB) (Mul64.divN _) (Mul64.maskN _ hls) (Mul64.divN _) ?_ ?_ ?_ ?_ ?_ ?_ ?_ ?_ ?_ ?_ ?_ rfl rfl rfl rfl rfl ?_ ?_ ?_
    all_goals try omega
    · exact Int.natCast_nonneg _
    · refine (show _ = _ from ?_)
      rw [show W = 4294967296 from rfl, Nat.div_add_mod']
    · refine (show _ = _ from ?_)
      rw [show W = 4294967296 from rfl, Nat.div_add_mod']
      have h1 : lo / 2 ^ (64 - s) = lo * 2 ^ s / B := shr_carry (by omega)
      have h2 := Nat.div_add_mod' (lo * 2 ^ s) B
      rw [h1]
      generalize lo * 2 ^ s / B = c at *
      generalize lo * 2 ^ s % B = d at *
      rw [Nat.add_mul, Nat.add_assoc, h2, Nat.add_mul, Nat.mul_right_comm]
    · refine (show _ = _ from ?_)
      rw [show W = 4294967296 from rfl, Nat.div_add_mod']
end Go.Proofs.YthbhgcaemcobeaaGreatDoor
namespace Go.Proofs.YthbhgcaemcobeaaGreatDoor
open Go.RowKit Mat
set_option maxRecDepth 100000
set_option linter.unusedVariables false
set_option linter.unusedSimpArgs false
theorem sub_eq {x y c : Nat} (hx : x < B) (hy : y < B) (hc : c ≤ 1) : subLo x y c + y + c = x + subHi x y c * B := by
  unfold subLo subHi
  split
  · rw [Nat.mod_eq_of_lt (by omega)]; omega
  · have : x + B - y - c = (x - y - c) + B := by omega
    rw [this, Nat.add_mod_right, Nat.mod_eq_of_lt (by omega)]; omega
theorem taken_step (k v x y by' ad br s t : Nat) (hx : x < B) (hbr : br ≤ 1) (h : v + t = s + (br + ad) * B ^ k) :
    v + B ^ k * subLo x (addLo (mulLo y by') ad 0) br + (t + B ^ k * (y * by')) = s + B ^ k * x + (subHi x (addLo (mulLo y by') ad 0) br + (mulHi y by' + addHi (mulLo y by') ad 0)) * B ^ (k + 1) := by
  have e1 := mul_eq y by'
  have e2 : addLo (mulLo y by') ad 0 + B * addHi (mulLo y by') ad 0 = mulLo y by' + ad + 0 := Nat.mod_add_div ..
  have e3 := sub_eq (y := addLo (mulLo y by') ad 0) hx (addLo_lt _ _ _) hbr
  generalize subLo x (addLo (mulLo y by') ad 0) br = z at *
  generalize subHi x (addLo (mulLo y by') ad 0) br = b2 at *
  generalize addLo (mulLo y by') ad 0 = r2 at *
  generalize addHi (mulLo y by') ad 0 = c2 at *
  generalize mulLo y by' = r1 at *
  generalize mulHi y by' = q1 at *
  rw [← e1, Nat.pow_succ]
  generalize B ^ k = T at *
  have e4 : T * z + T * r2 + T * br = T * x + T * (b2 * B) := by rw [← Nat.mul_add, ← Nat.mul_add, e3, Nat.mul_add]
  grind
def TookScaled (w : World) (b off : Nat) (xs ys : List Nat) (by' : Nat) (cs : Array Value) (e : Ending) (w' : World) : Prop :=
  ∃ (br : Nat) (zs : List Nat) (cs' : Array Value), e = .returned (.int .u64 (br : Int)) ∧ Blk w' b cs' ∧ Wrote cs cs' off zs ∧ w.grownBy w' (some b) ∧ zs.length = ys.length + 1 ∧ Dig B zs ∧ br ≤ 1 ∧ val B zs + val B ys * by' = val B xs + br * B ^ (ys.length + 1)
set_option maxHeartbeats 2000000 in
theorem takeScaled_any (w : World) (b off n cap : Nat) (xs : List Nat) (cs : Array Value) (sa : Option Addr) (m cap2 : Nat) (ys : List Nat) (by' : Nat) (hn : xs.length = n) (hmm : ys.length = m)
    (hb : Blk w b cs) (hx : At cs off xs) (hs : Rd w sa ys b) (hl : n = m + 1) (hm : n ≤ 1099511627776) (dx : Dig B xs) (dy : Dig B ys) (hby : by' < B) :
    Calls Tryz.prog 151 #[.slice (some ⟨b, off, none⟩) n cap, .slice sa m cap2, .int .u64 (by' : Int)] w (TookScaled w b off xs ys by' cs) := by
  subst hl
  have Hn := Lib.hid hn
  have Hm := Lib.hid hmm
  clear hn hmm
  go_enter Tryz.func151, Tryz.ntmps151
  go_wp2_with fail
  go_loopw [7, 8, 16] (fun c d i wr => ∃ (k ad br : Nat) (zs : List Nat), k ≤ m ∧ i = .int .i64 k ∧ c = .int .u64 ad ∧ d = .int .u64 br ∧ ad < B ∧ br ≤ 1 ∧ Hid (zs.length = k) ∧ Dig B zs ∧ Blk wr b (Put cs off zs) ∧ w.grownBy wr (some b) ∧ Hid (val B zs + val B (ys.take k) * by' = val B (xs.take k) + (br + ad) * B ^ k))
    (fun _ _ i _ => m - (intOf i).toNat)
  case atStart => exact ⟨0, 0, 0, [], Nat.zero_le _, rfl, rfl, rfl, B_pos, Nat.zero_le _, rfl, Dig.nil _, hb, grown_refl _ _, by show _ = _; simp [val]⟩
  case round =>
    obtain ⟨k, ad, br, zs, hk, rfl, rfl, rfl, hc, hbr, hzl, hzd, hbk, hg, hv⟩ := hrel
    by_cases hlt : k < m
    · obtain ⟨x, ex⟩ : ∃ x, xs[k]'(by rw [Hn.out]; omega) = x := ⟨_, rfl⟩
      obtain ⟨y, ey⟩ : ∃ y, ys[k]'(by rw [Hm.out]; omega) = y := ⟨_, rfl⟩
      have hxB : x < B := ex ▸ dx.get k _
      have hyB : y < B := ey ▸ dy.get k _
      obtain ⟨b2, off2, cs2, rfl, hne, h2, hy⟩ := hs.get k (by rw [Hm.out]; omega)
      have cx : wr.cell? ⟨b, off + k, none⟩ = some (.int .u64 (x : Int)) := by
        rw [hbk.cell, Put_out _ _ _ _ (by rw [hzl.out]; omega), hx k (by rw [Hn.out]; omega), ex]
      have cy : wr.cell? ⟨b2, off2 + k, none⟩ = some (.int .u64 (y : Int)) := by
        rw [(h2.kept hg (by simpa using hne)).cell, hy k (by rw [Hm.out]; omega), ey]
      have fx : wr.frozen? ⟨b, off + k, none⟩ = false := hbk.frozen _
      have EX := Lib.hid ex
      have EY := Lib.hid ey
      clear ex ey
      have ha1 : ∀ w, (callFunc 143 #[.int .u64 (mulLo y by' : Int), .int .u64 (ad : Int), .int .u64 0]).run Tryz.prog w = .ok (.value (.tuple #[.int .u64 (addLo (mulLo y by') ad 0 : Int), .int .u64 (addHi (mulLo y by') ad 0 : Int)])) w := fun w => add64 _ _ 0 (Nat.zero_le _) w
      have ha2 := fun w => sub64 x (addLo (mulLo y by') ad 0) br hbr w
      obtain ⟨b1, _⟩ := muladd_bd (x := 0) B_pos hyB hby hc
      have b2' := b1
      have b1 : mulHi y by' + addHi (mulLo y by') ad 0 < 18446744073709551616 := b1
      go_wp2_with (go_at_call 142; refine (mul64_any y by' hyB hby _).mono ?_; rintro e w' ⟨rfl, rfl⟩)
      clear ha1 ha2 cx cy fx
      go_roundw
      case rel =>
        refine ⟨k + 1, mulHi y by' + addHi (mulLo y by') ad 0, subHi x (addLo (mulLo y by') ad 0) br, zs ++ [subLo x (addLo (mulLo y by') ad 0) br], by omega, by go_num, by go_num, rfl, b2', subHi_le _ _ _, ?_, hzd.snoc (subLo_lt _ _ _), ?_, grown_set hg _ _, ?_⟩
        · show _ = _; rw [List.length_append, hzl.out]; rfl
        · rw [Put_snoc, hzl.out]; exact hbk.setCell _ _
        · show _ = _
          rw [val_snoc, hzl.out, val_take_succ B xs k (by rw [Hn.out]; omega), val_take_succ B ys k (by rw [Hm.out]; omega), EX.out, EY.out, Nat.add_mul (val B (ys.take k)), Nat.mul_assoc (B ^ k)]
          exact taken_step k _ x y by' ad br _ _ hxB hbr hv.out
      case measure => simp [intOf]; omega
    · obtain rfl : k = m := by omega
      obtain ⟨x, ex⟩ : ∃ x, xs[k]'(by rw [Hn.out]; omega) = x := ⟨_, rfl⟩
      have hxB : x < B := ex ▸ dx.get k _
      have cx : wr.cell? ⟨b, off + k, none⟩ = some (.int .u64 (x : Int)) := by
        rw [hbk.cell, Put_out _ _ _ _ (by rw [hzl.out]; omega), hx k (by rw [Hn.out]; omega), ex]
      have fx : wr.frozen? ⟨b, off + k, none⟩ = false := hbk.frozen _
      have hsz : off + (k + 1) ≤ cs.size := by
        rcases hx.le with h | h
        · exfalso; have := Hn.out; rw [h] at this; simp at this
        · rw [Hn.out] at h; omega
      have HF : Hid (TookScaled w b off xs ys by' cs (.returned (.int .u64 (subHi x ad br : Int))) (wr.setCell ⟨b, off + k, none⟩ (.int .u64 (subLo x ad br : Int)))) := by
        have hb2 := hbk.setCell (off + k) (.int .u64 (subLo x ad br : Int))
        have hp : (Put cs off zs).setIfInBounds (off + k) (.int .u64 (subLo x ad br : Int)) = Put cs off (zs ++ [subLo x ad br]) := by rw [Put_snoc, hzl.out]
        rw [hp] at hb2
        have hlen : (zs ++ [subLo x ad br]).length = k + 1 := by rw [List.length_append, hzl.out]; rfl
        refine ⟨_, zs ++ [subLo x ad br], _, rfl, hb2, ⟨size_Put _ _ _, fun j hj => Put_out _ _ _ _ hj, Put_in _ _ _ (by rw [hlen]; exact hsz)⟩, grown_set hg _ _, by rw [hlen, Hm.out], hzd.snoc (subLo_lt _ _ _), subHi_le _ _ _, ?_⟩
        have h1 := hv.out
        rw [← Hm.out, List.take_length, Hm.out] at h1
        have h2 : val B xs = val B (xs.take k) + B ^ k * x := by
          have := val_take_succ B xs k (by rw [Hn.out]; omega)
          rw [ex, List.take_of_length_le (by rw [Hn.out]; omega)] at this; exact this
        have h3 := sub_eq hxB hc hbr
        rw [val_snoc, hzl.out, Hm.out, h2, Nat.pow_succ]
        generalize subLo x ad br = z at *
        generalize subHi x ad br = b3 at *
        generalize B ^ k = T at *
        have e4 : T * z + T * ad + T * br = T * x + T * (b3 * B) := by rw [← Nat.mul_add, ← Nat.mul_add, h3, Nat.mul_add]
        clear ex
        grind
      have ha := fun w => sub64 x ad br hbr w
      clear hbk hg hv hzl hzd ex
      go_wp2_with fail
      go_ret
      exact HF
end Go.Proofs.YthbhgcaemcobeaaGreatDoor
namespace Go.Proofs.YthbhgcaemcobeaaGreatDoor
open Go.RowKit Mat
set_option maxRecDepth 100000
set_option linter.unusedVariables false
set_option linter.unusedSimpArgs false
theorem get_getD (l : List Nat) (i : Nat) (h : i < l.length) : l[i] = l.getD i 0 := by rw [List.getD_eq_getElem?_getD, List.getElem?_eq_getElem h]; rfl
theorem val_top3 {xs : List Nat} (dx : Dig B xs) (m : Nat) (hl : xs.length = m + 3) : val B xs < ((xs.getD (m + 2) 0 * B + xs.getD (m + 1) 0) * B + xs.getD m 0 + 1) * B ^ m := by
  have h1 := val_take_succD B xs (m + 2) (by omega)
  have h2 := val_take_succD B xs (m + 1) (by omega)
  have h3 := val_take_succD B xs m (by omega)
  have h4 := val_lt B (xs.take m) (dx.take m)
  rw [List.length_take, Nat.min_eq_left (by omega)] at h4
  rw [List.take_of_length_le (by omega)] at h1
  generalize xs.getD (m + 2) 0 = t at *
  generalize xs.getD (m + 1) 0 = n at *
  generalize xs.getD m 0 = h at *
  rw [h2, h3] at h1
  rw [h1]
  simp only [Nat.pow_succ]
  generalize B ^ m = T at *
  generalize val B (xs.take m) = v at *
  have : ((t * B + n) * B + h + 1) * T = T + T * h + T * B * n + T * B * B * t := by grind
  rw [this]
  clear this h1 h2 h3
  generalize T * h = a at *
  generalize T * B * n = b at *
  generalize T * B * B * t = c at *
  omega
theorem val_top2 {xs : List Nat} (m : Nat) (hl : xs.length = m + 2) : (xs.getD (m + 1) 0 * B + xs.getD m 0) * B ^ m ≤ val B xs := by
  have h2 := val_take_succD B xs (m + 1) (by omega)
  have h3 := val_take_succD B xs m (by omega)
  rw [List.take_of_length_le (by omega)] at h2
  generalize xs.getD (m + 1) 0 = n at *
  generalize xs.getD m 0 = h at *
  rw [h2, h3]
  simp only [Nat.pow_succ]
  generalize B ^ m = T at *
  have : (n * B + h) * T = T * h + T * B * n := by grind
  rw [this]; omega
theorem guess_first {u v t n h v1 v0 q l m : Nat} (hu : u < ((t * B + n) * B + h + 1) * B ^ m) (hv : (v1 * B + v0) * B ^ m ≤ v) (hh : h < B) (hq : q * v1 + l = t * B + n) (hl : l < v1) : u < (q + 1) * v := by
  have h1 : (q + 1) * ((v1 * B + v0) * B ^ m) ≤ (q + 1) * v := Nat.mul_le_mul_left _ hv
  have h2 : t * B + n + 1 ≤ (q + 1) * v1 := by rw [Nat.add_mul, Nat.one_mul]; omega
  have h3 : (t * B + n + 1) * B ≤ (q + 1) * v1 * B := Nat.mul_le_mul_right _ h2
  have h4 : (t * B + n) * B + h + 1 ≤ (q + 1) * (v1 * B + v0) := by
    have : (q + 1) * (v1 * B + v0) = (q + 1) * v1 * B + (q + 1) * v0 := by grind
    rw [Nat.add_mul (t * B + n), Nat.one_mul] at h3
    omega
  have h5 := Nat.mul_le_mul_right (B ^ m) h4
  rw [Nat.mul_assoc (q + 1)] at h5
  omega
theorem guess_next {u v t n h v1 v0 q l m : Nat} (hu : u < ((t * B + n) * B + h + 1) * B ^ m) (hv : (v1 * B + v0) * B ^ m ≤ v) (hq : q * v1 + l = t * B + n) (ht : l * B + h < q * v0) : u < q * v := by
  have h1 : q * ((v1 * B + v0) * B ^ m) ≤ q * v := Nat.mul_le_mul_left _ hv
  have h4 : (t * B + n) * B + h + 1 ≤ q * (v1 * B + v0) := by
    have e1 : q * (v1 * B + v0) = q * v1 * B + q * v0 := by grind
    have e2 : (t * B + n) * B = q * v1 * B + l * B := by rw [← hq, Nat.add_mul]
    omega
  have h5 := Nat.mul_le_mul_right (B ^ m) h4
  rw [Nat.mul_assoc q] at h5
  omega
theorem words_lt {h lw l t p : Nat} (hp : lw + B * h = p) (hlw : lw < B) (ht : t < B) : (l < h ∨ (h = l ∧ t < lw)) → l * B + t < p := by
  rintro (h1 | ⟨rfl, h1⟩)
  · have : B * (l + 1) ≤ B * h := Nat.mul_le_mul_left _ h1
    rw [Nat.mul_add, Nat.mul_one] at this
    rw [Nat.mul_comm l]; omega
  · rw [Nat.mul_comm h]; omega
def Guessed (w : World) (u v : Nat) (e : Ending) (w' : World) : Prop := ∃ q : Nat, e = .returned (.int .u64 (q : Int)) ∧ q < B ∧ u < (q + 1) * v ∧ w.grownBy w' none
set_option maxHeartbeats 4000000 in
theorem guess_any (w : World) (sx sy : Option Addr) (n cap cap2 m : Nat) (xs ys : List Nat) (hn : xs.length = n + 1) (hm : ys.length = n) (hnm : n = m + 2) (hx : Rdo w sx xs) (hy : Rdo w sy ys) (dx : Dig B xs) (dy : Dig B ys) (bn : n ≤ 1099511627776)
    (hlt : val B xs < val B ys * B) :
    Calls Tryz.prog 150 #[.slice sx (n + 1) cap, .slice sy n cap2] w (Guessed w (val B xs) (val B ys)) := by
  subst hnm
  obtain ⟨bb1, o1, rfl, cx⟩ := hx.cell (by omega)
  obtain ⟨bb2, o2, rfl, cy⟩ := hy.cell (by omega)
  have hu := val_top3 dx m hn
  have hv := val_top2 m hm
  have c1 := cx (m + 2) (by omega)
  have c2 := cx (m + 1) (by omega)
  have c3 := cx m (by omega)
  have d1 := cy (m + 1) (by omega)
  have d0 := cy m (by omega)
  have g1 : xs[m + 2]'(by omega) = xs.getD (m + 2) 0 := get_getD _ _ (by omega)
  have g2 : xs[m + 1]'(by omega) = xs.getD (m + 1) 0 := get_getD _ _ (by omega)
  have g3 : xs[m]'(by omega) = xs.getD m 0 := get_getD _ _ (by omega)
  have g4 : ys[m + 1]'(by omega) = ys.getD (m + 1) 0 := get_getD _ _ (by omega)
  have g5 : ys[m]'(by omega) = ys.getD m 0 := get_getD _ _ (by omega)
  rw [g1] at c1
  rw [g2] at c2
  rw [g3] at c3
  rw [g4] at d1
  rw [g5] at d0
  have b1 := dx.getD B_pos (m + 2)
  have b2 := dx.getD B_pos (m + 1)
  have b3 := dx.getD B_pos m
  have b4 := dy.getD B_pos (m + 1)
  have b5 := dy.getD B_pos m
  clear g1 g2 g3 g4 g5 cx cy hx hy dx dy
  generalize xs.getD (m + 2) 0 = t at *
  generalize xs.getD (m + 1) 0 = nx at *
  generalize xs.getD m 0 = h3 at *
  generalize ys.getD (m + 1) 0 = v1 at *
  generalize ys.getD m 0 = v0 at *
  have HU := Lib.hid hu
  have HV := Lib.hid hv
  have HL := Lib.hid hlt
  clear hu hv hlt hn hm
  by_cases hT : v1 ≤ t
  · have HF : Hid (∀ w', w.grownBy w' none → Guessed w (val B xs) (val B ys) (.returned (.int .u64 18446744073709551615)) w') := by
      intro w' hg
      refine ⟨18446744073709551615, rfl, by decide, ?_, hg⟩
      have := HL.out
      rwa [Nat.mul_comm] at this
    have f1 : decide (v1 ≤ t) = true := decide_eq_true hT
    go_enter Tryz.func150, Tryz.ntmps150
    go_wp2_with fail
    go_quiet (fail)
    go_wp2_with fail
    go_ret
    exact HF.out _ (grown_drewN _ _ _)
  · have f1 : decide (v1 ≤ t) = false := decide_eq_false hT
    go_enter Tryz.func150, Tryz.ntmps150
    go_wp2_with fail
    go_quiet (fail)
    go_wp2_with fail
    refine (div64_any t nx v1 b2 b4 (by omega) _).mono ?_
    rintro e w' ⟨rfl, q, rfl⟩
    have hq1 : divQ t nx v1 * v1 + divR t nx v1 = t * B + nx := by unfold divQ divR; exact Nat.div_add_mod' ..
    have hr1 : divR t nx v1 < v1 := Nat.mod_lt _ (by omega)
    have hq2 : divQ t nx v1 < B := by
      unfold divQ
      rw [Nat.div_lt_iff_lt_mul (by omega)]
      have h5 : B * (t + 1) ≤ B * v1 := Nat.mul_le_mul_left _ (by omega)
      rw [Nat.mul_add, Nat.mul_comm] at h5
      omega
    have hG := guess_first HU.out HV.out b3 hq1 hr1
    generalize divQ t nx v1 = qa at *
    generalize divR t nx v1 = ra at *
    have HQ1 := Lib.hid hq1
    have HG := Lib.hid hG
    clear hq1 hG
    go_wp2_with (go_at_call 142; refine (mul64_any qa v0 hq2 b5 _).mono ?_; rintro e w' ⟨rfl, rfl⟩)
    have he0 := mul_eq qa v0
    have hl0 := mulLo_lt qa v0
    have HE0 := Lib.hid he0
    clear he0
    generalize mulHi qa v0 = hh at *
    generalize mulLo qa v0 = hw at *
    have hraB : ra < B := Nat.lt_trans hr1 b4
    clear hr1 f1 hT
    go_loop [9, 10, 11, 12] (fun a b c d => ∃ q l h lw : Nat, a = .int .u64 (q : Int) ∧ b = .int .u64 (l : Int) ∧ c = .int .u64 (h : Int) ∧ d = .int .u64 (lw : Int) ∧ q < B ∧ l < B ∧ lw < B ∧ Hid (lw + B * h = q * v0) ∧ Hid (q * v1 + l = t * B + nx) ∧ Hid (val B xs < (q + 1) * val B ys)) (fun a _ _ _ => (intOf a).toNat)
    case atStart => exact ⟨qa, ra, hh, hw, rfl, rfl, rfl, rfl, hq2, hraB, hl0, HE0, HQ1, HG⟩
    case round =>
      clear hq2 hraB hl0 HE0 HQ1 HG
      obtain ⟨q, l, h, lw, rfl, rfl, rfl, rfl, hqB, hlB, hlwB, hp, hq, hg⟩ := hrel
      by_cases hgo : l < h ∨ (h = l ∧ h3 < lw)
      · have hlt := words_lt hp.out hlwB b3 hgo
        have hnext : Hid (val B xs < q * val B ys) := guess_next HU.out HV.out hq.out hlt
        have hq0 : 1 ≤ q := by
          rcases Nat.eq_zero_or_pos q with h0 | h0
          · rw [h0, Nat.zero_mul] at hlt; omega
          · exact h0
        obtain ⟨q, rfl⟩ : ∃ q', q = q' + 1 := ⟨q - 1, by omega⟩
        have HQ2 : Hid (q * v1 + (l + v1) = t * B + nx) := by
          show _ = _
          have := hq.out
          rw [Nat.add_mul, Nat.one_mul] at this
          omega
        have hq1B : q < B := by omega
        have hqN : q + 1 < 18446744073709551616 := hqB
        clear hp hq hg hlt hqB hq0
        rcases hgo with hA | ⟨hA, hA2⟩
        rotate_left
        have t1 : ((h : Int) == (l : Int)) = true := beq_iff_eq.2 (by omega)
        have t0 : decide (l < h) = false := decide_eq_false (by omega)
        clear hA
        rotate_left
        all_goals
          by_cases hbr : l + v1 < B
          · have hbr' : l + v1 < 18446744073709551616 := hbr
            have t2 : decide (l + v1 < v1) = false := decide_eq_false (by omega)
            go_wp2_with fail
            refine (mul64_any q v0 hq1B b5 _).mono ?_
            rintro e w' ⟨rfl, rfl⟩
            have he0 := Lib.hid (mul_eq q v0)
            have hl0 := mulLo_lt q v0
            go_wp2_with fail
            go_round
            case rel => exact ⟨q, l + v1, mulHi q v0, mulLo q v0, by go_num, by go_num, rfl, rfl, hq1B, hbr, hl0, he0, HQ2, hnext⟩
            case measure => simp [intOf]
          · obtain ⟨z, hz⟩ : ∃ z, l + v1 = z + 18446744073709551616 := ⟨l + v1 - 18446744073709551616, by unfold B at hbr; omega⟩
            have hzv : z < v1 := by have : l < 18446744073709551616 := hlB; omega
            have nz : IntKind.u64.wrap ((l : Int) + (v1 : Int)) = (z : Int) := by
              rw [IntKind.wrap_u64]; have : v1 < 18446744073709551616 := b4; omega
            have t2 : decide (z < v1) = true := decide_eq_true hzv
            clear hz hbr
            go_wp2_with fail
            go_ret
            exact ⟨q, by go_num, hq1B, hnext.out, grown_drewN _ _ _⟩
      · have t0 : decide (l < h) = false := decide_eq_false (by omega)
        have HF : Hid (∀ w', w.grownBy w' none → Guessed w (val B xs) (val B ys) (.returned (.int .u64 (q : Int))) w') := fun w' hw => ⟨q, rfl, hqB, hg.out, hw⟩
        by_cases he : h = l
        · have t1 : ((h : Int) == (l : Int)) = true := beq_iff_eq.2 (by omega)
          have t3 : decide (h3 < lw) = false := decide_eq_false (by omega)
          clear hgo he hp hq hg
          go_wp2_with fail
          go_ret
          exact HF.out _ (grown_drewN _ _ _)
        · have t1 : ((h : Int) == (l : Int)) = false := beq_eq_false_iff_ne.2 (by omega)
          clear hgo he hp hq hg
          go_wp2_with fail
          go_ret
          exact HF.out _ (grown_drewN _ _ _)
end Go.Proofs.YthbhgcaemcobeaaGreatDoor
