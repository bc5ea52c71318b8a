/- A limb of a quotient, guessed: never too small. -/
import Derived.Test.YtldkddogadmpbaaGreatDoorTake
namespace Go.Proofs.YtldkddogadmpbaaGreatDoor
open Go.RowKit Mat
set_option maxRecDepth 100000
set_option linter.unusedVariables false
set_option linter.unusedSimpArgs false

theorem get_getD (l : List Nat) (i : Nat) (h : i < l.length) : l[i] = l.getD i 0 := by rw [List.getD_eq_getElem?_getD, List.getElem?_eq_getElem h]; rfl

/-- The upper limbs bound a number from above and from below. -/
theorem val_top3 {xs : List Nat} (dx : Dig B xs) (m : Nat) (hl : xs.length = m + 3) : val B xs < ((xs.getD (m + 2) 0 * B + xs.getD (m + 1) 0) * B + xs.getD m 0 + 1) * B ^ m := by
  have h1 := val_take_succD B xs (m + 2) (by omega)
  have h2 := val_take_succD B xs (m + 1) (by omega)
  have h3 := val_take_succD B xs m (by omega)
  have h4 := val_lt B (xs.take m) (dx.take m)
  rw [List.length_take, Nat.min_eq_left (by omega)] at h4
  rw [List.take_of_length_le (by omega)] at h1
  generalize xs.getD (m + 2) 0 = t at *
  generalize xs.getD (m + 1) 0 = n at *
  generalize xs.getD m 0 = h at *
  rw [h2, h3] at h1
  rw [h1]
  simp only [Nat.pow_succ]
  generalize B ^ m = T at *
  generalize val B (xs.take m) = v at *
  have : ((t * B + n) * B + h + 1) * T = T + T * h + T * B * n + T * B * B * t := by grind
  rw [this]
  clear this h1 h2 h3
  generalize T * h = a at *
  generalize T * B * n = b at *
  generalize T * B * B * t = c at *
  omega
theorem val_top2 {xs : List Nat} (m : Nat) (hl : xs.length = m + 2) : (xs.getD (m + 1) 0 * B + xs.getD m 0) * B ^ m ≤ val B xs := by
  have h2 := val_take_succD B xs (m + 1) (by omega)
  have h3 := val_take_succD B xs m (by omega)
  rw [List.take_of_length_le (by omega)] at h2
  generalize xs.getD (m + 1) 0 = n at *
  generalize xs.getD m 0 = h at *
  rw [h2, h3]
  simp only [Nat.pow_succ]
  generalize B ^ m = T at *
  have : (n * B + h) * T = T * h + T * B * n := by grind
  rw [this]; omega
theorem guess_first {u v t n h v1 v0 q l m : Nat} (hu : u < ((t * B + n) * B + h + 1) * B ^ m) (hv : (v1 * B + v0) * B ^ m ≤ v) (hh : h < B) (hq : q * v1 + l = t * B + n) (hl : l < v1) : u < (q + 1) * v := by
  have h1 : (q + 1) * ((v1 * B + v0) * B ^ m) ≤ (q + 1) * v := Nat.mul_le_mul_left _ hv
  have h2 : t * B + n + 1 ≤ (q + 1) * v1 := by rw [Nat.add_mul, Nat.one_mul]; omega
  have h3 : (t * B + n + 1) * B ≤ (q + 1) * v1 * B := Nat.mul_le_mul_right _ h2
  have h4 : (t * B + n) * B + h + 1 ≤ (q + 1) * (v1 * B + v0) := by
    have : (q + 1) * (v1 * B + v0) = (q + 1) * v1 * B + (q + 1) * v0 := by grind
    rw [Nat.add_mul (t * B + n), Nat.one_mul] at h3
    omega
  have h5 := Nat.mul_le_mul_right (B ^ m) h4
  rw [Nat.mul_assoc (q + 1)] at h5
  omega
theorem guess_next {u v t n h v1 v0 q l m : Nat} (hu : u < ((t * B + n) * B + h + 1) * B ^ m) (hv : (v1 * B + v0) * B ^ m ≤ v) (hq : q * v1 + l = t * B + n) (ht : l * B + h < q * v0) : u < q * v := by
  have h1 : q * ((v1 * B + v0) * B ^ m) ≤ q * v := Nat.mul_le_mul_left _ hv
  have h4 : (t * B + n) * B + h + 1 ≤ q * (v1 * B + v0) := by
    have e1 : q * (v1 * B + v0) = q * v1 * B + q * v0 := by grind
    have e2 : (t * B + n) * B = q * v1 * B + l * B := by rw [← hq, Nat.add_mul]
    omega
  have h5 := Nat.mul_le_mul_right (B ^ m) h4
  rw [Nat.mul_assoc q] at h5
  omega
theorem words_lt {h lw l t p : Nat} (hp : lw + B * h = p) (hlw : lw < B) (ht : t < B) : (l < h ∨ (h = l ∧ t < lw)) → l * B + t < p := by
  rintro (h1 | ⟨rfl, h1⟩)
  · have : B * (l + 1) ≤ B * h := Nat.mul_le_mul_left _ h1
    rw [Nat.mul_add, Nat.mul_one] at this
    rw [Nat.mul_comm l]; omega
  · rw [Nat.mul_comm h]; omega

/-- What guess tells. -/
def Guessed (w : World) (u v : Nat) (e : Ending) (w' : World) : Prop := ∃ q : Nat, e = .returned (.int .u64 (q : Int)) ∧ q < B ∧ u < (q + 1) * v ∧ w.grownBy w' none

set_option maxHeartbeats 4000000 in
theorem guess_any (w : World) (sx sy : Option Addr) (n cap cap2 m : Nat) (xs ys : List Nat) (hn : xs.length = n + 1) (hm : ys.length = n) (hnm : n = m + 2) (hx : Rdo w sx xs) (hy : Rdo w sy ys) (dx : Dig B xs) (dy : Dig B ys) (bn : n ≤ 1099511627776)
    (hlt : val B xs < val B ys * B) :
    Calls Tryz.prog 108 #[.slice sx (n + 1) cap, .slice sy n cap2] w (Guessed w (val B xs) (val B ys)) := by
  subst hnm
  obtain ⟨bb1, o1, rfl, cx⟩ := hx.cell (by omega)
  obtain ⟨bb2, o2, rfl, cy⟩ := hy.cell (by omega)
  have hu := val_top3 dx m hn
  have hv := val_top2 m hm
  have c1 := cx (m + 2) (by omega)
  have c2 := cx (m + 1) (by omega)
  have c3 := cx m (by omega)
  have d1 := cy (m + 1) (by omega)
  have d0 := cy m (by omega)
  have g1 : xs[m + 2]'(by omega) = xs.getD (m + 2) 0 := get_getD _ _ (by omega)
  have g2 : xs[m + 1]'(by omega) = xs.getD (m + 1) 0 := get_getD _ _ (by omega)
  have g3 : xs[m]'(by omega) = xs.getD m 0 := get_getD _ _ (by omega)
  have g4 : ys[m + 1]'(by omega) = ys.getD (m + 1) 0 := get_getD _ _ (by omega)
  have g5 : ys[m]'(by omega) = ys.getD m 0 := get_getD _ _ (by omega)
  rw [g1] at c1
  rw [g2] at c2
  rw [g3] at c3
  rw [g4] at d1
  rw [g5] at d0
  have b1 := dx.getD B_pos (m + 2)
  have b2 := dx.getD B_pos (m + 1)
  have b3 := dx.getD B_pos m
  have b4 := dy.getD B_pos (m + 1)
  have b5 := dy.getD B_pos m
  clear g1 g2 g3 g4 g5 cx cy hx hy dx dy
  generalize xs.getD (m + 2) 0 = t at *
  generalize xs.getD (m + 1) 0 = nx at *
  generalize xs.getD m 0 = h3 at *
  generalize ys.getD (m + 1) 0 = v1 at *
  generalize ys.getD m 0 = v0 at *
  have HU := Lib.hid hu
  have HV := Lib.hid hv
  have HL := Lib.hid hlt
  clear hu hv hlt hn hm
  by_cases hT : v1 ≤ t
  · have HF : Hid (∀ w', w.grownBy w' none → Guessed w (val B xs) (val B ys) (.returned (.int .u64 18446744073709551615)) w') := by
      intro w' hg
      refine ⟨18446744073709551615, rfl, by decide, ?_, hg⟩
      have := HL.out
      rwa [Nat.mul_comm] at this
    have f1 : decide (v1 ≤ t) = true := decide_eq_true hT
    go_enter Tryz.func108, Tryz.ntmps108
    go_wp2_with fail
    go_quiet (fail)
    go_wp2_with fail
    go_ret
    exact HF.out _ (grown_drewN _ _ _)
  · have f1 : decide (v1 ≤ t) = false := decide_eq_false hT
    go_enter Tryz.func108, Tryz.ntmps108
    go_wp2_with fail
    go_quiet (fail)
    go_wp2_with fail
    refine (div64_any t nx v1 b2 b4 (by omega) _).mono ?_
    rintro e w' ⟨rfl, q, rfl⟩
    have hq1 : divQ t nx v1 * v1 + divR t nx v1 = t * B + nx := by unfold divQ divR; exact Nat.div_add_mod' ..
    have hr1 : divR t nx v1 < v1 := Nat.mod_lt _ (by omega)
    have hq2 : divQ t nx v1 < B := by
      unfold divQ
      rw [Nat.div_lt_iff_lt_mul (by omega)]
      have h5 : B * (t + 1) ≤ B * v1 := Nat.mul_le_mul_left _ (by omega)
      rw [Nat.mul_add, Nat.mul_comm] at h5
      omega
    have hG := guess_first HU.out HV.out b3 hq1 hr1
    generalize divQ t nx v1 = qa at *
    generalize divR t nx v1 = ra at *
    have HQ1 := Lib.hid hq1
    have HG := Lib.hid hG
    clear hq1 hG
    go_wp2_with (go_at_call 71; refine (mul64_any qa v0 hq2 b5 _).mono ?_; rintro e w' ⟨rfl, rfl⟩)
    have he0 := mul_eq qa v0
    have hl0 := mulLo_lt qa v0
    have HE0 := Lib.hid he0
    clear he0
    generalize mulHi qa v0 = hh at *
    generalize mulLo qa v0 = hw at *
    have hraB : ra < B := Nat.lt_trans hr1 b4
    clear hr1 f1 hT
    go_loop [9, 10, 11, 12] (fun a b c d => ∃ q l h lw : Nat, a = .int .u64 (q : Int) ∧ b = .int .u64 (l : Int) ∧ c = .int .u64 (h : Int) ∧ d = .int .u64 (lw : Int) ∧ q < B ∧ l < B ∧ lw < B ∧ Hid (lw + B * h = q * v0) ∧ Hid (q * v1 + l = t * B + nx) ∧ Hid (val B xs < (q + 1) * val B ys)) (fun a _ _ _ => (intOf a).toNat)
    case atStart => exact ⟨qa, ra, hh, hw, rfl, rfl, rfl, rfl, hq2, hraB, hl0, HE0, HQ1, HG⟩
    case round =>
      clear hq2 hraB hl0 HE0 HQ1 HG
      obtain ⟨q, l, h, lw, rfl, rfl, rfl, rfl, hqB, hlB, hlwB, hp, hq, hg⟩ := hrel
      by_cases hgo : l < h ∨ (h = l ∧ h3 < lw)
      · have hlt := words_lt hp.out hlwB b3 hgo
        have hnext : Hid (val B xs < q * val B ys) := guess_next HU.out HV.out hq.out hlt
        have hq0 : 1 ≤ q := by
          rcases Nat.eq_zero_or_pos q with h0 | h0
          · rw [h0, Nat.zero_mul] at hlt; omega
          · exact h0
        obtain ⟨q, rfl⟩ : ∃ q', q = q' + 1 := ⟨q - 1, by omega⟩
        have HQ2 : Hid (q * v1 + (l + v1) = t * B + nx) := by
          show _ = _
          have := hq.out
          rw [Nat.add_mul, Nat.one_mul] at this
          omega
        have hq1B : q < B := by omega
        have hqN : q + 1 < 18446744073709551616 := hqB
        clear hp hq hg hlt hqB hq0
        rcases hgo with hA | ⟨hA, hA2⟩
        rotate_left
        have t1 : ((h : Int) == (l : Int)) = true := beq_iff_eq.2 (by omega)
        have t0 : decide (l < h) = false := decide_eq_false (by omega)
        clear hA
        rotate_left
        all_goals
          by_cases hbr : l + v1 < B
          · have hbr' : l + v1 < 18446744073709551616 := hbr
            have t2 : decide (l + v1 < v1) = false := decide_eq_false (by omega)
            go_wp2_with fail
            refine (mul64_any q v0 hq1B b5 _).mono ?_
            rintro e w' ⟨rfl, rfl⟩
            have he0 := Lib.hid (mul_eq q v0)
            have hl0 := mulLo_lt q v0
            go_wp2_with fail
            go_round
            case rel => exact ⟨q, l + v1, mulHi q v0, mulLo q v0, by go_num, by go_num, rfl, rfl, hq1B, hbr, hl0, he0, HQ2, hnext⟩
            case measure => simp [intOf]
          · obtain ⟨z, hz⟩ : ∃ z, l + v1 = z + 18446744073709551616 := ⟨l + v1 - 18446744073709551616, by unfold B at hbr; omega⟩
            have hzv : z < v1 := by have : l < 18446744073709551616 := hlB; omega
            have nz : IntKind.u64.wrap ((l : Int) + (v1 : Int)) = (z : Int) := by
              rw [IntKind.wrap_u64]; have : v1 < 18446744073709551616 := b4; omega
            have t2 : decide (z < v1) = true := decide_eq_true hzv
            clear hz hbr
            go_wp2_with fail
            go_ret
            exact ⟨q, by go_num, hq1B, hnext.out, grown_drewN _ _ _⟩
      · have t0 : decide (l < h) = false := decide_eq_false (by omega)
        have HF : Hid (∀ w', w.grownBy w' none → Guessed w (val B xs) (val B ys) (.returned (.int .u64 (q : Int))) w') := fun w' hw => ⟨q, rfl, hqB, hg.out, hw⟩
        by_cases he : h = l
        · have t1 : ((h : Int) == (l : Int)) = true := beq_iff_eq.2 (by omega)
          have t3 : decide (h3 < lw) = false := decide_eq_false (by omega)
          clear hgo he hp hq hg
          go_wp2_with fail
          go_ret
          exact HF.out _ (grown_drewN _ _ _)
        · have t1 : ((h : Int) == (l : Int)) = false := beq_eq_false_iff_ne.2 (by omega)
          clear hgo he hp hq hg
          go_wp2_with fail
          go_ret
          exact HF.out _ (grown_drewN _ _ _)
end Go.Proofs.YtldkddogadmpbaaGreatDoor
