/- Euclid's steps: what they keep. -/
import Derived.Test.YtljfhiikoimdiaaZLaw
namespace Go.Proofs.Ytljfhiikoimdiaa
open Go.RowKit Mat
set_option maxRecDepth 100000
set_option linter.unusedVariables false
set_option linter.unusedSimpArgs false

theorem abs_sub_mul {X Y : Int} (q : Nat) (h : X * Y ≤ 0) : (X - q * Y).natAbs = X.natAbs + q * Y.natAbs := by
  have e : ((q * Y.natAbs : Nat) : Int) = (q : Int) * (Y.natAbs : Int) := Int.natCast_mul _ _
  obtain ⟨m, hm⟩ : ∃ m : Nat, q * Y.natAbs = m := ⟨_, rfl⟩
  rw [hm] at e ⊢
  rcases Int.lt_trichotomy Y 0 with hy | hy | hy
  · have hx : 0 ≤ X := by
      rcases Int.lt_trichotomy X 0 with hx | hx | hx
      · have := Int.mul_pos_of_neg_of_neg hx hy; omega
      · omega
      · omega
    have ey : (Y.natAbs : Int) = -Y := by omega
    rw [ey, Int.mul_neg] at e
    obtain ⟨t, ht⟩ : ∃ t, (q : Int) * Y = t := ⟨_, rfl⟩
    rw [ht] at e ⊢; omega
  · subst hy
    simp only [Int.mul_zero, Int.natAbs_zero] at e ⊢
    have : (m : Int) = 0 := by simpa using e
    omega
  · have hx : X ≤ 0 := by
      rcases Int.lt_trichotomy X 0 with hx | hx | hx
      · omega
      · omega
      · have := Int.mul_pos hx hy; omega
    have ey : (Y.natAbs : Int) = Y := by omega
    rw [ey] at e
    obtain ⟨t, ht⟩ : ∃ t, (q : Int) * Y = t := ⟨_, rfl⟩
    rw [ht] at e ⊢; omega
theorem side_sub_mul {X Y : Int} (q : Nat) (h : X * Y ≤ 0) : Y * (X - q * Y) ≤ 0 := by
  have h1 : Y * (X - q * Y) = X * Y - (q : Int) * (Y * Y) := by grind
  have h2 : 0 ≤ Y * Y := by
    rcases Int.le_total 0 Y with h | h
    · exact Int.mul_nonneg h h
    · exact Int.mul_nonneg_of_nonpos_of_nonpos h h
  have h3 : 0 ≤ (q : Int) * (Y * Y) := Int.mul_nonneg (by omega) h2
  rw [h1]; omega
/-- What Euclid's steps keep, of the distances a and b: g and next are made of both, by numbers that stay small. -/
def BInv (a b G N : Nat) (X Y P Q : Int) : Prop :=
  (G : Int) = X * a + P * b ∧ (N : Int) = Y * a + Q * b ∧ X.natAbs * N + Y.natAbs * G = b ∧ P.natAbs * N + Q.natAbs * G = a ∧ X * Y ≤ 0 ∧ P * Q ≤ 0 ∧ Nat.gcd G N = Nat.gcd a b ∧ ((X.natAbs ≤ b ∧ P.natAbs ≤ a) ∨ (X.natAbs ≤ 1 ∧ P.natAbs ≤ 1)) ∧ (G = 0 → Y.natAbs ≤ 1 ∧ Q.natAbs ≤ 1)
theorem BInv.start (a b : Nat) : BInv a b a b 1 0 0 1 :=
  ⟨by omega, by omega, by simp, by simp, by simp, by simp, rfl, Or.inr ⟨by decide, by decide⟩, fun _ => ⟨by decide, by decide⟩⟩
theorem step_len {A B1 N G q r b : Nat} (h : A * N + B1 * G = b) (hg : N * q + r = G) : B1 * r + (A + q * B1) * N = b := by
  subst hg; subst h; grind
theorem BInv.step {a b G N : Nat} {X Y P Q : Int} (h : BInv a b G N X Y P Q) (hN : 0 < N) : BInv a b N (G % N) Y (X - (G / N : Nat) * Y) Q (P - (G / N : Nat) * Q) := by
  obtain ⟨h1, h2, h3, h4, h5, h6, h7, h8, h9⟩ := h
  have hdm := Nat.div_add_mod G N
  obtain ⟨q, hq⟩ : ∃ q, G / N = q := ⟨_, rfl⟩
  obtain ⟨r, hr⟩ : ∃ r, G % N = r := ⟨_, rfl⟩
  rw [hq, hr] at hdm
  rw [hq, hr]
  refine ⟨h2, ?_, ?_, ?_, side_sub_mul q h5, side_sub_mul q h6, ?_, ?_, fun h => by omega⟩
  · have e : (r : Int) = (G : Int) - (q : Int) * (N : Int) := by
      have : ((N * q + r : Nat) : Int) = (G : Int) := congrArg _ hdm
      rw [Int.natCast_add, Int.natCast_mul] at this
      have c := Int.mul_comm (N : Int) (q : Int)
      omega
    rw [e, h1, h2]; grind
  · rw [abs_sub_mul q h5]; exact step_len h3 hdm
  · rw [abs_sub_mul q h6]; exact step_len h4 hdm
  · rw [← h7, ← hr, Nat.gcd_comm N, ← Nat.gcd_rec, Nat.gcd_comm]
  · rcases Nat.eq_zero_or_pos G with h0 | h0
    · exact Or.inr (h9 h0)
    · left
      have l1 : Y.natAbs ≤ Y.natAbs * G := Nat.le_mul_of_pos_right _ h0
      have l2 : Q.natAbs ≤ Q.natAbs * G := Nat.le_mul_of_pos_right _ h0
      omega
theorem BInv.bd {a b G N K : Nat} {X Y P Q : Int} (h : BInv a b G N X Y P Q) (hb : b < B ^ K) : X.natAbs < B ^ (K + 1) ∧ Y.natAbs < B ^ (K + 1) := by
  obtain ⟨h1, h2, h3, h4, h5, h6, h7, h8, h9⟩ := h
  have e1 : 1 < B ^ (K + 1) := Nat.one_lt_pow (by omega) (by unfold B; omega)
  have e2 := bw hb (show K ≤ K + 1 by omega)
  have e3 : Y.natAbs ≤ b ∨ Y.natAbs ≤ 1 := by
    rcases Nat.eq_zero_or_pos G with h0 | h0
    · exact Or.inr (h9 h0).1
    · left
      have l1 : Y.natAbs ≤ Y.natAbs * G := Nat.le_mul_of_pos_right _ h0
      omega
  refine ⟨?_, ?_⟩
  · rcases h8 with ⟨h, _⟩ | ⟨h, _⟩ <;> omega
  · rcases e3 with h | h <;> omega
def BGood (x y g u v : Int) : Prop := x * u + y * v = g ∧ ((u.natAbs ≤ y.natAbs ∧ v.natAbs ≤ x.natAbs) ∨ (u.natAbs ≤ 1 ∧ v.natAbs ≤ 1))
theorem mul_sign_abs (x : Int) : x * x.sign = (x.natAbs : Int) := by
  rcases zsign x with ⟨h, e⟩ | ⟨h, e⟩ | ⟨h, e⟩ <;> rw [e] <;> omega
theorem abs_mul_sign_le (X s : Int) (h : -1 ≤ s ∧ s ≤ 1) : (X * s).natAbs ≤ X.natAbs := by
  have hs : s = -1 ∨ s = 0 ∨ s = 1 := by omega
  rcases hs with rfl | rfl | rfl <;> simp
theorem BInv.last {x y : Int} {G : Nat} {X Y P Q : Int} (h : BInv x.natAbs y.natAbs G 0 X Y P Q) :
    (G : Int) = (Nat.gcd x.natAbs y.natAbs : Nat) ∧ (y = 0 → BGood x y G (X * x.sign) 0) ∧ (y ≠ 0 → BGood x y G (X * x.sign) (((G : Int) - x * (X * x.sign)) / y)) := by
  obtain ⟨h1, h2, h3, h4, h5, h6, h7, h8, h9⟩ := h
  have hx : x * (X * x.sign) = X * (x.natAbs : Int) := by rw [← mul_sign_abs]; grind
  have hu := abs_mul_sign_le X x.sign (sign_bd x)
  refine ⟨by rw [← h7, Nat.gcd_zero_right], fun hy => ?_, fun hy => ?_⟩
  · subst hy
    refine ⟨?_, ?_⟩
    · rw [hx, h1]; simp
    · rcases h8 with ⟨a1, a2⟩ | ⟨a1, a2⟩
      · left; exact ⟨Nat.le_trans hu a1, by simp⟩
      · right; exact ⟨Nat.le_trans hu a1, by simp⟩
  · have e : (G : Int) - x * (X * x.sign) = (P * y.sign) * y := by
      rw [hx, h1, ← mul_sign_abs y]; grind
    rw [e, Int.mul_ediv_cancel _ hy]
    have hv := abs_mul_sign_le P y.sign (sign_bd y)
    refine ⟨?_, ?_⟩
    · rw [hx, h1, ← mul_sign_abs y]; grind
    · rcases h8 with ⟨a1, a2⟩ | ⟨a1, a2⟩
      · left; exact ⟨Nat.le_trans hu a1, Nat.le_trans hv a2⟩
      · right; exact ⟨Nat.le_trans hu a1, Nat.le_trans hv a2⟩
end Go.Proofs.Ytljfhiikoimdiaa
