/- What the laws' walks share: bounds, and calls whose answers are let go. -/
import Derived.Test.YtooeonjkpgbdpaaDoorLaw
import Derived.Test.YtooeonjkpgbdpaaDoorSame
import Derived.Test.YtooeonjkpgbdpaaDoorOdd
import Derived.Test.YtooeonjkpgbdpaaDoorRefBits
namespace Go.Proofs.YtooeonjkpgbdpaaDoor
open Go.RowKit Mat
set_option maxRecDepth 100000
set_option linter.unusedVariables false
set_option linter.unusedSimpArgs false

theorem bw {a k n : Nat} (h : a < B ^ k) (hk : k ≤ n) : a < B ^ n := Nat.lt_of_lt_of_le h (Nat.pow_le_pow_right B_pos hk)
theorem badd {a b k : Nat} (h1 : a < B ^ k) (h2 : b < B ^ k) : a + b < B ^ (k + 1) := by
  have : B ^ (k + 1) = B ^ k * B := Nat.pow_succ ..
  have h3 : B ^ k * 2 ≤ B ^ k * B := Nat.mul_le_mul_left _ (by decide)
  omega
theorem bmul {a b k m : Nat} (h1 : a < B ^ k) (h2 : b < B ^ m) : a * b < B ^ (k + m) := by
  rw [Nat.pow_add]; exact Nat.mul_lt_mul'' h1 h2
theorem toD {a k : Nat} (h : a < B ^ k) (hk : k ≤ 200000) : a < D ^ 1000000 := by
  obtain ⟨E, hE⟩ : ∃ E, E = 1000000 := ⟨_, rfl⟩
  rw [← hE]
  refine Nat.lt_of_lt_of_le h ?_
  have h1 : B ^ k ≤ (D ^ 5) ^ k := Nat.pow_le_pow_left (by decide) k
  rw [← Nat.pow_mul] at h1
  exact Nat.le_trans h1 (Nat.pow_le_pow_right D_pos (by omega))
theorem nbB {a k : Nat} (h : a < B ^ k) (hk : k ≤ 1000000) : nb a ≤ 1000000000 := by
  have h1 : B ^ k = 2 ^ (64 * k) := by rw [Nat.pow_mul]; rfl
  rw [h1] at h
  have := nb_le h
  omega
theorem num_bd (s : ByteArray) : num (fewB s 200) < B ^ 11 :=
  Nat.lt_trans (num_lt _ 200 (fewB_size s 200)) (by decide +kernel)
theorem Of_0 (w : World) : Calls Tryd.prog 22 #[.int .u64 0] w (RetNat w 0) := Of_any w 0 (by decide)
theorem Of_1 (w : World) : Calls Tryd.prog 22 #[.int .u64 1] w (RetNat w 1) := Of_any w 1 (by decide)
theorem Root_any (w : World) (va : Value) (a K : Nat) (ha : NatV w va a) (la : a < B ^ K) (hK1 : 1 ≤ K) (hK : K ≤ 536870912) :
    Calls Tryd.prog 39 #[va] w (RetRooted w a) := by
  rcases Nat.eq_zero_or_pos a with h | h
  · subst h; exact Root_zero w va ha
  · exact Root_some w va a K ha h la hK1 hK
theorem root_rest {a r : Nat} (h : IsRoot a r) : a - r * r ≤ r + r := by
  have h2 := h.2
  have e : (r + 1) * (r + 1) = r * r + r + r + 1 := by grind
  omega
theorem cmpInt_le {a b : Nat} (h : a ≤ b) : ¬ (0 : Int) < cmpInt a b := by
  rcases Nat.lt_or_ge a b with h1 | h1
  · rw [cmpInt_lt h1]; decide
  · rw [cmpInt_eq (by omega)]; decide
/-- A call that comes back: of its answer nothing is said. -/
def Back (w : World) (e : Ending) (w' : World) : Prop := (∃ v, e = .returned v) ∧ w.grownBy w' none
theorem Sub_run (w : World) (va vb : Value) (a b K : Nat) (ha : NatV w va a) (hb : NatV w vb b) (hK : K ≤ 1073741824) (la : a < B ^ K) (lb : b < B ^ K) :
    Calls Tryd.prog 29 #[va, vb] w (Back w) := by
  rcases Nat.lt_or_ge a b with h | h
  · refine (Sub_less w va vb a b K ha hb hK la lb h).mono ?_
    rintro e w' ⟨v, rfl, _, hg⟩; exact ⟨⟨_, rfl⟩, hg⟩
  · refine (Sub_some w va vb a b K ha hb hK la h).mono ?_
    rintro e w' ⟨v, rfl, _, hg⟩; exact ⟨⟨_, rfl⟩, hg⟩
theorem Up_run (w : World) (va : Value) (a K : Nat) (k : Int) (ha : NatV w va a) (hK : K ≤ 1073741824) (la : a < B ^ K) :
    Calls Tryd.prog 37 #[va, .int .i64 k] w (Back w) := by
  by_cases h : k < 0 ∨ 65536 < k
  · refine (Up_bad w va a ha k h).mono ?_
    rintro e w' ⟨v, rfl, _, hg⟩; exact ⟨⟨_, rfl⟩, hg⟩
  · obtain ⟨n, rfl⟩ : ∃ n : Nat, k = (n : Int) := ⟨k.toNat, by omega⟩
    refine (Up_some w va a K ha n (by omega) hK la).mono ?_
    rintro e w' ⟨v, rfl, _, hg⟩; exact ⟨⟨_, rfl⟩, hg⟩
theorem Down_run (w : World) (va : Value) (a K : Nat) (k : Int) (ha : NatV w va a) (hK : K ≤ 1073741824) (la : a < B ^ K) :
    Calls Tryd.prog 38 #[va, .int .i64 k] w (Back w) := by
  by_cases h : k < 0 ∨ 65536 < k
  · refine (Down_bad w va a ha k h).mono ?_
    rintro e w' ⟨v, rfl, _, hg⟩; exact ⟨⟨_, rfl⟩, hg⟩
  · obtain ⟨n, rfl⟩ : ∃ n : Nat, k = (n : Int) := ⟨k.toNat, by omega⟩
    refine (Down_some w va a K ha n (by omega) hK la).mono ?_
    rintro e w' ⟨v, rfl, _, hg⟩; exact ⟨⟨_, rfl⟩, hg⟩
theorem Div_run (w : World) (va vb : Value) (a b K : Nat) (ha : NatV w va a) (hb : NatV w vb b) (hK : K ≤ 1073741000) (la : a < B ^ K) (lb : b < B ^ K) :
    Calls Tryd.prog 35 #[va, vb] w (fun e w' => ∃ q n code, q < B ^ K ∧ n < B ^ K ∧ RetNat2E w q n code e w') := by
  rcases Nat.eq_zero_or_pos b with h | h
  · subst h
    refine (Div_zero w va vb a ha hb).mono ?_
    intro e w' h; exact ⟨0, 0, 5, Nat.pow_pos B_pos, Nat.pow_pos B_pos, h⟩
  · refine (Div_some w va vb a b K ha hb hK la lb h).mono ?_
    intro e w' h; exact ⟨a / b, a % b, 0, Nat.lt_of_le_of_lt (Nat.div_le_self _ _) la, Nat.lt_of_le_of_lt (Nat.mod_le _ _) la, h⟩
end Go.Proofs.YtooeonjkpgbdpaaDoor
