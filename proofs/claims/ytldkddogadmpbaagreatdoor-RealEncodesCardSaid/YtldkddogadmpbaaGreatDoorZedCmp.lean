/- Whole numbers below 0 too: which is greater; texts. -/
import Derived.Test.YtldkddogadmpbaaGreatDoorZedOps
import Derived.Test.YtldkddogadmpbaaGreatDoorRefText
namespace Go.Proofs.YtldkddogadmpbaaGreatDoor
open Go.RowKit Mat
set_option maxRecDepth 100000
set_option linter.unusedVariables false
set_option linter.unusedSimpArgs false

def zcmp (x y : Int) : Int := if x < y then -1 else if x = y then 0 else 1
theorem zcmp_pos {x y : Int} (hx : 0 ≤ x) (hy : 0 ≤ y) : cmpInt x.natAbs y.natAbs = zcmp x y := by
  unfold cmpInt zcmp
  rcases Int.lt_trichotomy x y with h | h | h
  · rw [if_pos (by omega), if_pos h]
  · rw [if_neg (by omega), if_pos (by omega), if_neg (by omega), if_pos h]
  · rw [if_neg (by omega), if_neg (by omega), if_neg (by omega), if_neg (by omega)]
theorem zcmp_neg {x y : Int} (hx : x < 0) (hy : y < 0) : cmpInt y.natAbs x.natAbs = zcmp x y := by
  unfold cmpInt zcmp
  rcases Int.lt_trichotomy x y with h | h | h
  · rw [if_pos (by omega), if_pos h]
  · rw [if_neg (by omega), if_pos (by omega), if_neg (by omega), if_pos h]
  · rw [if_neg (by omega), if_neg (by omega), if_neg (by omega), if_neg (by omega)]
theorem zsign (x : Int) : (x < 0 ∧ x.sign = -1) ∨ (x = 0 ∧ x.sign = 0) ∨ (0 < x ∧ x.sign = 1) := by
  rcases Int.lt_trichotomy x 0 with h | h | h
  · left; exact ⟨h, Int.sign_eq_neg_one_of_neg h⟩
  · right; left; subst h; exact ⟨rfl, rfl⟩
  · right; right; exact ⟨h, Int.sign_eq_one_of_pos h⟩
theorem zcmp_cases (x y : Int) : (x.sign < y.sign ∧ zcmp x y = -1) ∨ (y.sign < x.sign ∧ zcmp x y = 1) ∨ (x.sign = y.sign ∧ x.sign < 0 ∧ x < 0 ∧ y < 0) ∨ (x.sign = y.sign ∧ ¬ x.sign < 0 ∧ 0 ≤ x ∧ 0 ≤ y) := by
  unfold zcmp
  rcases zsign x with ⟨h, e⟩ | ⟨h, e⟩ | ⟨h, e⟩ <;> rcases zsign y with ⟨k, f⟩ | ⟨k, f⟩ | ⟨k, f⟩ <;> rw [e, f]
  · right; right; left; exact ⟨rfl, by omega, h, k⟩
  · left; exact ⟨by omega, if_pos (by omega)⟩
  · left; exact ⟨by omega, if_pos (by omega)⟩
  · right; left; refine ⟨by omega, ?_⟩; rw [if_neg (by omega), if_neg (by omega)]
  · right; right; right; exact ⟨rfl, by omega, by omega, by omega⟩
  · left; exact ⟨by omega, if_pos (by omega)⟩
  · right; left; refine ⟨by omega, ?_⟩; rw [if_neg (by omega), if_neg (by omega)]
  · right; left; refine ⟨by omega, ?_⟩; rw [if_neg (by omega), if_neg (by omega)]
  · right; right; right; exact ⟨rfl, by omega, by omega, by omega⟩

/-- A text of digits is no longer than its number. -/
theorem dec_len {l : List Nat} {m : Nat} (h : DecL l) (hv : dval l < 10 ^ m) (hm : 1 ≤ m) : l.length ≤ m := by
  by_cases h0 : l = [48]
  · rw [h0]; exact hm
  · have ht := dec_top h h0
    have hne : (l.map (· - 48)).reverse ≠ [] := by
      intro e
      have e2 := congrArg List.length e
      simp at e2
      rcases h.2 with h2 | h2
      · rw [e2] at h2; simp at h2
      · exact h2.1 e2
    have h1 := val_ge 10 _ hne ht
    rw [← dig_val h.1, List.length_reverse, List.length_map] at h1
    rcases Nat.lt_or_ge m l.length with h2 | h2
    · have := Nat.pow_le_pow_right (show 0 < 10 by omega) (show m ≤ l.length - 1 by omega)
      omega
    · exact h2
theorem NText_any (w : World) (va : Value) (a K : Nat) (ha : NatV w va a) (hK : K ≤ 1000000) (la : a < B ^ K) :
    Calls Tryz.prog 80 #[va] w (RetText w a) := by
  rcases Nat.eq_zero_or_pos a with h | h
  · subst h; exact Text_zero w va ha
  · exact Text_some w va a K ha h hK la
/-- A whole number's text. -/
def ZTextOf (s : ByteArray) (z : Int) : Prop := ∃ l, DecL l ∧ dval l = z.natAbs ∧ bts s = if z < 0 then 45 :: l else l
set_option maxHeartbeats 4000000 in
theorem ZText_any (w : World) (va : Value) (z : Int) (K : Nat) (ha : IntV w va z) (hK : K ≤ 900000) (la : z.natAbs < B ^ K) :
    Calls Tryz.prog 56 #[va] w (fun e w' => ∃ s, e = .returned (.string s) ∧ ZTextOf s z ∧ w.grownBy w' none) := by
  obtain ⟨sa, xs, za, rfl, hx, hv, hza⟩ := ha
  have hgw0 := World.grownBy_alloc w (.cells #[.slice sa xs.length xs.length, .bool za] 26) none
  have hba := heap_new w (.cells #[.slice sa xs.length xs.length, .bool za] 26) w.heap.size rfl
  have ia : IntV (w.alloc (.cells #[.slice sa xs.length xs.length, .bool za] 26)) (.agg #[.slice sa xs.length xs.length, .bool za]) z := ⟨sa, xs, za, rfl, hx.kept hgw0, hv, hza⟩
  have na : NatV (w.alloc (.cells #[.slice sa xs.length xs.length, .bool za] 26)) (.agg #[.slice sa xs.length xs.length]) z.natAbs := ⟨sa, xs, rfl, hx.kept hgw0, hv⟩
  have Hla := Lib.hid la
  obtain ⟨s1, h1⟩ : ∃ s, z.sign = s := ⟨_, rfl⟩
  have H1 := Lib.hid h1
  have hc : (decide (s1 < 0) = true ∧ z < 0) ∨ (decide (s1 < 0) = false ∧ ¬ z < 0) := by
    rcases zsign z with ⟨h, e⟩ | ⟨h, e⟩ | ⟨h, e⟩
    · left; exact ⟨decide_eq_true (by omega), h⟩
    · right; exact ⟨decide_eq_false (by omega), by omega⟩
    · right; exact ⟨decide_eq_false (by omega), by omega⟩
  clear hx hv la hza h1
  rcases hc with ⟨f1, hz⟩ | ⟨f1, hz⟩
  all_goals (
    have HZ := Lib.hid hz
    clear hz
    go_enter Tryz.func56, Tryz.ntmps56
    obtain ⟨ca0, ca1, fa0, fa1⟩ := box_cells hba
    go_wp2_with fail
    refine (Sign_any _ _ z K ia (by omega) Hla.out).mono ?_
    rintro e w1 ⟨rfl, g1⟩
    rw [H1.out]
    obtain ⟨da0, da1, ga0, ga1⟩ := box_cells (heap_kept g1 hba)
    have na1 := na.kept g1
    have hgw1 := grown_trans hgw0 g1
    clear na ia g1
    go_wp2_with fail
    refine (NText_any w1 _ z.natAbs K na1 (by omega) Hla.out).mono ?_
    rintro e w2 ⟨s, rfl, hd, hdv, g2⟩
    have hgw2 := grown_trans hgw1 g2)
  · have hsz : s.size ≤ 20 * K + 1 := by
      rw [← bts_len]
      refine dec_len hd ?_ (by omega)
      rw [hdv]
      refine Nat.lt_of_lt_of_le Hla.out ?_
      have q1 : B ^ K ≤ (10 ^ 20) ^ K := Nat.pow_le_pow_left (by decide) K
      rw [← Nat.pow_mul] at q1
      exact Nat.le_trans q1 (Nat.pow_le_pow_right (by omega) (by omega))
    have hF : Hid (ZTextOf ({ data := #[45] } ++ s) z) := ⟨bts s, hd, hdv, by rw [bts_app, if_pos HZ.out]; rfl⟩
    clear hd hdv g2 na1
    go_wp2_with fail
    go_ret
    exact ⟨_, rfl, hF.out, hgw2⟩
  · have hF : Hid (ZTextOf s z) := ⟨bts s, hd, hdv, by rw [if_neg (by have := HZ.out; omega)]⟩
    clear hd hdv g2 na1
    go_wp2_with fail
    go_ret
    exact ⟨_, rfl, hF.out, hgw2⟩
end Go.Proofs.YtldkddogadmpbaaGreatDoor
