/- Whole numbers below 0 too: as an int. -/
import Derived.Test.YtldkddogadmpbaaGreatDoorZedCmp
import Derived.Test.YtldkddogadmpbaaGreatDoorWord
namespace Go.Proofs.YtldkddogadmpbaaGreatDoor
open Go.RowKit Mat
set_option maxRecDepth 100000
set_option linter.unusedVariables false
set_option linter.unusedSimpArgs false

/-- Does an int hold it? -/
def Fits (z : Int) : Prop := -9223372036854775808 ≤ z ∧ z ≤ 9223372036854775807
instance (z : Int) : Decidable (Fits z) := by unfold Fits; infer_instance
def RetSmall (w : World) (z : Int) (e : Ending) (w' : World) : Prop :=
  e = .returned (.tuple #[.int .i64 (if Fits z then z else 0), .bool (decide (Fits z))]) ∧ w.grownBy w' none
theorem ret_small_yes {w w' : World} {z c : Int} (h : Fits z) (hc : c = z) (hg : w.grownBy w' none) : RetSmall w z (.returned (.tuple #[.int .i64 c, .bool true])) w' :=
  ⟨by rw [if_pos h, decide_eq_true h, hc], hg⟩
theorem ret_small_no {w w' : World} {z : Int} (h : ¬ Fits z) (hg : w.grownBy w' none) : RetSmall w z (.returned (.tuple #[.int .i64 0, .bool false])) w' :=
  ⟨by rw [if_neg h, decide_eq_false h], hg⟩

set_option maxHeartbeats 4000000 in
theorem ZSmall_any (w : World) (va : Value) (z : Int) (K : Nat) (ha : IntV w va z) (hK : K ≤ 900000) (la : z.natAbs < B ^ K) :
    Calls Tryz.prog 91 #[va] w (RetSmall w z) := by
  obtain ⟨sa, xs, za, rfl, hx, hv, hza⟩ := ha
  have hgw0 := World.grownBy_alloc w (.cells #[.slice sa xs.length xs.length, .bool za] 26) none
  have hba := heap_new w (.cells #[.slice sa xs.length xs.length, .bool za] 26) w.heap.size rfl
  have ia : IntV (w.alloc (.cells #[.slice sa xs.length xs.length, .bool za] 26)) (.agg #[.slice sa xs.length xs.length, .bool za]) z := ⟨sa, xs, za, rfl, hx.kept hgw0, hv, hza⟩
  have na : NatV (w.alloc (.cells #[.slice sa xs.length xs.length, .bool za] 26)) (.agg #[.slice sa xs.length xs.length]) z.natAbs := ⟨sa, xs, rfl, hx.kept hgw0, hv⟩
  have Hla := Lib.hid la
  obtain ⟨s1, h1⟩ : ∃ s, z.sign = s := ⟨_, rfl⟩
  have H1 := Lib.hid h1
  have hB : B = 18446744073709551616 := rfl
  have hc : (Hid (¬ Fits z) ∧ decide (z.natAbs < B) = false) ∨
      (decide (z.natAbs < B) = true ∧ decide (s1 < 0) = true ∧ decide ((z.natAbs : Int) ≤ 9223372036854775808) = true ∧ Hid (Fits z ∧ z < 0)) ∨
      (decide (z.natAbs < B) = true ∧ decide (s1 < 0) = true ∧ decide (0 ≤ s1) = false ∧ decide ((z.natAbs : Int) ≤ 9223372036854775808) = false ∧ Hid (¬ Fits z)) ∨
      (decide (z.natAbs < B) = true ∧ decide (s1 < 0) = false ∧ decide (0 ≤ s1) = true ∧ decide ((z.natAbs : Int) < 9223372036854775808) = true ∧ Hid (Fits z ∧ 0 ≤ z)) ∨
      (decide (z.natAbs < B) = true ∧ decide (s1 < 0) = false ∧ decide (0 ≤ s1) = true ∧ decide ((z.natAbs : Int) < 9223372036854775808) = false ∧ Hid (¬ Fits z)) := by
    have hs : (z < 0 ∧ s1 < 0) ∨ (0 ≤ z ∧ 0 ≤ s1) := by
      rcases zsign z with ⟨h, e⟩ | ⟨h, e⟩ | ⟨h, e⟩ <;> omega
    have hf : Fits z ↔ (-9223372036854775808 ≤ z ∧ z ≤ 9223372036854775807) := Iff.rfl
    by_cases q : z.natAbs < B
    · right
      rcases hs with ⟨h, k⟩ | ⟨h, k⟩
      · by_cases r : (z.natAbs : Int) ≤ 9223372036854775808
        · left; exact ⟨decide_eq_true q, decide_eq_true k, decide_eq_true r, hf.2 (by omega), h⟩
        · right; left; exact ⟨decide_eq_true q, decide_eq_true k, decide_eq_false (by omega), decide_eq_false r, fun t => by have := hf.1 t; omega⟩
      · by_cases r : (z.natAbs : Int) < 9223372036854775808
        · right; right; left; exact ⟨decide_eq_true q, decide_eq_false (by omega), decide_eq_true k, decide_eq_true r, hf.2 (by omega), h⟩
        · right; right; right; exact ⟨decide_eq_true q, decide_eq_false (by omega), decide_eq_true k, decide_eq_false r, fun t => by have := hf.1 t; omega⟩
    · left; exact ⟨fun t => by have := hf.1 t; omega, decide_eq_false q⟩
  clear hx hv la h1 hza hB
  obtain ⟨x, hx⟩ : ∃ x, z.natAbs = x := ⟨_, rfl⟩
  have HX := Lib.hid hx
  rw [hx] at hc na Hla
  clear hx
  rcases hc with ⟨hz, f0⟩ | ⟨f0, f1, f2, hz⟩ | ⟨f0, f1, f3, f2, hz⟩ | ⟨f0, f1, f3, f2, hz⟩ | ⟨f0, f1, f3, f2, hz⟩
  all_goals (
    obtain ⟨ca0, ca1, fa0, fa1⟩ := box_cells hba
    go_enter Tryz.func91, Tryz.ntmps91
    go_wp2_with fail
    refine (Word_any _ _ x K na (by omega) Hla.out).mono ?_
    rintro e w1 ⟨⟨y, rfl, hy, hy0⟩, g1⟩
    rw [f0]
    have hgw := grown_trans hgw0 g1
    have ia1 := ia.kept g1
    have hba1 := heap_kept g1 hba
    obtain ⟨da0, da1, ga0, ga1⟩ := box_cells hba1
    clear g1 ia hba ca0 ca1 fa0 fa1 na hgw0)
  · clear hy hy0
    have hF : Hid (RetSmall w z (.returned (.tuple #[.int .i64 0, .bool false])) w1) := ret_small_no hz.out hgw
    go_wp2_with fail
    go_ret2
    exact hF.out
  · obtain rfl : y = x := hy (of_decide_eq_true f0)
    clear hy hy0
    go_wp2_with fail
    refine (Sign_any w1 _ z K ia1 (by omega) (by rw [HX.out]; exact Hla.out)).mono ?_
    rintro e w2 ⟨rfl, g2⟩
    rw [H1.out]
    obtain ⟨ea0, ea1, ha0, ha1⟩ := box_cells (heap_kept g2 hba1)
    have hgw2 := grown_trans hgw g2
    go_wp2_with fail
    go_ret2
    refine ret_small_yes hz.out.1 ?_ hgw2
    have q1 := HX.out
    have q2 := hz.out.2
    have q3 := of_decide_eq_true f2
    simp only [IntKind.wrap_u64]
    unfold wrap64
    omega
  · obtain rfl : y = x := hy (of_decide_eq_true f0)
    clear hy hy0
    go_wp2_with fail
    refine (Sign_any w1 _ z K ia1 (by omega) (by rw [HX.out]; exact Hla.out)).mono ?_
    rintro e w2 ⟨rfl, g2⟩
    rw [H1.out]
    have hba2 := heap_kept g2 hba1
    obtain ⟨ea0, ea1, ha0, ha1⟩ := box_cells hba2
    have hgw2 := grown_trans hgw g2
    have ia2 := ia1.kept g2
    go_wp2_with fail
    refine (Sign_any w2 _ z K ia2 (by omega) (by rw [HX.out]; exact Hla.out)).mono ?_
    rintro e w3 ⟨rfl, g3⟩
    rw [H1.out]
    have hF : Hid (RetSmall w z (.returned (.tuple #[.int .i64 0, .bool false])) w3) := ret_small_no hz.out (grown_trans hgw2 g3)
    go_wp2_with fail
    go_ret2
    exact hF.out
  · obtain rfl : y = x := hy (of_decide_eq_true f0)
    clear hy hy0
    go_wp2_with fail
    refine (Sign_any w1 _ z K ia1 (by omega) (by rw [HX.out]; exact Hla.out)).mono ?_
    rintro e w2 ⟨rfl, g2⟩
    rw [H1.out]
    have hba2 := heap_kept g2 hba1
    obtain ⟨ea0, ea1, ha0, ha1⟩ := box_cells hba2
    have hgw2 := grown_trans hgw g2
    have ia2 := ia1.kept g2
    go_wp2_with fail
    refine (Sign_any w2 _ z K ia2 (by omega) (by rw [HX.out]; exact Hla.out)).mono ?_
    rintro e w3 ⟨rfl, g3⟩
    rw [H1.out]
    have hgw3 := grown_trans hgw2 g3
    go_wp2_with fail
    go_ret2
    refine ret_small_yes hz.out.1 ?_ hgw3
    have q1 := HX.out
    have q2 := hz.out.2
    have q3 := of_decide_eq_true f2
    try unfold wrap64
    omega
  · obtain rfl : y = x := hy (of_decide_eq_true f0)
    clear hy hy0
    go_wp2_with fail
    refine (Sign_any w1 _ z K ia1 (by omega) (by rw [HX.out]; exact Hla.out)).mono ?_
    rintro e w2 ⟨rfl, g2⟩
    rw [H1.out]
    have hba2 := heap_kept g2 hba1
    obtain ⟨ea0, ea1, ha0, ha1⟩ := box_cells hba2
    have hgw2 := grown_trans hgw g2
    have ia2 := ia1.kept g2
    go_wp2_with fail
    refine (Sign_any w2 _ z K ia2 (by omega) (by rw [HX.out]; exact Hla.out)).mono ?_
    rintro e w3 ⟨rfl, g3⟩
    rw [H1.out]
    have hF : Hid (RetSmall w z (.returned (.tuple #[.int .i64 0, .bool false])) w3) := ret_small_no hz.out (grown_trans hgw2 g3)
    go_wp2_with fail
    go_ret2
    exact hF.out
end Go.Proofs.YtldkddogadmpbaaGreatDoor
