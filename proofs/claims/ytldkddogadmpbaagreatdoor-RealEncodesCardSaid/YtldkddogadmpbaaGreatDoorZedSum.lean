/- Whole numbers below 0 too: of ints, texts, sums. -/
import Derived.Test.YtldkddogadmpbaaGreatDoorZed
namespace Go.Proofs.YtldkddogadmpbaaGreatDoor
open Go.RowKit Mat
set_option maxRecDepth 100000
set_option linter.unusedVariables false
set_option linter.unusedSimpArgs false

set_option maxHeartbeats 2000000 in
theorem ZOf_any (w : World) (n : Int) (h1 : -9223372036854775808 ≤ n) (h2 : n ≤ 9223372036854775807) :
    Calls Tryz.prog 54 #[.int .i64 n] w (RetInt w n) := by
  have hgw0 := World.grownBy_alloc w (.cells #[.slice none 0 0, .bool false] 26) none
  have hr0 := heap_new w (.cells #[.slice none 0 0, .bool false] 26) w.heap.size rfl
  by_cases hn : n < 0
  · obtain ⟨a, ha⟩ : ∃ a : Nat, n = -(a : Int) := ⟨n.natAbs, by omega⟩
    have f1 : decide (n < 0) = true := decide_eq_true hn
    obtain ⟨m, hm⟩ : ∃ m : Int, IntKind.u64.wrap n = m := ⟨_, rfl⟩
    have hm2 : IntKind.u64.wrap (-m) = (a : Int) := by
      rw [IntKind.wrap_u64] at hm ⊢; omega
    have haB : a < B := by unfold B; omega
    have hz : a = n.natAbs := by omega
    have HA := Lib.hid haB
    have HZ := Lib.hid hz
    clear ha haB hz h1 h2
    go_enter Tryz.func54, Tryz.ntmps54
    go_wp2_with fail
    refine (Of_any _ a HA.out).mono ?_
    rintro e w1 ⟨v, rfl, ⟨s1, x1, rfl, h1, v1⟩, g1⟩
    have v2 : val B x1 = n.natAbs := v1.trans HZ.out
    have hb2 : true = true ↔ n < 0 := ⟨fun _ => hn, fun _ => rfl⟩
    have hgw := grown_trans hgw0 g1
    have hb9 := heap_kept g1 hr0
    obtain ⟨c90, c91, f90, f91⟩ := box_cells hb9
    obtain ⟨q90, q91, r90, r91⟩ := box_cells (heap_set2 hb9 (.slice s1 x1.length x1.length) (.bool true))
    have hF : Hid (RetInt w (n) (.returned (.agg #[.slice s1 x1.length x1.length, .bool true])) ((w1.setCell ⟨w.heap.size, 0, none⟩ (.slice s1 x1.length x1.length)).setCell ⟨w.heap.size, 1, none⟩ (.bool true))) := ret_int hgw hb9 (by omega) h1 v2 hb2
    clear h1 v2 hb2
    go_wp2_with fail
    exact bodyPost_ret (v := .agg #[.slice s1 x1.length x1.length, .bool true]) (by simp [results, Tryz.results54, go_sem, q90, q91]) rfl hF.out
  · obtain ⟨a, ha⟩ : ∃ a : Nat, n = (a : Int) := ⟨n.natAbs, by omega⟩
    have f1 : decide (n < 0) = false := decide_eq_false hn
    have hm2 : IntKind.u64.wrap n = (a : Int) := by
      rw [IntKind.wrap_u64]; omega
    have haB : a < B := by unfold B; omega
    have hz : a = n.natAbs := by omega
    have HA := Lib.hid haB
    have HZ := Lib.hid hz
    clear ha haB hz h1 h2
    go_enter Tryz.func54, Tryz.ntmps54
    go_wp2_with fail
    refine (Of_any _ a HA.out).mono ?_
    rintro e w1 ⟨v, rfl, ⟨s1, x1, rfl, h1, v1⟩, g1⟩
    have v2 : val B x1 = n.natAbs := v1.trans HZ.out
    have hb2 : false = true ↔ n < 0 := by constructor <;> intro h <;> first | cases h | omega
    have hgw := grown_trans hgw0 g1
    have hb9 := heap_kept g1 hr0
    obtain ⟨c90, c91, f90, f91⟩ := box_cells hb9
    obtain ⟨q90, q91, r90, r91⟩ := box_cells (heap_set2 hb9 (.slice s1 x1.length x1.length) (.bool false))
    have hF : Hid (RetInt w (n) (.returned (.agg #[.slice s1 x1.length x1.length, .bool false])) ((w1.setCell ⟨w.heap.size, 0, none⟩ (.slice s1 x1.length x1.length)).setCell ⟨w.heap.size, 1, none⟩ (.bool false))) := ret_int hgw hb9 (by omega) h1 v2 hb2
    clear h1 v2 hb2
    go_wp2_with fail
    exact bodyPost_ret (v := .agg #[.slice s1 x1.length x1.length, .bool false]) (by simp [results, Tryz.results54, go_sem, q90, q91]) rfl hF.out

theorem bw {a k n : Nat} (h : a < B ^ k) (hk : k ≤ n) : a < B ^ n := Nat.lt_of_lt_of_le h (Nat.pow_le_pow_right B_pos hk)
theorem badd {a b k : Nat} (h1 : a < B ^ k) (h2 : b < B ^ k) : a + b < B ^ (k + 1) := by
  have : B ^ (k + 1) = B ^ k * B := Nat.pow_succ ..
  have h3 : B ^ k * 2 ≤ B ^ k * B := Nat.mul_le_mul_left _ (by decide)
  omega
set_option maxHeartbeats 4000000 in
theorem together_any (w : World) (va vn : Value) (z : Int) (a K : Nat) (b : Bool) (ha : IntV w va z) (hn : NatV w vn a) (hK : K ≤ 900000) (la : z.natAbs < B ^ K) (ln : a < B ^ K) :
    Calls Tryz.prog 90 #[va, vn, .bool b] w (RetInt w (z + (if b = true then -(a : Int) else a))) := by
  obtain ⟨sa, xs, zb, rfl, hx, hv, hb⟩ := ha
  obtain ⟨sn, ys, rfl, hy, hvy⟩ := hn
  have hgw0 : w.grownBy (((w.alloc (.cells #[.slice sa xs.length xs.length, .bool zb] 26)).alloc (.cells #[.slice sn ys.length ys.length] 24)).alloc (.cells #[.slice none 0 0, .bool false] 26)) none := grown_alloc (grown_alloc (World.grownBy_alloc _ _ _) _) _
  have hr := heap_new ((w.alloc (.cells #[.slice sa xs.length xs.length, .bool zb] 26)).alloc (.cells #[.slice sn ys.length ys.length] 24)) (.cells #[.slice none 0 0, .bool false] 26) (w.heap.size + 1 + 1) (by simp)
  have hbn := heap_kept (World.grownBy_alloc _ (.cells #[.slice none 0 0, .bool false] 26) none) (heap_new (w.alloc (.cells #[.slice sa xs.length xs.length, .bool zb] 26)) (.cells #[.slice sn ys.length ys.length] 24) (w.heap.size + 1) (by simp))
  have hba := heap_kept (grown_alloc (World.grownBy_alloc _ (.cells #[.slice sn ys.length ys.length] 24) none) (.cells #[.slice none 0 0, .bool false] 26)) (heap_new w (.cells #[.slice sa xs.length xs.length, .bool zb] 26) w.heap.size rfl)
  have na : NatV (((w.alloc (.cells #[.slice sa xs.length xs.length, .bool zb] 26)).alloc (.cells #[.slice sn ys.length ys.length] 24)).alloc (.cells #[.slice none 0 0, .bool false] 26)) (.agg #[.slice sa xs.length xs.length]) z.natAbs := ⟨sa, xs, rfl, hx.kept hgw0, hv⟩
  have nn : NatV (((w.alloc (.cells #[.slice sa xs.length xs.length, .bool zb] 26)).alloc (.cells #[.slice sn ys.length ys.length] 24)).alloc (.cells #[.slice none 0 0, .bool false] 26)) (.agg #[.slice sn ys.length ys.length]) a := ⟨sn, ys, rfl, hy.kept hgw0, hvy⟩
  obtain ⟨A, hA⟩ : ∃ A, z.natAbs = A := ⟨_, rfl⟩
  rw [hA] at na la
  obtain ⟨t, ht⟩ : ∃ t, z + (if b = true then -(a : Int) else a) = t := ⟨_, rfl⟩
  rw [ht]
  have Hla := Lib.hid la
  have Hln := Lib.hid ln
  have HA := Lib.hid hA
  have HB := Lib.hid hb
  have HT := Lib.hid ht
  clear hx hv hy hvy la ln hA hb ht
  cases zb <;> cases b
  · have hz : ¬ z < 0 := fun h => by have := HB.out.2 h; cases this
    go_enter Tryz.func90, Tryz.ntmps90
    obtain ⟨ca0, ca1, fa0, fa1⟩ := box_cells hba
    obtain ⟨cn, fn⟩ := box_cell hbn
    go_wp2_with fail
    refine (Add_any _ _ _ A a K na nn (by omega) Hla.out Hln.out).mono ?_
    rintro e w1 ⟨v1, rfl, n1, g1⟩
    go_wp2_with fail
    refine (signed_any w1 v1 (A + a) (K + 1) false n1 (by omega) (badd Hla.out Hln.out)).mono ?_
    rintro e w2 ⟨v2, rfl, ⟨s2, x2, fl2, rfl, h2, vv2, hb2⟩, g2⟩
    have hgw := grown_trans (grown_trans hgw0 g1) g2
    have hrr := heap_kept g2 (heap_kept g1 hr)
    have e2 : (if false = true then -((A + a : Nat) : Int) else ((A + a : Nat) : Int)) = t := by rw [← HT.out, ← HA.out]; simp; omega
    rw [e2] at vv2 hb2
    clear n1 g1 g2 na nn
    have hb9 := hrr
    obtain ⟨c90, c91, f90, f91⟩ := box_cells hb9
    obtain ⟨q90, q91, r90, r91⟩ := box_cells (heap_set2 hb9 (.slice s2 x2.length x2.length) (.bool fl2))
    have hF : Hid (RetInt w (t) (.returned (.agg #[.slice s2 x2.length x2.length, .bool fl2])) ((w2.setCell ⟨w.heap.size + 1 + 1, 0, none⟩ (.slice s2 x2.length x2.length)).setCell ⟨w.heap.size + 1 + 1, 1, none⟩ (.bool fl2))) := ret_int hgw hb9 (by omega) h2 vv2 hb2
    clear h2 vv2 hb2
    go_wp2_with fail
    exact bodyPost_ret (v := .agg #[.slice s2 x2.length x2.length, .bool fl2]) (by simp [results, Tryz.results90, go_sem, q90, q91]) rfl hF.out
  · have hz : ¬ z < 0 := fun h => by have := HB.out.2 h; cases this
    rcases Nat.lt_or_ge A a with hlt | hle
    · skip
      go_enter Tryz.func90, Tryz.ntmps90
      obtain ⟨ca0, ca1, fa0, fa1⟩ := box_cells hba
      obtain ⟨cn, fn⟩ := box_cell hbn
      go_wp2_with fail
      refine (Sub_less _ _ _ A a K na nn (by omega) Hla.out Hln.out hlt).mono ?_
      rintro e w1 ⟨v1, rfl, ⟨s1, x1, rfl, h1, vv1⟩, g1⟩
      have gA := grown_alloc g1 (.cells #[.slice s1 x1.length x1.length] 24)
      obtain ⟨ca0, ca1, fa0, fa1⟩ := box_cells (heap_kept gA hba)
      obtain ⟨cn, fn⟩ := box_cell (heap_kept gA hbn)
      have na1 := na.kept gA
      have nn1 := nn.kept gA
      have hr1 := heap_kept gA hr
      have hgw1 := grown_trans hgw0 gA
      clear na nn g1 gA hr h1 vv1
      go_wp2_with fail
      generalize (w1.alloc (.cells #[.slice s1 x1.length x1.length] 24)) = w2 at *
      refine (Sub_some w2 _ _ a A K nn1 na1 (by omega) Hln.out (by omega)).mono ?_
      rintro e w3 ⟨v3, rfl, ⟨s3, x3, rfl, h3, vv3⟩, g3⟩
      have gB := grown_alloc g3 (.cells #[.slice s3 x3.length x3.length] 24)
      have n3 : NatV (w3.alloc (.cells #[.slice s3 x3.length x3.length] 24)) (.agg #[.slice s3 x3.length x3.length]) (a - A) := ⟨s3, x3, rfl, h3.kept (World.grownBy_alloc _ _ _), vv3⟩
      have hr3 := heap_kept gB hr1
      have hgw3 := grown_trans hgw1 gB
      have h9 := heap_new w3 (.cells #[.slice s3 x3.length x3.length] 24) w3.heap.size rfl
      obtain ⟨c9, f9⟩ := box_cell h9
      clear g3 gB h3 vv3
      go_wp2_with fail
      generalize (w3.alloc (.cells #[.slice s3 x3.length x3.length] 24)) = w4 at *
      refine (signed_any w4 _ (a - A) K true n3 (by omega) (Nat.lt_of_le_of_lt (Nat.sub_le _ _) Hln.out)).mono ?_
      rintro e w5 ⟨v5, rfl, ⟨s5, x5, fl5, rfl, h5, vv5, hb5⟩, g5⟩
      have hgw5 := grown_trans hgw3 g5
      have hr5 := heap_kept g5 hr3
      have e5 : (if true = true then -((a - A : Nat) : Int) else ((a - A : Nat) : Int)) = t := by rw [← HT.out]; have := HA.out; simp; omega
      rw [e5] at vv5 hb5
      clear n3 g5 hr3
      have hb9 := hr5
      obtain ⟨c90, c91, f90, f91⟩ := box_cells hb9
      obtain ⟨q90, q91, r90, r91⟩ := box_cells (heap_set2 hb9 (.slice s5 x5.length x5.length) (.bool fl5))
      have hF : Hid (RetInt w (t) (.returned (.agg #[.slice s5 x5.length x5.length, .bool fl5])) ((w5.setCell ⟨w.heap.size + 1 + 1, 0, none⟩ (.slice s5 x5.length x5.length)).setCell ⟨w.heap.size + 1 + 1, 1, none⟩ (.bool fl5))) := ret_int hgw5 hb9 (by omega) h5 vv5 hb5
      clear h5 vv5 hb5
      go_wp2_with fail
      exact bodyPost_ret (v := .agg #[.slice s5 x5.length x5.length, .bool fl5]) (by simp [results, Tryz.results90, go_sem, q90, q91]) rfl hF.out
    · skip
      go_enter Tryz.func90, Tryz.ntmps90
      obtain ⟨ca0, ca1, fa0, fa1⟩ := box_cells hba
      obtain ⟨cn, fn⟩ := box_cell hbn
      go_wp2_with fail
      refine (Sub_some _ _ _ A a K na nn (by omega) Hla.out hle).mono ?_
      rintro e w1 ⟨v1, rfl, ⟨s1, x1, rfl, h1, vv1⟩, g1⟩
      have gA := grown_alloc g1 (.cells #[.slice s1 x1.length x1.length] 24)
      obtain ⟨ca0, ca1, fa0, fa1⟩ := box_cells (heap_kept gA hba)
      have n1 : NatV (w1.alloc (.cells #[.slice s1 x1.length x1.length] 24)) (.agg #[.slice s1 x1.length x1.length]) (A - a) := ⟨s1, x1, rfl, h1.kept (World.grownBy_alloc _ _ _), vv1⟩
      have hr1 := heap_kept gA hr
      have hgw1 := grown_trans hgw0 gA
      have h9 := heap_new w1 (.cells #[.slice s1 x1.length x1.length] 24) w1.heap.size rfl
      obtain ⟨c9, f9⟩ := box_cell h9
      clear na nn g1 gA hr h1 vv1
      go_wp2_with fail
      generalize (w1.alloc (.cells #[.slice s1 x1.length x1.length] 24)) = w2 at *
      refine (signed_any w2 _ (A - a) K false n1 (by omega) (Nat.lt_of_le_of_lt (Nat.sub_le _ _) Hla.out)).mono ?_
      rintro e w5 ⟨v5, rfl, ⟨s5, x5, fl5, rfl, h5, vv5, hb5⟩, g5⟩
      have hgw5 := grown_trans hgw1 g5
      have hr5 := heap_kept g5 hr1
      have e5 : (if false = true then -((A - a : Nat) : Int) else ((A - a : Nat) : Int)) = t := by rw [← HT.out]; have := HA.out; simp; omega
      rw [e5] at vv5 hb5
      clear n1 g5 hr1
      have hb9 := hr5
      obtain ⟨c90, c91, f90, f91⟩ := box_cells hb9
      obtain ⟨q90, q91, r90, r91⟩ := box_cells (heap_set2 hb9 (.slice s5 x5.length x5.length) (.bool fl5))
      have hF : Hid (RetInt w (t) (.returned (.agg #[.slice s5 x5.length x5.length, .bool fl5])) ((w5.setCell ⟨w.heap.size + 1 + 1, 0, none⟩ (.slice s5 x5.length x5.length)).setCell ⟨w.heap.size + 1 + 1, 1, none⟩ (.bool fl5))) := ret_int hgw5 hb9 (by omega) h5 vv5 hb5
      clear h5 vv5 hb5
      go_wp2_with fail
      exact bodyPost_ret (v := .agg #[.slice s5 x5.length x5.length, .bool fl5]) (by simp [results, Tryz.results90, go_sem, q90, q91]) rfl hF.out
  · have hz : z < 0 := HB.out.1 rfl
    rcases Nat.lt_or_ge A a with hlt | hle
    · skip
      go_enter Tryz.func90, Tryz.ntmps90
      obtain ⟨ca0, ca1, fa0, fa1⟩ := box_cells hba
      obtain ⟨cn, fn⟩ := box_cell hbn
      go_wp2_with fail
      refine (Sub_less _ _ _ A a K na nn (by omega) Hla.out Hln.out hlt).mono ?_
      rintro e w1 ⟨v1, rfl, ⟨s1, x1, rfl, h1, vv1⟩, g1⟩
      have gA := grown_alloc g1 (.cells #[.slice s1 x1.length x1.length] 24)
      obtain ⟨ca0, ca1, fa0, fa1⟩ := box_cells (heap_kept gA hba)
      obtain ⟨cn, fn⟩ := box_cell (heap_kept gA hbn)
      have na1 := na.kept gA
      have nn1 := nn.kept gA
      have hr1 := heap_kept gA hr
      have hgw1 := grown_trans hgw0 gA
      clear na nn g1 gA hr h1 vv1
      go_wp2_with fail
      generalize (w1.alloc (.cells #[.slice s1 x1.length x1.length] 24)) = w2 at *
      refine (Sub_some w2 _ _ a A K nn1 na1 (by omega) Hln.out (by omega)).mono ?_
      rintro e w3 ⟨v3, rfl, ⟨s3, x3, rfl, h3, vv3⟩, g3⟩
      have gB := grown_alloc g3 (.cells #[.slice s3 x3.length x3.length] 24)
      have n3 : NatV (w3.alloc (.cells #[.slice s3 x3.length x3.length] 24)) (.agg #[.slice s3 x3.length x3.length]) (a - A) := ⟨s3, x3, rfl, h3.kept (World.grownBy_alloc _ _ _), vv3⟩
      have hr3 := heap_kept gB hr1
      have hgw3 := grown_trans hgw1 gB
      have h9 := heap_new w3 (.cells #[.slice s3 x3.length x3.length] 24) w3.heap.size rfl
      obtain ⟨c9, f9⟩ := box_cell h9
      clear g3 gB h3 vv3
      go_wp2_with fail
      generalize (w3.alloc (.cells #[.slice s3 x3.length x3.length] 24)) = w4 at *
      refine (signed_any w4 _ (a - A) K false n3 (by omega) (Nat.lt_of_le_of_lt (Nat.sub_le _ _) Hln.out)).mono ?_
      rintro e w5 ⟨v5, rfl, ⟨s5, x5, fl5, rfl, h5, vv5, hb5⟩, g5⟩
      have hgw5 := grown_trans hgw3 g5
      have hr5 := heap_kept g5 hr3
      have e5 : (if false = true then -((a - A : Nat) : Int) else ((a - A : Nat) : Int)) = t := by rw [← HT.out]; have := HA.out; simp; omega
      rw [e5] at vv5 hb5
      clear n3 g5 hr3
      have hb9 := hr5
      obtain ⟨c90, c91, f90, f91⟩ := box_cells hb9
      obtain ⟨q90, q91, r90, r91⟩ := box_cells (heap_set2 hb9 (.slice s5 x5.length x5.length) (.bool fl5))
      have hF : Hid (RetInt w (t) (.returned (.agg #[.slice s5 x5.length x5.length, .bool fl5])) ((w5.setCell ⟨w.heap.size + 1 + 1, 0, none⟩ (.slice s5 x5.length x5.length)).setCell ⟨w.heap.size + 1 + 1, 1, none⟩ (.bool fl5))) := ret_int hgw5 hb9 (by omega) h5 vv5 hb5
      clear h5 vv5 hb5
      go_wp2_with fail
      exact bodyPost_ret (v := .agg #[.slice s5 x5.length x5.length, .bool fl5]) (by simp [results, Tryz.results90, go_sem, q90, q91]) rfl hF.out
    · skip
      go_enter Tryz.func90, Tryz.ntmps90
      obtain ⟨ca0, ca1, fa0, fa1⟩ := box_cells hba
      obtain ⟨cn, fn⟩ := box_cell hbn
      go_wp2_with fail
      refine (Sub_some _ _ _ A a K na nn (by omega) Hla.out hle).mono ?_
      rintro e w1 ⟨v1, rfl, ⟨s1, x1, rfl, h1, vv1⟩, g1⟩
      have gA := grown_alloc g1 (.cells #[.slice s1 x1.length x1.length] 24)
      obtain ⟨ca0, ca1, fa0, fa1⟩ := box_cells (heap_kept gA hba)
      have n1 : NatV (w1.alloc (.cells #[.slice s1 x1.length x1.length] 24)) (.agg #[.slice s1 x1.length x1.length]) (A - a) := ⟨s1, x1, rfl, h1.kept (World.grownBy_alloc _ _ _), vv1⟩
      have hr1 := heap_kept gA hr
      have hgw1 := grown_trans hgw0 gA
      have h9 := heap_new w1 (.cells #[.slice s1 x1.length x1.length] 24) w1.heap.size rfl
      obtain ⟨c9, f9⟩ := box_cell h9
      clear na nn g1 gA hr h1 vv1
      go_wp2_with fail
      generalize (w1.alloc (.cells #[.slice s1 x1.length x1.length] 24)) = w2 at *
      refine (signed_any w2 _ (A - a) K true n1 (by omega) (Nat.lt_of_le_of_lt (Nat.sub_le _ _) Hla.out)).mono ?_
      rintro e w5 ⟨v5, rfl, ⟨s5, x5, fl5, rfl, h5, vv5, hb5⟩, g5⟩
      have hgw5 := grown_trans hgw1 g5
      have hr5 := heap_kept g5 hr1
      have e5 : (if true = true then -((A - a : Nat) : Int) else ((A - a : Nat) : Int)) = t := by rw [← HT.out]; have := HA.out; simp; omega
      rw [e5] at vv5 hb5
      clear n1 g5 hr1
      have hb9 := hr5
      obtain ⟨c90, c91, f90, f91⟩ := box_cells hb9
      obtain ⟨q90, q91, r90, r91⟩ := box_cells (heap_set2 hb9 (.slice s5 x5.length x5.length) (.bool fl5))
      have hF : Hid (RetInt w (t) (.returned (.agg #[.slice s5 x5.length x5.length, .bool fl5])) ((w5.setCell ⟨w.heap.size + 1 + 1, 0, none⟩ (.slice s5 x5.length x5.length)).setCell ⟨w.heap.size + 1 + 1, 1, none⟩ (.bool fl5))) := ret_int hgw5 hb9 (by omega) h5 vv5 hb5
      clear h5 vv5 hb5
      go_wp2_with fail
      exact bodyPost_ret (v := .agg #[.slice s5 x5.length x5.length, .bool fl5]) (by simp [results, Tryz.results90, go_sem, q90, q91]) rfl hF.out
  · have hz : z < 0 := HB.out.1 rfl
    go_enter Tryz.func90, Tryz.ntmps90
    obtain ⟨ca0, ca1, fa0, fa1⟩ := box_cells hba
    obtain ⟨cn, fn⟩ := box_cell hbn
    go_wp2_with fail
    refine (Add_any _ _ _ A a K na nn (by omega) Hla.out Hln.out).mono ?_
    rintro e w1 ⟨v1, rfl, n1, g1⟩
    go_wp2_with fail
    refine (signed_any w1 v1 (A + a) (K + 1) true n1 (by omega) (badd Hla.out Hln.out)).mono ?_
    rintro e w2 ⟨v2, rfl, ⟨s2, x2, fl2, rfl, h2, vv2, hb2⟩, g2⟩
    have hgw := grown_trans (grown_trans hgw0 g1) g2
    have hrr := heap_kept g2 (heap_kept g1 hr)
    have e2 : (if true = true then -((A + a : Nat) : Int) else ((A + a : Nat) : Int)) = t := by rw [← HT.out, ← HA.out]; simp; omega
    rw [e2] at vv2 hb2
    clear n1 g1 g2 na nn
    have hb9 := hrr
    obtain ⟨c90, c91, f90, f91⟩ := box_cells hb9
    obtain ⟨q90, q91, r90, r91⟩ := box_cells (heap_set2 hb9 (.slice s2 x2.length x2.length) (.bool fl2))
    have hF : Hid (RetInt w (t) (.returned (.agg #[.slice s2 x2.length x2.length, .bool fl2])) ((w2.setCell ⟨w.heap.size + 1 + 1, 0, none⟩ (.slice s2 x2.length x2.length)).setCell ⟨w.heap.size + 1 + 1, 1, none⟩ (.bool fl2))) := ret_int hgw hb9 (by omega) h2 vv2 hb2
    clear h2 vv2 hb2
    go_wp2_with fail
    exact bodyPost_ret (v := .agg #[.slice s2 x2.length x2.length, .bool fl2]) (by simp [results, Tryz.results90, go_sem, q90, q91]) rfl hF.out
end Go.Proofs.YtldkddogadmpbaaGreatDoor
