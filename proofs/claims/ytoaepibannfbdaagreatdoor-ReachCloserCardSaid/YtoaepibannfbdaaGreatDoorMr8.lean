/- What the laws lean on, part 8. -/
import Derived.BigQuiet
import Derived.BigRegion
import Derived.Deep.AppendLies
import Derived.Deep.CutBlock
import Derived.Deep.CutRange
import Derived.Deep.DeepCutAuto
import Derived.Deep.LoopGhost
import Derived.Deep.QuietTactic
import Derived.Deep.RegionHeld3
import Derived.Laws.CopyOwn
import Derived.Laws.Externs
import Derived.Laws.IdiomStrings
import Derived.Lib.BitFns
import Derived.Lib.Hide
import Derived.Lib.Slices
import Derived.Lib.Small
import Derived.Lib.Strings
import Derived.Lib.Walk
import Derived.Outline
import Derived.OwnWalk
import Derived.Shelf.Bits.Mul64
import Derived.StillTailTactics
import Derived.WalkKit
import Derived.WalkLawsBesides
import Derived.WalkSpells
import Derived.Test.YtoaepibannfbdaaGreatDoorProg
import Derived.Test.YtoaepibannfbdaaGreatDoorMr7
namespace Go.Proofs.YtoaepibannfbdaaGreatDoor
open Go.RowKit Mat
set_option maxRecDepth 100000
set_option linter.unusedVariables false
set_option linter.unusedSimpArgs false
def DigL (l : List Nat) : Prop := ∀ k (h : k < l.length), 48 ≤ l[k] ∧ l[k] ≤ 57
theorem DigL.append {l m : List Nat} (h : DigL l) (g : DigL m) : DigL (l ++ m) := by
  intro k hk
  rcases Nat.lt_or_ge k l.length with h1 | h1
  · rw [List.getElem_append_left h1]; exact h k h1
  · rw [List.getElem_append_right h1]; exact g _ _
theorem DigL.drop {l : List Nat} (h : DigL l) (n : Nat) : DigL (l.drop n) := by
  intro k hk
  rw [List.getElem_drop]; exact h _ _
theorem bts_app (s t : ByteArray) : bts (s ++ t) = bts s ++ bts t := by
  unfold bts
  rw [ByteArray.data_append, Array.toList_append, List.map_append]
end Go.Proofs.YtoaepibannfbdaaGreatDoor
namespace Go.Proofs.YtoaepibannfbdaaGreatDoor
open Go.RowKit Mat
set_option maxRecDepth 100000
set_option linter.unusedVariables false
set_option linter.unusedSimpArgs false
def zcmp (x y : Int) : Int := if x < y then -1 else if x = y then 0 else 1
theorem zcmp_pos {x y : Int} (hx : 0 ≤ x) (hy : 0 ≤ y) : cmpInt x.natAbs y.natAbs = zcmp x y := by
  unfold cmpInt zcmp
  rcases Int.lt_trichotomy x y with h | h | h
  · rw [if_pos (by omega), if_pos h]
  · rw [if_neg (by omega), if_pos (by omega), if_neg (by omega), if_pos h]
  · rw [if_neg (by omega), if_neg (by omega), if_neg (by omega), if_neg (by omega)]
theorem zcmp_neg {x y : Int} (hx : x < 0) (hy : y < 0) : cmpInt y.natAbs x.natAbs = zcmp x y := by
  unfold cmpInt zcmp
  rcases Int.lt_trichotomy x y with h | h | h
  · rw [if_pos (by omega), if_pos h]
  · rw [if_neg (by omega), if_pos (by omega), if_neg (by omega), if_pos h]
  · rw [if_neg (by omega), if_neg (by omega), if_neg (by omega), if_neg (by omega)]
theorem zsign (x : Int) : (x < 0 ∧ x.sign = -1) ∨ (x = 0 ∧ x.sign = 0) ∨ (0 < x ∧ x.sign = 1) := by
  rcases Int.lt_trichotomy x 0 with h | h | h
  · left; exact ⟨h, Int.sign_eq_neg_one_of_neg h⟩
  · right; left; subst h; exact ⟨rfl, rfl⟩
  · right; right; exact ⟨h, Int.sign_eq_one_of_pos h⟩
theorem zcmp_cases (x y : Int) : (x.sign < y.sign ∧ zcmp x y = -1) ∨ (y.sign < x.sign ∧ zcmp x y = 1) ∨ (x.sign = y.sign ∧ x.sign < 0 ∧ x < 0 ∧ y < 0) ∨ (x.sign = y.sign ∧ ¬ x.sign < 0 ∧ 0 ≤ x ∧ 0 ≤ y) := by
  unfold zcmp
  rcases zsign x with ⟨h, e⟩ | ⟨h, e⟩ | ⟨h, e⟩ <;> rcases zsign y with ⟨k, f⟩ | ⟨k, f⟩ | ⟨k, f⟩ <;> rw [e, f]
  · right; right; left; exact ⟨rfl, by omega, h, k⟩
  · left; exact ⟨by omega, if_pos (by omega)⟩
  · left; exact ⟨by omega, if_pos (by omega)⟩
  · right; left; refine ⟨by omega, ?_⟩; rw [if_neg (by omega), if_neg (by omega)]
  · right; right; right; exact ⟨rfl, by omega, by omega, by omega⟩
  · left; exact ⟨by omega, if_pos (by omega)⟩
  · right; left; refine ⟨by omega, ?_⟩; rw [if_neg (by omega), if_neg (by omega)]
  · right; left; refine ⟨by omega, ?_⟩; rw [if_neg (by omega), if_neg (by omega)]
  · right; right; right; exact ⟨rfl, by omega, by omega, by omega⟩
set_option maxHeartbeats 8000000 in
theorem ZCmp_any (w : World) (va vb : Value) (x y : Int) (K : Nat) (ha : IntV w va x) (hb : IntV w vb y) (hK : K ≤ 900000) (la : x.natAbs < B ^ K) (lb : y.natAbs < B ^ K) :
    Calls Tryz.prog 79 #[va, vb] w (fun e w' => e = .returned (.int .i64 (zcmp x y)) ∧ w.grownBy w' none) := by
  obtain ⟨sa, xs, za, rfl, hx, hv, hza⟩ := ha
  obtain ⟨sb, ys, zb, rfl, hy, hvy, hzb⟩ := hb
  have hgw0 : w.grownBy ((w.alloc (.cells #[.slice sa xs.length xs.length, .bool za] 29)).alloc (.cells #[.slice sb ys.length ys.length, .bool zb] 29)) none := grown_alloc (World.grownBy_alloc _ _ _) _
  have hbb := heap_new (w.alloc (.cells #[.slice sa xs.length xs.length, .bool za] 29)) (.cells #[.slice sb ys.length ys.length, .bool zb] 29) (w.heap.size + 1) (by simp)
  have hba := heap_kept (World.grownBy_alloc _ (.cells #[.slice sb ys.length ys.length, .bool zb] 29) none) (heap_new w (.cells #[.slice sa xs.length xs.length, .bool za] 29) w.heap.size rfl)
  have ia : IntV ((w.alloc (.cells #[.slice sa xs.length xs.length, .bool za] 29)).alloc (.cells #[.slice sb ys.length ys.length, .bool zb] 29)) (.agg #[.slice sa xs.length xs.length, .bool za]) x := ⟨sa, xs, za, rfl, hx.kept hgw0, hv, hza⟩
  have ib : IntV ((w.alloc (.cells #[.slice sa xs.length xs.length, .bool za] 29)).alloc (.cells #[.slice sb ys.length ys.length, .bool zb] 29)) (.agg #[.slice sb ys.length ys.length, .bool zb]) y := ⟨sb, ys, zb, rfl, hy.kept hgw0, hvy, hzb⟩
  have na : NatV ((w.alloc (.cells #[.slice sa xs.length xs.length, .bool za] 29)).alloc (.cells #[.slice sb ys.length ys.length, .bool zb] 29)) (.agg #[.slice sa xs.length xs.length]) x.natAbs := ⟨sa, xs, rfl, hx.kept hgw0, hv⟩
  have nn : NatV ((w.alloc (.cells #[.slice sa xs.length xs.length, .bool za] 29)).alloc (.cells #[.slice sb ys.length ys.length, .bool zb] 29)) (.agg #[.slice sb ys.length ys.length]) y.natAbs := ⟨sb, ys, rfl, hy.kept hgw0, hvy⟩
  have Hla := Lib.hid la
  have Hlb := Lib.hid lb
  have hc := zcmp_cases x y
  obtain ⟨s1, h1⟩ : ∃ s, x.sign = s := ⟨_, rfl⟩
  obtain ⟨s2, h2⟩ : ∃ s, y.sign = s := ⟨_, rfl⟩
  rw [h1, h2] at hc
  have H1 := Lib.hid h1
  have H2 := Lib.hid h2
  clear hx hv hy hvy la lb hza hzb h1 h2
  have hc4 : (decide (s1 < s2) = true ∧ Hid (zcmp x y = -1)) ∨ (decide (s1 < s2) = false ∧ decide (s2 < s1) = true ∧ Hid (zcmp x y = 1)) ∨ (decide (s1 < s2) = false ∧ decide (s2 < s1) = false ∧ decide (s1 < 0) = true ∧ Hid (cmpInt y.natAbs x.natAbs = zcmp x y)) ∨ (decide (s1 < s2) = false ∧ decide (s2 < s1) = false ∧ decide (s1 < 0) = false ∧ Hid (cmpInt x.natAbs y.natAbs = zcmp x y)) := by
    rcases hc with ⟨q, r⟩ | ⟨q, r⟩ | ⟨q, r, t, u⟩ | ⟨q, r, t, u⟩
    · left; exact ⟨decide_eq_true q, r⟩
    · right; left; exact ⟨decide_eq_false (by omega), decide_eq_true q, r⟩
    · right; right; left; exact ⟨decide_eq_false (by omega), decide_eq_false (by omega), decide_eq_true r, zcmp_neg t u⟩
    · right; right; right; exact ⟨decide_eq_false (by omega), decide_eq_false (by omega), decide_eq_false r, zcmp_pos t u⟩
  clear hc
  rcases hc4 with ⟨f1, hz⟩ | ⟨f1, f2, hz⟩ | ⟨f1, f2, f3, hz⟩ | ⟨f1, f2, f3, hz⟩
  all_goals (
    go_enter Tryz.func79, Tryz.ntmps79
    go_wp2_with fail
    generalize ((w.alloc (.cells #[.slice sa xs.length xs.length, .bool za] 29)).alloc (.cells #[.slice sb ys.length ys.length, .bool zb] 29)) = w0 at *
    obtain ⟨ca0, ca1, fa0, fa1⟩ := box_cells hba
    obtain ⟨cb0, cb1, fb0, fb1⟩ := box_cells hbb
    go_region_held3 (fun w' => w'.cell? ⟨w.heap.size, 0, none⟩ = some (.slice sa xs.length xs.length) ∧ w'.cell? ⟨w.heap.size, 1, none⟩ = some (.bool za) ∧ w'.cell? ⟨w.heap.size + 1, 0, none⟩ = some (.slice sb ys.length ys.length) ∧ w'.cell? ⟨w.heap.size + 1, 1, none⟩ = some (.bool zb))
      (first | assumption | exact ⟨ca0, ca1, cb0, cb1⟩ | go_keep)
      (first
        | (go_at_call 83; (with_reducible refine (Sign_any w0.drew _ x K (ia.kept (grown_drew (grown_refl _ _))) (by omega) Hla.out).mono ?_); rintro e w1 ⟨rfl, g1⟩; rw [H1.out]; have hG1 := grown_pre w0 g1 rfl rfl rfl rfl; have hS1 := And.intro (hG1.cell ca0 (by simp)) (And.intro (hG1.cell ca1 (by simp)) (And.intro (hG1.cell cb0 (by simp)) (hG1.cell cb1 (by simp)))))
        | (go_at_call 83; (with_reducible refine (Sign_any w1 _ y K (ib.kept hG1) (by omega) Hlb.out).mono ?_); rintro e w2 ⟨rfl, g2⟩; rw [H2.out]; have hG2 := grown_trans hG1 g2; have hS2 := And.intro (hG2.cell ca0 (by simp)) (And.intro (hG2.cell ca1 (by simp)) (And.intro (hG2.cell cb0 (by simp)) (hG2.cell cb1 (by simp))))))
    have hgw := grown_trans hgw0 hG2
    obtain ⟨da0, da1, ga0, ga1⟩ := box_cells (heap_kept hG2 hba)
    obtain ⟨db0, db1, gb0, gb1⟩ := box_cells (heap_kept hG2 hbb)
    have na2 := na.kept hG2
    have nn2 := nn.kept hG2
    go_wp2_with fail)
  · go_ret
    exact ⟨by rw [hz.out]; rfl, hgw⟩
  · go_ret
    exact ⟨by rw [hz.out]; rfl, hgw⟩
  · refine (Cmp_any w2 _ _ y.natAbs x.natAbs K nn2 na2 (by omega) Hlb.out Hla.out).mono ?_
    rintro e w3 ⟨rfl, g3⟩
    go_wp2_with fail
    go_ret
    exact ⟨by rw [← hz.out]; rfl, grown_trans hgw g3⟩
  · refine (Cmp_any w2 _ _ x.natAbs y.natAbs K na2 nn2 (by omega) Hla.out Hlb.out).mono ?_
    rintro e w3 ⟨rfl, g3⟩
    go_wp2_with fail
    go_ret
    exact ⟨by rw [← hz.out]; rfl, grown_trans hgw g3⟩
theorem dec_len {l : List Nat} {m : Nat} (h : DecL l) (hv : dval l < 10 ^ m) (hm : 1 ≤ m) : l.length ≤ m := by
  by_cases h0 : l = [48]
  · rw [h0]; exact hm
  · have ht := dec_top h h0
    have hne : (l.map (· - 48)).reverse ≠ [] := by
      intro e
      have e2 := congrArg List.length e
      simp at e2
      rcases h.2 with h2 | h2
      · rw [e2] at h2; simp at h2
      · exact h2.1 e2
    have h1 := val_ge 10 _ hne ht
    rw [← dig_val h.1, List.length_reverse, List.length_map] at h1
    rcases Nat.lt_or_ge m l.length with h2 | h2
    · have := Nat.pow_le_pow_right (show 0 < 10 by omega) (show m ≤ l.length - 1 by omega)
      omega
    · exact h2
theorem NText_any (w : World) (va : Value) (a K : Nat) (ha : NatV w va a) (hK : K ≤ 1000000) (la : a < B ^ K) :
    Calls Tryz.prog 97 #[va] w (RetText w a) := by
  rcases Nat.eq_zero_or_pos a with h | h
  · subst h; exact Text_zero w va ha
  · exact Text_some w va a K ha h hK la
def ZTextOf (s : ByteArray) (z : Int) : Prop := ∃ l, DecL l ∧ dval l = z.natAbs ∧ bts s = if z < 0 then 45 :: l else l
set_option maxHeartbeats 4000000 in
theorem ZText_any (w : World) (va : Value) (z : Int) (K : Nat) (ha : IntV w va z) (hK : K ≤ 900000) (la : z.natAbs < B ^ K) :
    Calls Tryz.prog 52 #[va] w (fun e w' => ∃ s, e = .returned (.string s) ∧ ZTextOf s z ∧ w.grownBy w' none) := by
  obtain ⟨sa, xs, za, rfl, hx, hv, hza⟩ := ha
  have hgw0 := World.grownBy_alloc w (.cells #[.slice sa xs.length xs.length, .bool za] 29) none
  have hba := heap_new w (.cells #[.slice sa xs.length xs.length, .bool za] 29) w.heap.size rfl
  have ia : IntV (w.alloc (.cells #[.slice sa xs.length xs.length, .bool za] 29)) (.agg #[.slice sa xs.length xs.length, .bool za]) z := ⟨sa, xs, za, rfl, hx.kept hgw0, hv, hza⟩
  have na : NatV (w.alloc (.cells #[.slice sa xs.length xs.length, .bool za] 29)) (.agg #[.slice sa xs.length xs.length]) z.natAbs := ⟨sa, xs, rfl, hx.kept hgw0, hv⟩
  have Hla := Lib.hid la
  obtain ⟨s1, h1⟩ : ∃ s, z.sign = s := ⟨_, rfl⟩
  have H1 := Lib.hid h1
  have hc : (decide (s1 < 0) = true ∧ z < 0) ∨ (decide (s1 < 0) = false ∧ ¬ z < 0) := by
    rcases zsign z with ⟨h, e⟩ | ⟨h, e⟩ | ⟨h, e⟩
    · left; exact ⟨decide_eq_true (by omega), h⟩
    · right; exact ⟨decide_eq_false (by omega), by omega⟩
    · right; exact ⟨decide_eq_false (by omega), by omega⟩
  clear hx hv la hza h1
  rcases hc with ⟨f1, hz⟩ | ⟨f1, hz⟩
  all_goals (
    have HZ := Lib.hid hz
    clear hz
    go_enter Tryz.func52, Tryz.ntmps52
    obtain ⟨ca0, ca1, fa0, fa1⟩ := box_cells hba
    go_wp2_with fail
    refine (Sign_any _ _ z K ia (by omega) Hla.out).mono ?_
    rintro e w1 ⟨rfl, g1⟩
    rw [H1.out]
    obtain ⟨da0, da1, ga0, ga1⟩ := box_cells (heap_kept g1 hba)
    have na1 := na.kept g1
    have hgw1 := grown_trans hgw0 g1
    clear na ia g1
    go_wp2_with fail
    refine (NText_any w1 _ z.natAbs K na1 (by omega) Hla.out).mono ?_
    rintro e w2 ⟨s, rfl, hd, hdv, g2⟩
    have hgw2 := grown_trans hgw1 g2)
  · have hsz : s.size ≤ 20 * K + 1 := by
      rw [← bts_len]
      refine dec_len hd ?_ (by omega)
      rw [hdv]
      refine Nat.lt_of_lt_of_le Hla.out ?_
      have q1 : B ^ K ≤ (10 ^ 20) ^ K := Nat.pow_le_pow_left (by decide) K
      rw [← Nat.pow_mul] at q1
      exact Nat.le_trans q1 (Nat.pow_le_pow_right (by omega) (by omega))
    have hF : Hid (ZTextOf ({ data := #[45] } ++ s) z) := ⟨bts s, hd, hdv, by rw [bts_app, if_pos HZ.out]; rfl⟩
    clear hd hdv g2 na1
    go_wp2_with fail
    go_ret
    exact ⟨_, rfl, hF.out, hgw2⟩
  · have hF : Hid (ZTextOf s z) := ⟨bts s, hd, hdv, by rw [if_neg (by have := HZ.out; omega)]⟩
    clear hd hdv g2 na1
    go_wp2_with fail
    go_ret
    exact ⟨_, rfl, hF.out, hgw2⟩
end Go.Proofs.YtoaepibannfbdaaGreatDoor
namespace Go.Proofs.YtoaepibannfbdaaGreatDoor
open Go.RowKit Mat
set_option maxRecDepth 100000
set_option linter.unusedVariables false
set_option linter.unusedSimpArgs false
def Fits (z : Int) : Prop := -9223372036854775808 ≤ z ∧ z ≤ 9223372036854775807
instance (z : Int) : Decidable (Fits z) := by unfold Fits; infer_instance
def RetSmall (w : World) (z : Int) (e : Ending) (w' : World) : Prop :=
  e = .returned (.tuple #[.int .i64 (if Fits z then z else 0), .bool (decide (Fits z))]) ∧ w.grownBy w' none
theorem ret_small_yes {w w' : World} {z c : Int} (h : Fits z) (hc : c = z) (hg : w.grownBy w' none) : RetSmall w z (.returned (.tuple #[.int .i64 c, .bool true])) w' :=
  ⟨by rw [if_pos h, decide_eq_true h, hc], hg⟩
theorem ret_small_no {w w' : World} {z : Int} (h : ¬ Fits z) (hg : w.grownBy w' none) : RetSmall w z (.returned (.tuple #[.int .i64 0, .bool false])) w' :=
  ⟨by rw [if_neg h, decide_eq_false h], hg⟩
set_option maxHeartbeats 4000000 in
theorem ZSmall_any (w : World) (va : Value) (z : Int) (K : Nat) (ha : IntV w va z) (hK : K ≤ 900000) (la : z.natAbs < B ^ K) :
    Calls Tryz.prog 155 #[va] w (RetSmall w z) := by
  obtain ⟨sa, xs, za, rfl, hx, hv, hza⟩ := ha
  have hgw0 := World.grownBy_alloc w (.cells #[.slice sa xs.length xs.length, .bool za] 29) none
  have hba := heap_new w (.cells #[.slice sa xs.length xs.length, .bool za] 29) w.heap.size rfl
  have ia : IntV (w.alloc (.cells #[.slice sa xs.length xs.length, .bool za] 29)) (.agg #[.slice sa xs.length xs.length, .bool za]) z := ⟨sa, xs, za, rfl, hx.kept hgw0, hv, hza⟩
  have na : NatV (w.alloc (.cells #[.slice sa xs.length xs.length, .bool za] 29)) (.agg #[.slice sa xs.length xs.length]) z.natAbs := ⟨sa, xs, rfl, hx.kept hgw0, hv⟩
  have Hla := Lib.hid la
  obtain ⟨s1, h1⟩ : ∃ s, z.sign = s := ⟨_, rfl⟩
  have H1 := Lib.hid h1
  have hB : B = 18446744073709551616 := rfl
  have hc : (Hid (¬ Fits z) ∧ decide (z.natAbs < B) = false) ∨
      (decide (z.natAbs < B) = true ∧ decide (s1 < 0) = true ∧ decide ((z.natAbs : Int) ≤ 9223372036854775808) = true ∧ Hid (Fits z ∧ z < 0)) ∨
      (decide (z.natAbs < B) = true ∧ decide (s1 < 0) = true ∧ decide (0 ≤ s1) = false ∧ decide ((z.natAbs : Int) ≤ 9223372036854775808) = false ∧ Hid (¬ Fits z)) ∨
      (decide (z.natAbs < B) = true ∧ decide (s1 < 0) = false ∧ decide (0 ≤ s1) = true ∧ decide ((z.natAbs : Int) < 9223372036854775808) = true ∧ Hid (Fits z ∧ 0 ≤ z)) ∨
      (decide (z.natAbs < B) = true ∧ decide (s1 < 0) = false ∧ decide (0 ≤ s1) = true ∧ decide ((z.natAbs : Int) < 9223372036854775808) = false ∧ Hid (¬ Fits z)) := by
    have hs : (z < 0 ∧ s1 < 0) ∨ (0 ≤ z ∧ 0 ≤ s1) := by
      rcases zsign z with ⟨h, e⟩ | ⟨h, e⟩ | ⟨h, e⟩ <;> omega
    have hf : Fits z ↔ (-9223372036854775808 ≤ z ∧ z ≤ 9223372036854775807) := Iff.rfl
    by_cases q : z.natAbs < B
    · right
      rcases hs with ⟨h, k⟩ | ⟨h, k⟩
      · by_cases r : (z.natAbs : Int) ≤ 9223372036854775808
        · left; exact ⟨decide_eq_true q, decide_eq_true k, decide_eq_true r, hf.2 (by omega), h⟩
        · right; left; exact ⟨decide_eq_true q, decide_eq_true k, decide_eq_false (by omega), decide_eq_false r, fun t => by have := hf.1 t; omega⟩
      · by_cases r : (z.natAbs : Int) < 9223372036854775808
        · right; right; left; exact ⟨decide_eq_true q, decide_eq_false (by omega), decide_eq_true k, decide_eq_true r, hf.2 (by omega), h⟩
        · right; right; right; exact ⟨decide_eq_true q, decide_eq_false (by omega), decide_eq_true k, decide_eq_false r, fun t => by have := hf.1 t; omega⟩
    · left; exact ⟨fun t => by have := hf.1 t; omega, decide_eq_false q⟩
  clear hx hv la h1 hza hB
  obtain ⟨x, hx⟩ : ∃ x, z.natAbs = x := ⟨_, rfl⟩
  have HX := Lib.hid hx
  rw [hx] at hc na Hla
  clear hx
  rcases hc with ⟨hz, f0⟩ | ⟨f0, f1, f2, hz⟩ | ⟨f0, f1, f3, f2, hz⟩ | ⟨f0, f1, f3, f2, hz⟩ | ⟨f0, f1, f3, f2, hz⟩
  all_goals (
    obtain ⟨ca0, ca1, fa0, fa1⟩ := box_cells hba
    go_enter Tryz.func155, Tryz.ntmps155
    go_wp2_with fail
    refine (Word_any _ _ x K na (by omega) Hla.out).mono ?_
    rintro e w1 ⟨⟨y, rfl, hy, hy0⟩, g1⟩
    rw [f0]
    have hgw := grown_trans hgw0 g1
    have ia1 := ia.kept g1
    have hba1 := heap_kept g1 hba
    obtain ⟨da0, da1, ga0, ga1⟩ := box_cells hba1
    clear g1 ia hba ca0 ca1 fa0 fa1 na hgw0)
  · clear hy hy0
    have hF : Hid (RetSmall w z (.returned (.tuple #[.int .i64 0, .bool false])) w1) := ret_small_no hz.out hgw
    go_wp2_with fail
    go_ret2
    exact hF.out
  · obtain rfl : y = x := hy (of_decide_eq_true f0)
    clear hy hy0
    go_wp2_with fail
    refine (Sign_any w1 _ z K ia1 (by omega) (by rw [HX.out]; exact Hla.out)).mono ?_
    rintro e w2 ⟨rfl, g2⟩
    rw [H1.out]
    obtain ⟨ea0, ea1, ha0, ha1⟩ := box_cells (heap_kept g2 hba1)
    have hgw2 := grown_trans hgw g2
    go_wp2_with fail
    go_ret2
    refine ret_small_yes hz.out.1 ?_ hgw2
    have q1 := HX.out
    have q2 := hz.out.2
    have q3 := of_decide_eq_true f2
    simp only [IntKind.wrap_u64]
    unfold wrap64
    omega
  · obtain rfl : y = x := hy (of_decide_eq_true f0)
    clear hy hy0
    go_wp2_with fail
    refine (Sign_any w1 _ z K ia1 (by omega) (by rw [HX.out]; exact Hla.out)).mono ?_
    rintro e w2 ⟨rfl, g2⟩
    rw [H1.out]
    have hba2 := heap_kept g2 hba1
    obtain ⟨ea0, ea1, ha0, ha1⟩ := box_cells hba2
    have hgw2 := grown_trans hgw g2
    have ia2 := ia1.kept g2
    go_wp2_with fail
    refine (Sign_any w2 _ z K ia2 (by omega) (by rw [HX.out]; exact Hla.out)).mono ?_
    rintro e w3 ⟨rfl, g3⟩
    rw [H1.out]
    have hF : Hid (RetSmall w z (.returned (.tuple #[.int .i64 0, .bool false])) w3) := ret_small_no hz.out (grown_trans hgw2 g3)
    go_wp2_with fail
    go_ret2
    exact hF.out
  · obtain rfl : y = x := hy (of_decide_eq_true f0)
    clear hy hy0
    go_wp2_with fail
    refine (Sign_any w1 _ z K ia1 (by omega) (by rw [HX.out]; exact Hla.out)).mono ?_
    rintro e w2 ⟨rfl, g2⟩
    rw [H1.out]
    have hba2 := heap_kept g2 hba1
    obtain ⟨ea0, ea1, ha0, ha1⟩ := box_cells hba2
    have hgw2 := grown_trans hgw g2
    have ia2 := ia1.kept g2
    go_wp2_with fail
    refine (Sign_any w2 _ z K ia2 (by omega) (by rw [HX.out]; exact Hla.out)).mono ?_
    rintro e w3 ⟨rfl, g3⟩
    rw [H1.out]
    have hgw3 := grown_trans hgw2 g3
    go_wp2_with fail
    go_ret2
    refine ret_small_yes hz.out.1 ?_ hgw3
    have q1 := HX.out
    have q2 := hz.out.2
    have q3 := of_decide_eq_true f2
    try unfold wrap64
    omega
  · obtain rfl : y = x := hy (of_decide_eq_true f0)
    clear hy hy0
    go_wp2_with fail
    refine (Sign_any w1 _ z K ia1 (by omega) (by rw [HX.out]; exact Hla.out)).mono ?_
    rintro e w2 ⟨rfl, g2⟩
    rw [H1.out]
    have hba2 := heap_kept g2 hba1
    obtain ⟨ea0, ea1, ha0, ha1⟩ := box_cells hba2
    have hgw2 := grown_trans hgw g2
    have ia2 := ia1.kept g2
    go_wp2_with fail
    refine (Sign_any w2 _ z K ia2 (by omega) (by rw [HX.out]; exact Hla.out)).mono ?_
    rintro e w3 ⟨rfl, g3⟩
    rw [H1.out]
    have hF : Hid (RetSmall w z (.returned (.tuple #[.int .i64 0, .bool false])) w3) := ret_small_no hz.out (grown_trans hgw2 g3)
    go_wp2_with fail
    go_ret2
    exact hF.out
end Go.Proofs.YtoaepibannfbdaaGreatDoor
namespace Go.Proofs.YtoaepibannfbdaaGreatDoor
open Go.RowKit Mat
set_option maxRecDepth 100000
set_option linter.unusedVariables false
set_option linter.unusedSimpArgs false
theorem zfl {x y q r : Int} (h0 : 0 ≤ r) (h1 : r < y.natAbs) (h : r + y * q = x) : q = x / y ∧ r = x % y := by
  rcases Int.lt_trichotomy y 0 with hy | hy | hy
  · have t : x / (-y) = -q ∧ x % (-y) = r := (Int.ediv_emod_unique (by omega)).2 ⟨by rw [Int.neg_mul_neg]; exact h, h0, by omega⟩
    rw [Int.ediv_neg, Int.emod_neg] at t
    exact ⟨by omega, t.2.symm⟩
  · subst hy; simp at h1; omega
  · have t : x / y = q ∧ x % y = r := (Int.ediv_emod_unique hy).2 ⟨h, h0, by omega⟩
    exact ⟨t.1.symm, t.2.symm⟩
theorem floor_far {x y : Int} {za zb : Bool} (ha : za = true ↔ x < 0) (hb : zb = true ↔ y < 0) (k r : Nat) (hr : r < y.natAbs) (h : (¬ x < 0 ∧ y.natAbs * k + r = x.natAbs) ∨ (x < 0 ∧ y.natAbs * k = x.natAbs + r)) :
    (if (za != zb) = true then -(k : Int) else k) = x / y ∧ (r : Int) = x % y := by
  refine zfl (by omega) (by omega) ?_
  have e : ((y.natAbs * k : Nat) : Int) = (y.natAbs : Int) * (k : Int) := Int.natCast_mul _ _
  have e1 := side_abs ha
  have e2 := side_abs hb
  obtain ⟨m, hm⟩ : ∃ m : Int, (y.natAbs : Int) = m := ⟨_, rfl⟩
  have f1 : m * -(k : Int) = -(m * k) := Int.mul_neg _ _
  have f2 : -m * (k : Int) = -(m * k) := Int.neg_mul _ _
  have f3 : -m * -(k : Int) = m * k := Int.neg_mul_neg _ _
  rw [hm] at e e2
  generalize y.natAbs * k = p at *
  cases za <;> cases zb <;> simp at e1 e2 ha hb ⊢
  · rw [← e2]; omega
  · rw [← e2, f3]; omega
  · rw [← e2, f1]; omega
  · rw [← e2, f2]; omega
def RetInt2E (w : World) (n k : Int) (code : Int) (e : Ending) (w' : World) : Prop := ∃ v u, e = .returned (.tuple #[v, u, .int .i64 code]) ∧ IntV w' v n ∧ IntV w' u k ∧ w.grownBy w' none
theorem IntV.zero (w : World) : IntV w (.agg #[.slice none 0 0, .bool false]) 0 := ⟨none, [], false, rfl, ⟨Or.inl rfl, fun _ => rfl, by intro x hx; simp at hx, Dig.nil _⟩, rfl, by simp⟩
theorem IntV.set_other {w : World} {v : Value} {n : Int} {g : Nat} {c : Array Value} {t : TypeId} (h : IntV w v n) (hbox : w.heap[g]? = some (.cells c t (0, 0))) (ht : t ≠ 114) (o : Nat) (u : Value) : IntV (w.setCell ⟨g, o, none⟩ u) v n := by
  obtain ⟨sa, xs, b, e, h1, h2⟩ := h
  exact ⟨sa, xs, b, e, h1.set_other hbox ht o u, h2⟩
theorem heap_set_fst {w : World} {g : Nat} {a0 a1 : Value} {t : TypeId} (h : w.heap[g]? = some (.cells #[a0, a1] t (0, 0))) (v0 : Value) : (w.setCell ⟨g, 0, none⟩ v0).heap[g]? = some (.cells #[v0, a1] t (0, 0)) := by
  simp [World.setCell, Array.getElem?_modify, h]
theorem IntV.set2 {w : World} {v : Value} {n : Int} {g : Nat} {a0 a1 : Value} (h : IntV w v n) (hbox : w.heap[g]? = some (.cells #[a0, a1] 29 (0, 0))) (v0 v1 : Value) : IntV ((w.setCell ⟨g, 0, none⟩ v0).setCell ⟨g, 1, none⟩ v1) v n :=
  (h.set_other hbox (by decide) 0 v0).set_other (heap_set_fst hbox v0) (by decide) 1 v1
theorem grown_set2 {w w' : World} {g : Nat} (hg : w.grownBy w' none) (hl : w.heap.size ≤ g) (v0 v1 : Value) : w.grownBy ((w'.setCell ⟨g, 0, none⟩ v0).setCell ⟨g, 1, none⟩ v1) none :=
  grown_new (grown_new hg (grown_set (grown_refl _ _) _ _) hl) (grown_set (grown_refl _ _) _ _) hl
theorem ret_int2 {w w' : World} {x y : Int} {g : Nat} {c0 c1 d0 d1 u0 u1 t0 t1 : Value} {code : Int} (hg : w.grownBy w' none) (hb1 : w'.heap[g]? = some (.cells #[c0, c1] 29 (0, 0))) (hb2 : w'.heap[g + 1]? = some (.cells #[d0, d1] 29 (0, 0))) (hl : w.heap.size ≤ g) (h1 : IntV w' (.agg #[u0, u1]) x) (h2 : IntV w' (.agg #[t0, t1]) y) :
    RetInt2E w x y code (.returned (.tuple #[.agg #[u0, u1], .agg #[t0, t1], .int .i64 code])) ((((w'.setCell ⟨g, 0, none⟩ u0).setCell ⟨g, 1, none⟩ u1).setCell ⟨g + 1, 0, none⟩ t0).setCell ⟨g + 1, 1, none⟩ t1) := by
  have hb2' := heap_unset2 hb2 (show g + 1 ≠ g by omega) u0 u1
  exact ⟨_, _, rfl, (h1.set2 hb1 u0 u1).set2 hb2' t0 t1, (h2.set2 hb1 u0 u1).set2 hb2' t0 t1, grown_set2 (grown_set2 hg hl u0 u1) (by omega) t0 t1⟩
theorem cells_int2 {w : World} {g : Nat} {c0 c1 d0 d1 : Value} {t t' : TypeId} (hb1 : w.heap[g]? = some (.cells #[c0, c1] t (0, 0))) (hb2 : w.heap[g + 1]? = some (.cells #[d0, d1] t' (0, 0))) (u0 u1 t0 t1 : Value) :
    let W := (((w.setCell ⟨g, 0, none⟩ u0).setCell ⟨g, 1, none⟩ u1).setCell ⟨g + 1, 0, none⟩ t0).setCell ⟨g + 1, 1, none⟩ t1
    W.cell? ⟨g, 0, none⟩ = some u0 ∧ W.cell? ⟨g, 1, none⟩ = some u1 ∧ W.cell? ⟨g + 1, 0, none⟩ = some t0 ∧ W.cell? ⟨g + 1, 1, none⟩ = some t1 := by
  intro W
  have e1 := box_cells (heap_unset2 (heap_set2 hb1 u0 u1) (show g ≠ g + 1 by omega) t0 t1)
  have e2 := box_cells (heap_set2 (heap_unset2 hb2 (show g + 1 ≠ g by omega) u0 u1) t0 t1)
  exact ⟨e1.1, e1.2.1, e2.1, e2.2.1⟩
end Go.Proofs.YtoaepibannfbdaaGreatDoor
