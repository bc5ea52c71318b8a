/- Whole numbers below 0 too: which is greater; texts. -/
import Derived.Test.YtljfhiikoimdiaaZedOps
import Derived.Test.YtljfhiikoimdiaaRefText
namespace Go.Proofs.Ytljfhiikoimdiaa
open Go.RowKit Mat
set_option maxRecDepth 100000
set_option linter.unusedVariables false
set_option linter.unusedSimpArgs false

def zcmp (x y : Int) : Int := if x < y then -1 else if x = y then 0 else 1
theorem zcmp_pos {x y : Int} (hx : 0 ≤ x) (hy : 0 ≤ y) : cmpInt x.natAbs y.natAbs = zcmp x y := by
  unfold cmpInt zcmp
  rcases Int.lt_trichotomy x y with h | h | h
  · rw [if_pos (by omega), if_pos h]
  · rw [if_neg (by omega), if_pos (by omega), if_neg (by omega), if_pos h]
  · rw [if_neg (by omega), if_neg (by omega), if_neg (by omega), if_neg (by omega)]
theorem zcmp_neg {x y : Int} (hx : x < 0) (hy : y < 0) : cmpInt y.natAbs x.natAbs = zcmp x y := by
  unfold cmpInt zcmp
  rcases Int.lt_trichotomy x y with h | h | h
  · rw [if_pos (by omega), if_pos h]
  · rw [if_neg (by omega), if_pos (by omega), if_neg (by omega), if_pos h]
  · rw [if_neg (by omega), if_neg (by omega), if_neg (by omega), if_neg (by omega)]
theorem zsign (x : Int) : (x < 0 ∧ x.sign = -1) ∨ (x = 0 ∧ x.sign = 0) ∨ (0 < x ∧ x.sign = 1) := by
  rcases Int.lt_trichotomy x 0 with h | h | h
  · left; exact ⟨h, Int.sign_eq_neg_one_of_neg h⟩
  · right; left; subst h; exact ⟨rfl, rfl⟩
  · right; right; exact ⟨h, Int.sign_eq_one_of_pos h⟩
theorem zcmp_cases (x y : Int) : (x.sign < y.sign ∧ zcmp x y = -1) ∨ (y.sign < x.sign ∧ zcmp x y = 1) ∨ (x.sign = y.sign ∧ x.sign < 0 ∧ x < 0 ∧ y < 0) ∨ (x.sign = y.sign ∧ ¬ x.sign < 0 ∧ 0 ≤ x ∧ 0 ≤ y) := by
  unfold zcmp
  rcases zsign x with ⟨h, e⟩ | ⟨h, e⟩ | ⟨h, e⟩ <;> rcases zsign y with ⟨k, f⟩ | ⟨k, f⟩ | ⟨k, f⟩ <;> rw [e, f]
  · right; right; left; exact ⟨rfl, by omega, h, k⟩
  · left; exact ⟨by omega, if_pos (by omega)⟩
  · left; exact ⟨by omega, if_pos (by omega)⟩
  · right; left; refine ⟨by omega, ?_⟩; rw [if_neg (by omega), if_neg (by omega)]
  · right; right; right; exact ⟨rfl, by omega, by omega, by omega⟩
  · left; exact ⟨by omega, if_pos (by omega)⟩
  · right; left; refine ⟨by omega, ?_⟩; rw [if_neg (by omega), if_neg (by omega)]
  · right; left; refine ⟨by omega, ?_⟩; rw [if_neg (by omega), if_neg (by omega)]
  · right; right; right; exact ⟨rfl, by omega, by omega, by omega⟩

set_option maxHeartbeats 8000000 in
theorem ZCmp_any (w : World) (va vb : Value) (x y : Int) (K : Nat) (ha : IntV w va x) (hb : IntV w vb y) (hK : K ≤ 900000) (la : x.natAbs < B ^ K) (lb : y.natAbs < B ^ K) :
    Calls Try.prog 25 #[va, vb] w (fun e w' => e = .returned (.int .i64 (zcmp x y)) ∧ w.grownBy w' none) := by
  obtain ⟨sa, xs, za, rfl, hx, hv, hza⟩ := ha
  obtain ⟨sb, ys, zb, rfl, hy, hvy, hzb⟩ := hb
  have hgw0 : w.grownBy ((w.alloc (.cells #[.slice sa xs.length xs.length, .bool za] 26)).alloc (.cells #[.slice sb ys.length ys.length, .bool zb] 26)) none := grown_alloc (World.grownBy_alloc _ _ _) _
  have hbb := heap_new (w.alloc (.cells #[.slice sa xs.length xs.length, .bool za] 26)) (.cells #[.slice sb ys.length ys.length, .bool zb] 26) (w.heap.size + 1) (by simp)
  have hba := heap_kept (World.grownBy_alloc _ (.cells #[.slice sb ys.length ys.length, .bool zb] 26) none) (heap_new w (.cells #[.slice sa xs.length xs.length, .bool za] 26) w.heap.size rfl)
  have ia : IntV ((w.alloc (.cells #[.slice sa xs.length xs.length, .bool za] 26)).alloc (.cells #[.slice sb ys.length ys.length, .bool zb] 26)) (.agg #[.slice sa xs.length xs.length, .bool za]) x := ⟨sa, xs, za, rfl, hx.kept hgw0, hv, hza⟩
  have ib : IntV ((w.alloc (.cells #[.slice sa xs.length xs.length, .bool za] 26)).alloc (.cells #[.slice sb ys.length ys.length, .bool zb] 26)) (.agg #[.slice sb ys.length ys.length, .bool zb]) y := ⟨sb, ys, zb, rfl, hy.kept hgw0, hvy, hzb⟩
  have na : NatV ((w.alloc (.cells #[.slice sa xs.length xs.length, .bool za] 26)).alloc (.cells #[.slice sb ys.length ys.length, .bool zb] 26)) (.agg #[.slice sa xs.length xs.length]) x.natAbs := ⟨sa, xs, rfl, hx.kept hgw0, hv⟩
  have nn : NatV ((w.alloc (.cells #[.slice sa xs.length xs.length, .bool za] 26)).alloc (.cells #[.slice sb ys.length ys.length, .bool zb] 26)) (.agg #[.slice sb ys.length ys.length]) y.natAbs := ⟨sb, ys, rfl, hy.kept hgw0, hvy⟩
  have Hla := Lib.hid la
  have Hlb := Lib.hid lb
  have hc := zcmp_cases x y
  obtain ⟨s1, h1⟩ : ∃ s, x.sign = s := ⟨_, rfl⟩
  obtain ⟨s2, h2⟩ : ∃ s, y.sign = s := ⟨_, rfl⟩
  rw [h1, h2] at hc
  have H1 := Lib.hid h1
  have H2 := Lib.hid h2
  clear hx hv hy hvy la lb hza hzb h1 h2
  have hc4 : (decide (s1 < s2) = true ∧ Hid (zcmp x y = -1)) ∨ (decide (s1 < s2) = false ∧ decide (s2 < s1) = true ∧ Hid (zcmp x y = 1)) ∨ (decide (s1 < s2) = false ∧ decide (s2 < s1) = false ∧ decide (s1 < 0) = true ∧ Hid (cmpInt y.natAbs x.natAbs = zcmp x y)) ∨ (decide (s1 < s2) = false ∧ decide (s2 < s1) = false ∧ decide (s1 < 0) = false ∧ Hid (cmpInt x.natAbs y.natAbs = zcmp x y)) := by
    rcases hc with ⟨q, r⟩ | ⟨q, r⟩ | ⟨q, r, t, u⟩ | ⟨q, r, t, u⟩
    · left; exact ⟨decide_eq_true q, r⟩
    · right; left; exact ⟨decide_eq_false (by omega), decide_eq_true q, r⟩
    · right; right; left; exact ⟨decide_eq_false (by omega), decide_eq_false (by omega), decide_eq_true r, zcmp_neg t u⟩
    · right; right; right; exact ⟨decide_eq_false (by omega), decide_eq_false (by omega), decide_eq_false r, zcmp_pos t u⟩
  clear hc
  rcases hc4 with ⟨f1, hz⟩ | ⟨f1, f2, hz⟩ | ⟨f1, f2, f3, hz⟩ | ⟨f1, f2, f3, hz⟩
  all_goals (
    go_enter Try.func25, Try.ntmps25
    go_wp2_with fail
    generalize ((w.alloc (.cells #[.slice sa xs.length xs.length, .bool za] 26)).alloc (.cells #[.slice sb ys.length ys.length, .bool zb] 26)) = w0 at *
    obtain ⟨ca0, ca1, fa0, fa1⟩ := box_cells hba
    obtain ⟨cb0, cb1, fb0, fb1⟩ := box_cells hbb
    go_region_held3 (fun w' => w'.cell? ⟨w.heap.size, 0, none⟩ = some (.slice sa xs.length xs.length) ∧ w'.cell? ⟨w.heap.size, 1, none⟩ = some (.bool za) ∧ w'.cell? ⟨w.heap.size + 1, 0, none⟩ = some (.slice sb ys.length ys.length) ∧ w'.cell? ⟨w.heap.size + 1, 1, none⟩ = some (.bool zb))
      (first | assumption | exact ⟨ca0, ca1, cb0, cb1⟩ | go_keep)
      (first
        | (go_at_call 20; (with_reducible refine (Sign_any w0.drew _ x K (ia.kept (grown_drew (grown_refl _ _))) (by omega) Hla.out).mono ?_); rintro e w1 ⟨rfl, g1⟩; rw [H1.out]; have hG1 := grown_pre w0 g1 rfl rfl rfl rfl; have hS1 := And.intro (hG1.cell ca0 (by simp)) (And.intro (hG1.cell ca1 (by simp)) (And.intro (hG1.cell cb0 (by simp)) (hG1.cell cb1 (by simp)))))
        | (go_at_call 20; (with_reducible refine (Sign_any w1 _ y K (ib.kept hG1) (by omega) Hlb.out).mono ?_); rintro e w2 ⟨rfl, g2⟩; rw [H2.out]; have hG2 := grown_trans hG1 g2; have hS2 := And.intro (hG2.cell ca0 (by simp)) (And.intro (hG2.cell ca1 (by simp)) (And.intro (hG2.cell cb0 (by simp)) (hG2.cell cb1 (by simp))))))
    have hgw := grown_trans hgw0 hG2
    obtain ⟨da0, da1, ga0, ga1⟩ := box_cells (heap_kept hG2 hba)
    obtain ⟨db0, db1, gb0, gb1⟩ := box_cells (heap_kept hG2 hbb)
    have na2 := na.kept hG2
    have nn2 := nn.kept hG2
    go_wp2_with fail)
  · go_ret
    exact ⟨by rw [hz.out]; rfl, hgw⟩
  · go_ret
    exact ⟨by rw [hz.out]; rfl, hgw⟩
  · refine (Cmp_any w2 _ _ y.natAbs x.natAbs K nn2 na2 (by omega) Hlb.out Hla.out).mono ?_
    rintro e w3 ⟨rfl, g3⟩
    go_wp2_with fail
    go_ret
    exact ⟨by rw [← hz.out]; rfl, grown_trans hgw g3⟩
  · refine (Cmp_any w2 _ _ x.natAbs y.natAbs K na2 nn2 (by omega) Hla.out Hlb.out).mono ?_
    rintro e w3 ⟨rfl, g3⟩
    go_wp2_with fail
    go_ret
    exact ⟨by rw [← hz.out]; rfl, grown_trans hgw g3⟩

/-- A text of digits is no longer than its number. -/
theorem dec_len {l : List Nat} {m : Nat} (h : DecL l) (hv : dval l < 10 ^ m) (hm : 1 ≤ m) : l.length ≤ m := by
  by_cases h0 : l = [48]
  · rw [h0]; exact hm
  · have ht := dec_top h h0
    have hne : (l.map (· - 48)).reverse ≠ [] := by
      intro e
      have e2 := congrArg List.length e
      simp at e2
      rcases h.2 with h2 | h2
      · rw [e2] at h2; simp at h2
      · exact h2.1 e2
    have h1 := val_ge 10 _ hne ht
    rw [← dig_val h.1, List.length_reverse, List.length_map] at h1
    rcases Nat.lt_or_ge m l.length with h2 | h2
    · have := Nat.pow_le_pow_right (show 0 < 10 by omega) (show m ≤ l.length - 1 by omega)
      omega
    · exact h2
theorem NText_any (w : World) (va : Value) (a K : Nat) (ha : NatV w va a) (hK : K ≤ 1000000) (la : a < B ^ K) :
    Calls Try.prog 22 #[va] w (RetText w a) := by
  rcases Nat.eq_zero_or_pos a with h | h
  · subst h; exact Text_zero w va ha
  · exact Text_some w va a K ha h hK la
/-- A whole number's text. -/
def ZTextOf (s : ByteArray) (z : Int) : Prop := ∃ l, DecL l ∧ dval l = z.natAbs ∧ bts s = if z < 0 then 45 :: l else l
set_option maxHeartbeats 4000000 in
theorem ZText_any (w : World) (va : Value) (z : Int) (K : Nat) (ha : IntV w va z) (hK : K ≤ 900000) (la : z.natAbs < B ^ K) :
    Calls Try.prog 15 #[va] w (fun e w' => ∃ s, e = .returned (.string s) ∧ ZTextOf s z ∧ w.grownBy w' none) := by
  obtain ⟨sa, xs, za, rfl, hx, hv, hza⟩ := ha
  have hgw0 := World.grownBy_alloc w (.cells #[.slice sa xs.length xs.length, .bool za] 26) none
  have hba := heap_new w (.cells #[.slice sa xs.length xs.length, .bool za] 26) w.heap.size rfl
  have ia : IntV (w.alloc (.cells #[.slice sa xs.length xs.length, .bool za] 26)) (.agg #[.slice sa xs.length xs.length, .bool za]) z := ⟨sa, xs, za, rfl, hx.kept hgw0, hv, hza⟩
  have na : NatV (w.alloc (.cells #[.slice sa xs.length xs.length, .bool za] 26)) (.agg #[.slice sa xs.length xs.length]) z.natAbs := ⟨sa, xs, rfl, hx.kept hgw0, hv⟩
  have Hla := Lib.hid la
  obtain ⟨s1, h1⟩ : ∃ s, z.sign = s := ⟨_, rfl⟩
  have H1 := Lib.hid h1
  have hc : (decide (s1 < 0) = true ∧ z < 0) ∨ (decide (s1 < 0) = false ∧ ¬ z < 0) := by
    rcases zsign z with ⟨h, e⟩ | ⟨h, e⟩ | ⟨h, e⟩
    · left; exact ⟨decide_eq_true (by omega), h⟩
    · right; exact ⟨decide_eq_false (by omega), by omega⟩
    · right; exact ⟨decide_eq_false (by omega), by omega⟩
  clear hx hv la hza h1
  rcases hc with ⟨f1, hz⟩ | ⟨f1, hz⟩
  all_goals (
    have HZ := Lib.hid hz
    clear hz
    go_enter Try.func15, Try.ntmps15
    obtain ⟨ca0, ca1, fa0, fa1⟩ := box_cells hba
    go_wp2_with fail
    refine (Sign_any _ _ z K ia (by omega) Hla.out).mono ?_
    rintro e w1 ⟨rfl, g1⟩
    rw [H1.out]
    obtain ⟨da0, da1, ga0, ga1⟩ := box_cells (heap_kept g1 hba)
    have na1 := na.kept g1
    have hgw1 := grown_trans hgw0 g1
    clear na ia g1
    go_wp2_with fail
    refine (NText_any w1 _ z.natAbs K na1 (by omega) Hla.out).mono ?_
    rintro e w2 ⟨s, rfl, hd, hdv, g2⟩
    have hgw2 := grown_trans hgw1 g2)
  · have hsz : s.size ≤ 20 * K + 1 := by
      rw [← bts_len]
      refine dec_len hd ?_ (by omega)
      rw [hdv]
      refine Nat.lt_of_lt_of_le Hla.out ?_
      have q1 : B ^ K ≤ (10 ^ 20) ^ K := Nat.pow_le_pow_left (by decide) K
      rw [← Nat.pow_mul] at q1
      exact Nat.le_trans q1 (Nat.pow_le_pow_right (by omega) (by omega))
    have hF : Hid (ZTextOf ({ data := #[45] } ++ s) z) := ⟨bts s, hd, hdv, by rw [bts_app, if_pos HZ.out]; rfl⟩
    clear hd hdv g2 na1
    go_wp2_with fail
    go_ret
    exact ⟨_, rfl, hF.out, hgw2⟩
  · have hF : Hid (ZTextOf s z) := ⟨bts s, hd, hdv, by rw [if_neg (by have := HZ.out; omega)]⟩
    clear hd hdv g2 na1
    go_wp2_with fail
    go_ret
    exact ⟨_, rfl, hF.out, hgw2⟩
end Go.Proofs.Ytljfhiikoimdiaa
