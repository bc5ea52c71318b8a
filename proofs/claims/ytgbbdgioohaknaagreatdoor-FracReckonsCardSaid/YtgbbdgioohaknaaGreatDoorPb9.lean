/- What the laws lean on, part 9. -/
import Derived.Test.YtgbbdgioohaknaaGreatDoorPb8
namespace Go.Proofs.YtgbbdgioohaknaaGreatDoor
open Go.RowKit Mat
set_option maxRecDepth 100000
set_option linter.unusedVariables false
set_option linter.unusedSimpArgs false
theorem fo_ {l : List Nat} (h : ∀ k (hk : k < l.length), 48 ≤ l[k] ∧ l[k] ≤ 57) : (((l.map (· - 48)).reverse).map (48 + ·)).reverse = l := by
 rw [List.map_reverse, List.reverse_reverse, List.map_map]
 have : ∀ x ∈ l, ((48 + ·) ∘ (· - 48)) x = x := by
  intro x hx
  obtain ⟨k, hk, rfl⟩ := List.getElem_of_mem hx
  have := h k hk
  simp only [Function.comp]; omega
 rw [List.map_congr_left this]; simp
theorem gz_ {l : List Nat} (h : ∀ k (hk : k < l.length), 48 ≤ l[k] ∧ l[k] ≤ 57) : Dig 10 ((l.map (· - 48)).reverse) := by
 intro x hx
 rw [List.mem_reverse, List.mem_map] at hx
 obtain ⟨y, hy, rfl⟩ := hx
 obtain ⟨k, hk, rfl⟩ := List.getElem_of_mem hy
 have := h k hk
 omega
theorem ek_ {l : List Nat} (h : ∀ k (hk : k < l.length), 48 ≤ l[k] ∧ l[k] ≤ 57) : aC_ l = val 10 ((l.map (· - 48)).reverse) := by
 rw [← ha_, fo_ h]
theorem fq_ {l : List Nat} (h : cF_ l) (h0 : l ≠ [48]) : Top ((l.map (· - 48)).reverse) := by
 rcases h with ⟨h1, h2 | ⟨h2, h3⟩⟩
 · exact absurd h2 h0
 · intro x hx
   rw [List.getLast?_reverse, List.head?_map] at hx
   cases l with
   | nil => exact absurd rfl h2
   | cons d t =>
    simp at hx h3
    have := h1 0 (by simp)
    simp at this
    omega
theorem iY_ {l : List Nat} (h : cF_ l) (h0 : l ≠ [48]) : 0 < aC_ l := by
 rw [ek_ h.1]
 refine gg_ 10 (by omega) _ ?_ (fq_ h h0)
 intro e
 have e2 := congrArg List.length e
 simp at e2
 subst e2
 rcases h.2 with h2 | h2
 · simp at h2
 · exact h2.1 rfl
theorem em_ {l m : List Nat} (hl : cF_ l) (hm : cF_ m) (e : aC_ l = aC_ m) : l = m := by
 by_cases l0 : l = [48]
 · by_cases m0 : m = [48]
   · rw [l0, m0]
   · have := iY_ hm m0
     rw [← e, l0] at this
     exact absurd this (by decide)
 · by_cases m0 : m = [48]
   · have := iY_ hl l0
     rw [e, m0] at this
     exact absurd this (by decide)
   · rw [ek_ hl.1, ek_ hm.1] at e
     have := jy_ 10 (by omega) _ _ (gz_ hl.1) (gz_ hm.1) (fq_ hl l0) (fq_ hm m0) e
     rw [← fo_ hl.1, ← fo_ hm.1, this]
theorem lp_ {s t : ByteArray} (h : bts s = bts t) : s = t := by
 apply ByteArray.ext
 apply Array.ext'
 unfold bts at h
 exact (List.map_inj_right (fun a b e => UInt8.toNat_inj.1 e)).1 h
theorem RefV.zero (w : World) : RefV w (.agg #[.slice none 0 0]) 0 := ⟨none, 0, 0, [], rfl, rfl, Nat.le_refl _, Or.inl rfl, fun x hx => by simp at hx, Dig.nil _, rfl⟩
theorem RefV.set_other {w : World} {v : Value} {n g : Nat} {c : Array Value} {t : TypeId} (h : RefV w v n) (hbox : w.heap[g]? = some (.cells c t (0, 0))) (ht : t ≠ 3) (o : Nat) (u : Value) : RefV (w.setCell ⟨g, o, none⟩ u) v n := by
 obtain ⟨s, k, cap, xs, e, h1, h2, h3, h4⟩ := h
 exact ⟨s, k, cap, xs, e, h1, h2, h3.set_other hbox ht o u, h4⟩
def DigL (l : List Nat) : Prop := ∀ k (h : k < l.length), 48 ≤ l[k] ∧ l[k] ≤ 57
theorem DigL.drop {l : List Nat} (h : DigL l) (n : Nat) : DigL (l.drop n) := by
 intro k hk
 rw [List.getElem_drop]; exact h _ _
theorem fu_ (s t : ByteArray) : bts (s ++ t) = bts s ++ bts t := by
 unfold bts
 rw [ByteArray.data_append, Array.toList_append, List.map_append]
def bt_ (x y : Int) : Int := if x < y then -1 else if x = y then 0 else 1
theorem gG_ {x y : Int} (hx : 0 ≤ x) (hy : 0 ≤ y) : W_ x.natAbs y.natAbs = bt_ x y := by
 unfold W_ bt_
 rcases Int.lt_trichotomy x y with h | h | h
 · rw [if_pos (by omega), if_pos h]
 · rw [if_neg (by omega), if_pos (by omega), if_neg (by omega), if_pos h]
 · rw [if_neg (by omega), if_neg (by omega), if_neg (by omega), if_neg (by omega)]
theorem jv_ {x y : Int} (hx : x < 0) (hy : y < 0) : W_ y.natAbs x.natAbs = bt_ x y := by
 unfold W_ bt_
 rcases Int.lt_trichotomy x y with h | h | h
 · rw [if_pos (by omega), if_pos h]
 · rw [if_neg (by omega), if_pos (by omega), if_neg (by omega), if_pos h]
 · rw [if_neg (by omega), if_neg (by omega), if_neg (by omega), if_neg (by omega)]
theorem bl_ (x : Int) : (x < 0 ∧ x.sign = -1) ∨ (x = 0 ∧ x.sign = 0) ∨ (0 < x ∧ x.sign = 1) := by
 rcases Int.lt_trichotomy x 0 with h | h | h
 · left; exact ⟨h, Int.sign_eq_neg_one_of_neg h⟩
 · right; left; subst h; exact ⟨rfl, rfl⟩
 · right; right; exact ⟨h, Int.sign_eq_one_of_pos h⟩
theorem eF_ (x y : Int) : (x.sign < y.sign ∧ bt_ x y = -1) ∨ (y.sign < x.sign ∧ bt_ x y = 1) ∨ (x.sign = y.sign ∧ x.sign < 0 ∧ x < 0 ∧ y < 0) ∨ (x.sign = y.sign ∧ ¬ x.sign < 0 ∧ 0 ≤ x ∧ 0 ≤ y) := by
 unfold bt_
 rcases bl_ x with ⟨h, e⟩ | ⟨h, e⟩ | ⟨h, e⟩ <;> rcases bl_ y with ⟨k, f⟩ | ⟨k, f⟩ | ⟨k, f⟩ <;> rw [e, f]
 · right; right; left; exact ⟨rfl, by omega, h, k⟩
 · left; exact ⟨by omega, if_pos (by omega)⟩
 · left; exact ⟨by omega, if_pos (by omega)⟩
 · right; left; refine ⟨by omega, ?_⟩; rw [if_neg (by omega), if_neg (by omega)]
 · right; right; right; exact ⟨rfl, by omega, by omega, by omega⟩
 · left; exact ⟨by omega, if_pos (by omega)⟩
 · right; left; refine ⟨by omega, ?_⟩; rw [if_neg (by omega), if_neg (by omega)]
 · right; left; refine ⟨by omega, ?_⟩; rw [if_neg (by omega), if_neg (by omega)]
 · right; right; right; exact ⟨rfl, by omega, by omega, by omega⟩
set_option maxHeartbeats 8000000 in
theorem bw_ (w : World) (va vb : Value) (x y : Int) (K : Nat) (ha : IntV w va x) (hb : IntV w vb y) (hK : K ≤ 900000) (la : x.natAbs < B ^ K) (lb : y.natAbs < B ^ K) :
    Calls Tryz.prog 48 #[va, vb] w (fun e w' => e = .returned (.int .i64 (bt_ x y)) ∧ w.grownBy w' none) := by
 obtain ⟨sa, xs, za, rfl, hx, hv, hza⟩ := ha
 obtain ⟨sb, ys, zb, rfl, hy, hvy, hzb⟩ := hb
 have hgw0 : w.grownBy ((w.alloc (.cells #[.slice sa xs.length xs.length, .bool za] 26)).alloc (.cells #[.slice sb ys.length ys.length, .bool zb] 26)) none := l_ (wg_ _ _ _) _
 have hbb := f_ (w.alloc (.cells #[.slice sa xs.length xs.length, .bool za] 26)) (.cells #[.slice sb ys.length ys.length, .bool zb] 26) (w.heap.size + 1) (by simp)
 have hba := a_ (wg_ _ (.cells #[.slice sb ys.length ys.length, .bool zb] 26) none) (f_ w (.cells #[.slice sa xs.length xs.length, .bool za] 26) w.heap.size rfl)
 have ia : IntV ((w.alloc (.cells #[.slice sa xs.length xs.length, .bool za] 26)).alloc (.cells #[.slice sb ys.length ys.length, .bool zb] 26)) (.agg #[.slice sa xs.length xs.length, .bool za]) x := ⟨sa, xs, za, rfl, hx.kept hgw0, hv, hza⟩
 have ib : IntV ((w.alloc (.cells #[.slice sa xs.length xs.length, .bool za] 26)).alloc (.cells #[.slice sb ys.length ys.length, .bool zb] 26)) (.agg #[.slice sb ys.length ys.length, .bool zb]) y := ⟨sb, ys, zb, rfl, hy.kept hgw0, hvy, hzb⟩
 have na : NatV ((w.alloc (.cells #[.slice sa xs.length xs.length, .bool za] 26)).alloc (.cells #[.slice sb ys.length ys.length, .bool zb] 26)) (.agg #[.slice sa xs.length xs.length]) x.natAbs := ⟨sa, xs, rfl, hx.kept hgw0, hv⟩
 have nn : NatV ((w.alloc (.cells #[.slice sa xs.length xs.length, .bool za] 26)).alloc (.cells #[.slice sb ys.length ys.length, .bool zb] 26)) (.agg #[.slice sb ys.length ys.length]) y.natAbs := ⟨sb, ys, rfl, hy.kept hgw0, hvy⟩
 have Hla := H_ la
 have Hlb := H_ lb
 have hc := eF_ x y
 obtain ⟨s1, h1⟩ : ∃ s, x.sign = s := ⟨_, rfl⟩
 obtain ⟨s2, h2⟩ : ∃ s, y.sign = s := ⟨_, rfl⟩
 rw [h1, h2] at hc
 have H1 := H_ h1
 have H2 := H_ h2
 clear hx hv hy hvy la lb hza hzb h1 h2
 have hc4 : (decide (s1 < s2) = true ∧ Hid (bt_ x y = -1)) ∨ (decide (s1 < s2) = false ∧ decide (s2 < s1) = true ∧ Hid (bt_ x y = 1)) ∨ (decide (s1 < s2) = false ∧ decide (s2 < s1) = false ∧ decide (s1 < 0) = true ∧ Hid (W_ y.natAbs x.natAbs = bt_ x y)) ∨ (decide (s1 < s2) = false ∧ decide (s2 < s1) = false ∧ decide (s1 < 0) = false ∧ Hid (W_ x.natAbs y.natAbs = bt_ x y)) := by
  rcases hc with ⟨q, r⟩ | ⟨q, r⟩ | ⟨q, r, t, u⟩ | ⟨q, r, t, u⟩
  · left; exact ⟨decide_eq_true q, r⟩
  · right; left; exact ⟨decide_eq_false (by omega), decide_eq_true q, r⟩
  · right; right; left; exact ⟨decide_eq_false (by omega), decide_eq_false (by omega), decide_eq_true r, jv_ t u⟩
  · right; right; right; exact ⟨decide_eq_false (by omega), decide_eq_false (by omega), decide_eq_false r, gG_ t u⟩
 clear hc
 rcases hc4 with ⟨f1, hz⟩ | ⟨f1, f2, hz⟩ | ⟨f1, f2, f3, hz⟩ | ⟨f1, f2, f3, hz⟩
 all_goals (
  go_enter Tryz.func48, Tryz.ntmps48
  go_wp2_with fail
  generalize ((w.alloc (.cells #[.slice sa xs.length xs.length, .bool za] 26)).alloc (.cells #[.slice sb ys.length ys.length, .bool zb] 26)) = w0 at *
  obtain ⟨ca0, ca1, fa0, fa1⟩ := c_ hba
  obtain ⟨cb0, cb1, fb0, fb1⟩ := c_ hbb
  go_region_held3 (fun w' => w'.cell? ⟨w.heap.size, 0, none⟩ = some (.slice sa xs.length xs.length) ∧ w'.cell? ⟨w.heap.size, 1, none⟩ = some (.bool za) ∧ w'.cell? ⟨w.heap.size + 1, 0, none⟩ = some (.slice sb ys.length ys.length) ∧ w'.cell? ⟨w.heap.size + 1, 1, none⟩ = some (.bool zb))
   (first | assumption | exact ⟨ca0, ca1, cb0, cb1⟩ | go_keep)
   (first
     | (go_at_call 63; (with_reducible refine (N_ w0.drew _ x K (ia.kept (k_ (h_ _ _))) (by omega) Hla.out).mono ?_); rintro e w1 ⟨rfl, g1⟩; rw [H1.out]; have hG1 := o_ w0 g1 rfl rfl rfl rfl; have hS1 := n_ (hG1.cell ca0 (by simp)) (n_ (hG1.cell ca1 (by simp)) (n_ (hG1.cell cb0 (by simp)) (hG1.cell cb1 (by simp)))))
     | (go_at_call 63; (with_reducible refine (N_ w1 _ y K (ib.kept hG1) (by omega) Hlb.out).mono ?_); rintro e w2 ⟨rfl, g2⟩; rw [H2.out]; have hG2 := d_ hG1 g2; have hS2 := n_ (hG2.cell ca0 (by simp)) (n_ (hG2.cell ca1 (by simp)) (n_ (hG2.cell cb0 (by simp)) (hG2.cell cb1 (by simp))))))
  have hgw := d_ hgw0 hG2
  obtain ⟨da0, da1, ga0, ga1⟩ := c_ (a_ hG2 hba)
  obtain ⟨db0, db1, gb0, gb1⟩ := c_ (a_ hG2 hbb)
  have na2 := na.kept hG2
  have nn2 := nn.kept hG2
  go_wp2_with fail)
 · go_ret
   exact ⟨by rw [hz.out]; rfl, hgw⟩
 · go_ret
   exact ⟨by rw [hz.out]; rfl, hgw⟩
 · refine (jq_ w2 _ _ y.natAbs x.natAbs K nn2 na2 (by omega) Hlb.out Hla.out).mono ?_
   rintro e w3 ⟨rfl, g3⟩
   go_wp2_with fail
   go_ret
   exact ⟨by rw [← hz.out]; rfl, d_ hgw g3⟩
 · refine (jq_ w2 _ _ x.natAbs y.natAbs K na2 nn2 (by omega) Hla.out Hlb.out).mono ?_
   rintro e w3 ⟨rfl, g3⟩
   go_wp2_with fail
   go_ret
   exact ⟨by rw [← hz.out]; rfl, d_ hgw g3⟩
theorem gA_ {l : List Nat} {m : Nat} (h : cF_ l) (hv : aC_ l < 10 ^ m) (hm : 1 ≤ m) : l.length ≤ m := by
 by_cases h0 : l = [48]
 · rw [h0]; exact hm
 · have ht := fq_ h h0
   have hne : (l.map (· - 48)).reverse ≠ [] := by
    intro e
    have e2 := congrArg List.length e
    simp at e2
    rcases h.2 with h2 | h2
    · rw [e2] at h2; simp at h2
    · exact h2.1 e2
   have h1 := eH_ 10 _ hne ht
   rw [← ek_ h.1, List.length_reverse, List.length_map] at h1
   rcases Nat.lt_or_ge m l.length with h2 | h2
   · have := Nat.pow_le_pow_right (show 0 < 10 by omega) (show m ≤ l.length - 1 by omega)
     omega
   · exact h2
theorem jn_ (w : World) (va : Value) (a K : Nat) (ha : NatV w va a) (hK : K ≤ 1000000) (la : a < B ^ K) :
    Calls Tryz.prog 64 #[va] w (bA_ w a) := by
 rcases Nat.eq_zero_or_pos a with h | h
 · subst h; exact jk_ w va ha
 · exact jl_ w va a K ha h hK la
def ar_ (s : ByteArray) (z : Int) : Prop := ∃ l, cF_ l ∧ aC_ l = z.natAbs ∧ bts s = if z < 0 then 45 :: l else l
set_option maxHeartbeats 4000000 in
theorem jj_ (w : World) (va : Value) (z : Int) (K : Nat) (ha : IntV w va z) (hK : K ≤ 900000) (la : z.natAbs < B ^ K) :
    Calls Tryz.prog 18 #[va] w (fun e w' => ∃ s, e = .returned (.string s) ∧ ar_ s z ∧ w.grownBy w' none) := by
 obtain ⟨sa, xs, za, rfl, hx, hv, hza⟩ := ha
 have hgw0 := wg_ w (.cells #[.slice sa xs.length xs.length, .bool za] 26) none
 have hba := f_ w (.cells #[.slice sa xs.length xs.length, .bool za] 26) w.heap.size rfl
 have ia : IntV (w.alloc (.cells #[.slice sa xs.length xs.length, .bool za] 26)) (.agg #[.slice sa xs.length xs.length, .bool za]) z := ⟨sa, xs, za, rfl, hx.kept hgw0, hv, hza⟩
 have na : NatV (w.alloc (.cells #[.slice sa xs.length xs.length, .bool za] 26)) (.agg #[.slice sa xs.length xs.length]) z.natAbs := ⟨sa, xs, rfl, hx.kept hgw0, hv⟩
 have Hla := H_ la
 obtain ⟨s1, h1⟩ : ∃ s, z.sign = s := ⟨_, rfl⟩
 have H1 := H_ h1
 have hc : (decide (s1 < 0) = true ∧ z < 0) ∨ (decide (s1 < 0) = false ∧ ¬ z < 0) := by
  rcases bl_ z with ⟨h, e⟩ | ⟨h, e⟩ | ⟨h, e⟩
  · left; exact ⟨decide_eq_true (by omega), h⟩
  · right; exact ⟨decide_eq_false (by omega), by omega⟩
  · right; exact ⟨decide_eq_false (by omega), by omega⟩
 clear hx hv la hza h1
 rcases hc with ⟨f1, hz⟩ | ⟨f1, hz⟩
 all_goals (
  have HZ := H_ hz
  clear hz
  go_enter Tryz.func18, Tryz.ntmps18
  obtain ⟨ca0, ca1, fa0, fa1⟩ := c_ hba
  go_wp2_with fail
  refine (N_ _ _ z K ia (by omega) Hla.out).mono ?_
  rintro e w1 ⟨rfl, g1⟩
  rw [H1.out]
  obtain ⟨da0, da1, ga0, ga1⟩ := c_ (a_ g1 hba)
  have na1 := na.kept g1
  have hgw1 := d_ hgw0 g1
  clear na ia g1
  go_wp2_with fail
  refine (jn_ w1 _ z.natAbs K na1 (by omega) Hla.out).mono ?_
  rintro e w2 ⟨s, rfl, hd, hdv, g2⟩
  have hgw2 := d_ hgw1 g2)
 · have hsz : s.size ≤ 20 * K + 1 := by
    rw [← z_]
    refine gA_ hd ?_ (by omega)
    rw [hdv]
    refine Nat.lt_of_lt_of_le Hla.out ?_
    have q1 : B ^ K ≤ (10 ^ 20) ^ K := Nat.pow_le_pow_left (by decide) K
    rw [← Nat.pow_mul] at q1
    exact Nat.le_trans q1 (Nat.pow_le_pow_right (by omega) (by omega))
   have hF : Hid (ar_ ({ data := #[45] } ++ s) z) := ⟨bts s, hd, hdv, by rw [fu_, if_pos HZ.out]; rfl⟩
   clear hd hdv g2 na1
   go_wp2_with fail
   go_ret
   exact ⟨_, rfl, hF.out, hgw2⟩
 · have hF : Hid (ar_ s z) := ⟨bts s, hd, hdv, by rw [if_neg (by have := HZ.out; omega)]⟩
   clear hd hdv g2 na1
   go_wp2_with fail
   go_ret
   exact ⟨_, rfl, hF.out, hgw2⟩
def ge_ (z : Int) : Prop := -9223372036854775808 ≤ z ∧ z ≤ 9223372036854775807
instance (z : Int) : Decidable (ge_ z) := by unfold ge_; infer_instance
def cr_ (w : World) (z : Int) (e : Ending) (w' : World) : Prop :=
 e = .returned (.tuple #[.int .i64 (if ge_ z then z else 0), .bool (decide (ge_ z))]) ∧ w.grownBy w' none
theorem cN_ {w w' : World} {z c : Int} (h : ge_ z) (hc : c = z) (hg : w.grownBy w' none) : cr_ w z (.returned (.tuple #[.int .i64 c, .bool true])) w' :=
 ⟨by rw [if_pos h, decide_eq_true h, hc], hg⟩
theorem bV_ {w w' : World} {z : Int} (h : ¬ ge_ z) (hg : w.grownBy w' none) : cr_ w z (.returned (.tuple #[.int .i64 0, .bool false])) w' :=
 ⟨by rw [if_neg h, decide_eq_false h], hg⟩
set_option maxHeartbeats 4000000 in
theorem hP_ (w : World) (va : Value) (z : Int) (K : Nat) (ha : IntV w va z) (hK : K ≤ 900000) (la : z.natAbs < B ^ K) :
    Calls Tryz.prog 121 #[va] w (cr_ w z) := by
 obtain ⟨sa, xs, za, rfl, hx, hv, hza⟩ := ha
 have hgw0 := wg_ w (.cells #[.slice sa xs.length xs.length, .bool za] 26) none
 have hba := f_ w (.cells #[.slice sa xs.length xs.length, .bool za] 26) w.heap.size rfl
 have ia : IntV (w.alloc (.cells #[.slice sa xs.length xs.length, .bool za] 26)) (.agg #[.slice sa xs.length xs.length, .bool za]) z := ⟨sa, xs, za, rfl, hx.kept hgw0, hv, hza⟩
 have na : NatV (w.alloc (.cells #[.slice sa xs.length xs.length, .bool za] 26)) (.agg #[.slice sa xs.length xs.length]) z.natAbs := ⟨sa, xs, rfl, hx.kept hgw0, hv⟩
 have Hla := H_ la
 obtain ⟨s1, h1⟩ : ∃ s, z.sign = s := ⟨_, rfl⟩
 have H1 := H_ h1
 have hB : B = 18446744073709551616 := rfl
 have hc : (Hid (¬ ge_ z) ∧ decide (z.natAbs < B) = false) ∨
     (decide (z.natAbs < B) = true ∧ decide (s1 < 0) = true ∧ decide ((z.natAbs : Int) ≤ 9223372036854775808) = true ∧ Hid (ge_ z ∧ z < 0)) ∨
     (decide (z.natAbs < B) = true ∧ decide (s1 < 0) = true ∧ decide (0 ≤ s1) = false ∧ decide ((z.natAbs : Int) ≤ 9223372036854775808) = false ∧ Hid (¬ ge_ z)) ∨
     (decide (z.natAbs < B) = true ∧ decide (s1 < 0) = false ∧ decide (0 ≤ s1) = true ∧ decide ((z.natAbs : Int) < 9223372036854775808) = true ∧ Hid (ge_ z ∧ 0 ≤ z)) ∨
     (decide (z.natAbs < B) = true ∧ decide (s1 < 0) = false ∧ decide (0 ≤ s1) = true ∧ decide ((z.natAbs : Int) < 9223372036854775808) = false ∧ Hid (¬ ge_ z)) := by
  have hs : (z < 0 ∧ s1 < 0) ∨ (0 ≤ z ∧ 0 ≤ s1) := by
   rcases bl_ z with ⟨h, e⟩ | ⟨h, e⟩ | ⟨h, e⟩ <;> omega
  have hf : ge_ z ↔ (-9223372036854775808 ≤ z ∧ z ≤ 9223372036854775807) := Iff.rfl
  by_cases q : z.natAbs < B
  · right
    rcases hs with ⟨h, k⟩ | ⟨h, k⟩
    · by_cases r : (z.natAbs : Int) ≤ 9223372036854775808
      · left; exact ⟨decide_eq_true q, decide_eq_true k, decide_eq_true r, hf.2 (by omega), h⟩
      · right; left; exact ⟨decide_eq_true q, decide_eq_true k, decide_eq_false (by omega), decide_eq_false r, fun t => by have := hf.1 t; omega⟩
    · by_cases r : (z.natAbs : Int) < 9223372036854775808
      · right; right; left; exact ⟨decide_eq_true q, decide_eq_false (by omega), decide_eq_true k, decide_eq_true r, hf.2 (by omega), h⟩
      · right; right; right; exact ⟨decide_eq_true q, decide_eq_false (by omega), decide_eq_true k, decide_eq_false r, fun t => by have := hf.1 t; omega⟩
  · left; exact ⟨fun t => by have := hf.1 t; omega, decide_eq_false q⟩
 clear hx hv la h1 hza hB
 obtain ⟨x, hx⟩ : ∃ x, z.natAbs = x := ⟨_, rfl⟩
 have HX := H_ hx
 rw [hx] at hc na Hla
 clear hx
 rcases hc with ⟨hz, f0⟩ | ⟨f0, f1, f2, hz⟩ | ⟨f0, f1, f3, f2, hz⟩ | ⟨f0, f1, f3, f2, hz⟩ | ⟨f0, f1, f3, f2, hz⟩
 all_goals (
  obtain ⟨ca0, ca1, fa0, fa1⟩ := c_ hba
  go_enter Tryz.func121, Tryz.ntmps121
  go_wp2_with fail
  refine (kq_ _ _ x K na (by omega) Hla.out).mono ?_
  rintro e w1 ⟨⟨y, rfl, hy, hy0⟩, g1⟩
  rw [f0]
  have hgw := d_ hgw0 g1
  have ia1 := ia.kept g1
  have hba1 := a_ g1 hba
  obtain ⟨da0, da1, ga0, ga1⟩ := c_ hba1
  clear g1 ia hba ca0 ca1 fa0 fa1 na hgw0)
 · clear hy hy0
   have hF : Hid (cr_ w z (.returned (.tuple #[.int .i64 0, .bool false])) w1) := bV_ hz.out hgw
   go_wp2_with fail
   go_ret2
   exact hF.out
 · obtain rfl : y = x := hy (of_decide_eq_true f0)
   clear hy hy0
   go_wp2_with fail
   refine (N_ w1 _ z K ia1 (by omega) (by rw [HX.out]; exact Hla.out)).mono ?_
   rintro e w2 ⟨rfl, g2⟩
   rw [H1.out]
   obtain ⟨ea0, ea1, ha0, ha1⟩ := c_ (a_ g2 hba1)
   have hgw2 := d_ hgw g2
   go_wp2_with fail
   go_ret2
   refine cN_ hz.out.1 ?_ hgw2
   have q1 := HX.out
   have q2 := hz.out.2
   have q3 := of_decide_eq_true f2
   simp only [IntKind.wrap_u64]
   unfold wrap64
   omega
 · obtain rfl : y = x := hy (of_decide_eq_true f0)
   clear hy hy0
   go_wp2_with fail
   refine (N_ w1 _ z K ia1 (by omega) (by rw [HX.out]; exact Hla.out)).mono ?_
   rintro e w2 ⟨rfl, g2⟩
   rw [H1.out]
   have hba2 := a_ g2 hba1
   obtain ⟨ea0, ea1, ha0, ha1⟩ := c_ hba2
   have hgw2 := d_ hgw g2
   have ia2 := ia1.kept g2
   go_wp2_with fail
   refine (N_ w2 _ z K ia2 (by omega) (by rw [HX.out]; exact Hla.out)).mono ?_
   rintro e w3 ⟨rfl, g3⟩
   rw [H1.out]
   have hF : Hid (cr_ w z (.returned (.tuple #[.int .i64 0, .bool false])) w3) := bV_ hz.out (d_ hgw2 g3)
   go_wp2_with fail
   go_ret2
   exact hF.out
 · obtain rfl : y = x := hy (of_decide_eq_true f0)
   clear hy hy0
   go_wp2_with fail
   refine (N_ w1 _ z K ia1 (by omega) (by rw [HX.out]; exact Hla.out)).mono ?_
   rintro e w2 ⟨rfl, g2⟩
   rw [H1.out]
   have hba2 := a_ g2 hba1
   obtain ⟨ea0, ea1, ha0, ha1⟩ := c_ hba2
   have hgw2 := d_ hgw g2
   have ia2 := ia1.kept g2
   go_wp2_with fail
   refine (N_ w2 _ z K ia2 (by omega) (by rw [HX.out]; exact Hla.out)).mono ?_
   rintro e w3 ⟨rfl, g3⟩
   rw [H1.out]
   have hgw3 := d_ hgw2 g3
   go_wp2_with fail
   go_ret2
   refine cN_ hz.out.1 ?_ hgw3
   have q1 := HX.out
   have q2 := hz.out.2
   have q3 := of_decide_eq_true f2
   try unfold wrap64
   omega
 · obtain rfl : y = x := hy (of_decide_eq_true f0)
   clear hy hy0
   go_wp2_with fail
   refine (N_ w1 _ z K ia1 (by omega) (by rw [HX.out]; exact Hla.out)).mono ?_
   rintro e w2 ⟨rfl, g2⟩
   rw [H1.out]
   have hba2 := a_ g2 hba1
   obtain ⟨ea0, ea1, ha0, ha1⟩ := c_ hba2
   have hgw2 := d_ hgw g2
   have ia2 := ia1.kept g2
   go_wp2_with fail
   refine (N_ w2 _ z K ia2 (by omega) (by rw [HX.out]; exact Hla.out)).mono ?_
   rintro e w3 ⟨rfl, g3⟩
   rw [H1.out]
   have hF : Hid (cr_ w z (.returned (.tuple #[.int .i64 0, .bool false])) w3) := bV_ hz.out (d_ hgw2 g3)
   go_wp2_with fail
   go_ret2
   exact hF.out
theorem zfl {x y q r : Int} (h0 : 0 ≤ r) (h1 : r < y.natAbs) (h : r + y * q = x) : q = x / y ∧ r = x % y := by
 rcases Int.lt_trichotomy y 0 with hy | hy | hy
 · have t : x / (-y) = -q ∧ x % (-y) = r := (Int.ediv_emod_unique (by omega)).2 ⟨by rw [Int.neg_mul_neg]; exact h, h0, by omega⟩
   rw [Int.ediv_neg, Int.emod_neg] at t
   exact ⟨by omega, t.2.symm⟩
 · subst hy; simp at h1; omega
 · have t : x / y = q ∧ x % y = r := (Int.ediv_emod_unique hy).2 ⟨h, h0, by omega⟩
   exact ⟨t.1.symm, t.2.symm⟩
theorem fT_ {x y : Int} {za zb : Bool} (ha : za = true ↔ x < 0) (hb : zb = true ↔ y < 0) (k r : Nat) (hr : r < y.natAbs) (h : (¬ x < 0 ∧ y.natAbs * k + r = x.natAbs) ∨ (x < 0 ∧ y.natAbs * k = x.natAbs + r)) :
    (if (za != zb) = true then -(k : Int) else k) = x / y ∧ (r : Int) = x % y := by
 refine zfl (by omega) (by omega) ?_
 have e : ((y.natAbs * k : Nat) : Int) = (y.natAbs : Int) * (k : Int) := Int.natCast_mul _ _
 have e1 := cM_ ha
 have e2 := cM_ hb
 obtain ⟨m, hm⟩ : ∃ m : Int, (y.natAbs : Int) = m := ⟨_, rfl⟩
 have f1 : m * -(k : Int) = -(m * k) := Int.mul_neg _ _
 have f2 : -m * (k : Int) = -(m * k) := Int.neg_mul _ _
 have f3 : -m * -(k : Int) = m * k := Int.neg_mul_neg _ _
 rw [hm] at e e2
 generalize y.natAbs * k = p at *
 cases za <;> cases zb <;> simp at e1 e2 ha hb ⊢
 · rw [← e2]; omega
 · rw [← e2, f3]; omega
 · rw [← e2, f1]; omega
 · rw [← e2, f2]; omega
def bx_ (w : World) (n k : Int) (code : Int) (e : Ending) (w' : World) : Prop := ∃ v u, e = .returned (.tuple #[v, u, .int .i64 code]) ∧ IntV w' v n ∧ IntV w' u k ∧ w.grownBy w' none
theorem IntV.zero (w : World) : IntV w (.agg #[.slice none 0 0, .bool false]) 0 := ⟨none, [], false, rfl, ⟨Or.inl rfl, fun _ => rfl, by intro x hx; simp at hx, Dig.nil _⟩, rfl, by simp⟩
theorem IntV.set_other {w : World} {v : Value} {n : Int} {g : Nat} {c : Array Value} {t : TypeId} (h : IntV w v n) (hbox : w.heap[g]? = some (.cells c t (0, 0))) (ht : t ≠ 96) (o : Nat) (u : Value) : IntV (w.setCell ⟨g, o, none⟩ u) v n := by
 obtain ⟨sa, xs, b, e, h1, h2⟩ := h
 exact ⟨sa, xs, b, e, h1.set_other hbox ht o u, h2⟩
theorem fS_ {w : World} {g : Nat} {a0 a1 : Value} {t : TypeId} (h : w.heap[g]? = some (.cells #[a0, a1] t (0, 0))) (v0 : Value) : (w.setCell ⟨g, 0, none⟩ v0).heap[g]? = some (.cells #[v0, a1] t (0, 0)) := by
 simp [World.setCell, Array.getElem?_modify, h]
theorem IntV.set2 {w : World} {v : Value} {n : Int} {g : Nat} {a0 a1 : Value} (h : IntV w v n) (hbox : w.heap[g]? = some (.cells #[a0, a1] 26 (0, 0))) (v0 v1 : Value) : IntV ((w.setCell ⟨g, 0, none⟩ v0).setCell ⟨g, 1, none⟩ v1) v n :=
 (h.set_other hbox (by decide) 0 v0).set_other (fS_ hbox v0) (by decide) 1 v1
theorem t_ {w w' : World} {g : Nat} (hg : w.grownBy w' none) (hl : w.heap.size ≤ g) (v0 v1 : Value) : w.grownBy ((w'.setCell ⟨g, 0, none⟩ v0).setCell ⟨g, 1, none⟩ v1) none :=
 s_ (s_ hg (q_ (h_ _ _) _ _) hl) (q_ (h_ _ _) _ _) hl
theorem cj_ {w w' : World} {x y : Int} {g : Nat} {c0 c1 d0 d1 u0 u1 t0 t1 : Value} {code : Int} (hg : w.grownBy w' none) (hb1 : w'.heap[g]? = some (.cells #[c0, c1] 26 (0, 0))) (hb2 : w'.heap[g + 1]? = some (.cells #[d0, d1] 26 (0, 0))) (hl : w.heap.size ≤ g) (h1 : IntV w' (.agg #[u0, u1]) x) (h2 : IntV w' (.agg #[t0, t1]) y) :
    bx_ w x y code (.returned (.tuple #[.agg #[u0, u1], .agg #[t0, t1], .int .i64 code])) ((((w'.setCell ⟨g, 0, none⟩ u0).setCell ⟨g, 1, none⟩ u1).setCell ⟨g + 1, 0, none⟩ t0).setCell ⟨g + 1, 1, none⟩ t1) := by
 have hb2' := e_ hb2 (show g + 1 ≠ g by omega) u0 u1
 exact ⟨_, _, rfl, (h1.set2 hb1 u0 u1).set2 hb2' t0 t1, (h2.set2 hb1 u0 u1).set2 hb2' t0 t1, t_ (t_ hg hl u0 u1) (by omega) t0 t1⟩
theorem aE_ {w : World} {g : Nat} {c0 c1 d0 d1 : Value} {t t' : TypeId} (hb1 : w.heap[g]? = some (.cells #[c0, c1] t (0, 0))) (hb2 : w.heap[g + 1]? = some (.cells #[d0, d1] t' (0, 0))) (u0 u1 t0 t1 : Value) :
    let W := (((w.setCell ⟨g, 0, none⟩ u0).setCell ⟨g, 1, none⟩ u1).setCell ⟨g + 1, 0, none⟩ t0).setCell ⟨g + 1, 1, none⟩ t1
    W.cell? ⟨g, 0, none⟩ = some u0 ∧ W.cell? ⟨g, 1, none⟩ = some u1 ∧ W.cell? ⟨g + 1, 0, none⟩ = some t0 ∧ W.cell? ⟨g + 1, 1, none⟩ = some t1 := by
 intro W
 have e1 := c_ (e_ (m_ hb1 u0 u1) (show g ≠ g + 1 by omega) t0 t1)
 have e2 := c_ (m_ (e_ hb2 (show g + 1 ≠ g by omega) u0 u1) t0 t1)
 exact ⟨e1.1, e1.2.1, e2.1, e2.2.1⟩
theorem co_ {w : World} {s : Option Addr} {xs : List Nat} {r : Nat} {z : Int} (h : Lm w s xs) (hv : val B xs = r) (e : (r : Int) = z) : IntV w (.agg #[.slice s xs.length xs.length, .bool false]) z :=
 ⟨s, xs, false, rfl, h, by omega, by constructor <;> intro h <;> first | cases h | omega⟩
theorem kH_ (w : World) : Calls Tryz.prog 71 #[.int .u64 1] w (bK_ w 1) := jm_ w 1 (by decide)
set_option maxHeartbeats 8000000 in
theorem O_ (w : World) (va vb : Value) (x y : Int) (K : Nat) (ha : IntV w va x) (hb : IntV w vb y) (hK : K ≤ 900000) (la : x.natAbs < B ^ K) (lb : y.natAbs < B ^ K) (h0 : y ≠ 0) :
    Calls Tryz.prog 109 #[va, vb] w (bx_ w (x / y) (x % y) 0) := by
 obtain ⟨sa, xs, za, rfl, hx, hv, hza⟩ := ha
 obtain ⟨sb, ys, zb, rfl, hy, hvy, hzb⟩ := hb
 have hgw0 : w.grownBy ((((w.alloc (.cells #[.slice sa xs.length xs.length, .bool za] 26)).alloc (.cells #[.slice sb ys.length ys.length, .bool zb] 26)).alloc (.cells #[.slice none 0 0, .bool false] 26)).alloc (.cells #[.slice none 0 0, .bool false] 26)) none := l_ (l_ (l_ (wg_ _ _ _) _) _) _
 have na : NatV ((((w.alloc (.cells #[.slice sa xs.length xs.length, .bool za] 26)).alloc (.cells #[.slice sb ys.length ys.length, .bool zb] 26)).alloc (.cells #[.slice none 0 0, .bool false] 26)).alloc (.cells #[.slice none 0 0, .bool false] 26)) (.agg #[.slice sa xs.length xs.length]) x.natAbs := ⟨sa, xs, rfl, hx.kept hgw0, hv⟩
 have nn : NatV ((((w.alloc (.cells #[.slice sa xs.length xs.length, .bool za] 26)).alloc (.cells #[.slice sb ys.length ys.length, .bool zb] 26)).alloc (.cells #[.slice none 0 0, .bool false] 26)).alloc (.cells #[.slice none 0 0, .bool false] 26)) (.agg #[.slice sb ys.length ys.length]) y.natAbs := ⟨sb, ys, rfl, hy.kept hgw0, hvy⟩
 have ia : IntV ((((w.alloc (.cells #[.slice sa xs.length xs.length, .bool za] 26)).alloc (.cells #[.slice sb ys.length ys.length, .bool zb] 26)).alloc (.cells #[.slice none 0 0, .bool false] 26)).alloc (.cells #[.slice none 0 0, .bool false] 26)) (.agg #[.slice sa xs.length xs.length, .bool za]) x := ⟨sa, xs, za, rfl, hx.kept hgw0, hv, hza⟩
 have hR2 := f_ (((w.alloc (.cells #[.slice sa xs.length xs.length, .bool za] 26)).alloc (.cells #[.slice sb ys.length ys.length, .bool zb] 26)).alloc (.cells #[.slice none 0 0, .bool false] 26)) (.cells #[.slice none 0 0, .bool false] 26) (w.heap.size + 1 + 1 + 1) (by simp)
 have hR1 := a_ (wg_ _ (.cells #[.slice none 0 0, .bool false] 26) none) (f_ ((w.alloc (.cells #[.slice sa xs.length xs.length, .bool za] 26)).alloc (.cells #[.slice sb ys.length ys.length, .bool zb] 26)) (.cells #[.slice none 0 0, .bool false] 26) (w.heap.size + 1 + 1) (by simp))
 have hbb := a_ (l_ (wg_ _ (.cells #[.slice none 0 0, .bool false] 26) none) (.cells #[.slice none 0 0, .bool false] 26)) (f_ (w.alloc (.cells #[.slice sa xs.length xs.length, .bool za] 26)) (.cells #[.slice sb ys.length ys.length, .bool zb] 26) (w.heap.size + 1) (by simp))
 have hba := a_ (l_ (l_ (wg_ _ (.cells #[.slice sb ys.length ys.length, .bool zb] 26) none) (.cells #[.slice none 0 0, .bool false] 26)) (.cells #[.slice none 0 0, .bool false] 26)) (f_ w (.cells #[.slice sa xs.length xs.length, .bool za] 26) w.heap.size rfl)
 have hs4 : ((((w.alloc (.cells #[.slice sa xs.length xs.length, .bool za] 26)).alloc (.cells #[.slice sb ys.length ys.length, .bool zb] 26)).alloc (.cells #[.slice none 0 0, .bool false] 26)).alloc (.cells #[.slice none 0 0, .bool false] 26)).heap.size = w.heap.size + 4 := by simp
 have Hla := H_ la
 have Hlb := H_ lb
 obtain ⟨X, hX⟩ : ∃ X, x / y = X := ⟨_, rfl⟩
 obtain ⟨Y, hY⟩ : ∃ Y, x % y = Y := ⟨_, rfl⟩
 rw [hX, hY]
 have hC : 0 < y.natAbs := by omega
 have hdm := Nat.div_add_mod x.natAbs y.natAbs
 have hml := Nat.mod_lt x.natAbs hC
 have hlq := Nat.lt_of_le_of_lt (Nat.div_le_self x.natAbs y.natAbs) la
 have hlr := Nat.lt_of_le_of_lt (Nat.mod_le x.natAbs y.natAbs) la
 obtain ⟨q, hq⟩ : ∃ q, x.natAbs / y.natAbs = q := ⟨_, rfl⟩
 obtain ⟨r, hr⟩ : ∃ r, x.natAbs % y.natAbs = r := ⟨_, rfl⟩
 rw [hq] at hdm hlq
 rw [hr] at hdm hml hlr
 obtain ⟨s0, h1⟩ : ∃ s, x.sign = s := ⟨_, rfl⟩
 have H1 := H_ h1
 have hs := bl_ x
 rw [h1] at hs
 have HQ := H_ hq
 have HR := H_ hr
 have HLQ := H_ hlq
 have HLR := H_ hlr
 have HC := H_ hC
 have FF : Hid (∀ k t, t < y.natAbs → (¬ x < 0 ∧ y.natAbs * k + t = x.natAbs) ∨ (x < 0 ∧ y.natAbs * k = x.natAbs + t) → (if (za != zb) = true then -(k : Int) else k) = X ∧ (t : Int) = Y) := fun k t ht h => by rw [← hX, ← hY]; exact fT_ hza hzb k t ht h
 have hc : (za = false ∧ decide (s0 < 0) = false ∧ Hid ((if (za != zb) = true then -(q : Int) else q) = X ∧ (r : Int) = Y)) ∨ (za = true ∧ decide (s0 < 0) = true ∧ Hid (r = 0) ∧ Hid ((if (za != zb) = true then -(q : Int) else q) = X ∧ (r : Int) = Y)) ∨ (za = true ∧ decide (s0 < 0) = true ∧ Hid (0 < r) ∧ Hid ((if (za != zb) = true then -((q + 1 : Nat) : Int) else ((q + 1 : Nat) : Int)) = X ∧ ((y.natAbs - r : Nat) : Int) = Y)) := by
  by_cases q1 : x < 0
  · right
    have e1 := hza.2 q1
    have e2 : decide (s0 < 0) = true := decide_eq_true (by rcases hs with ⟨h, e⟩ | ⟨h, e⟩ | ⟨h, e⟩ <;> omega)
    rcases Nat.eq_zero_or_pos r with h | h
    · left; exact ⟨e1, e2, h, FF.out q r hml (Or.inr ⟨q1, by omega⟩)⟩
    · right; refine ⟨e1, e2, h, FF.out (q + 1) (y.natAbs - r) (by omega) (Or.inr ⟨q1, ?_⟩)⟩
      rw [Nat.mul_succ]; omega
  · left
    refine ⟨?_, decide_eq_false (by rcases hs with ⟨h, e⟩ | ⟨h, e⟩ | ⟨h, e⟩ <;> omega), FF.out q r hml (Or.inl ⟨q1, by omega⟩)⟩
    cases za
    · rfl
    · exact absurd (hza.1 rfl) q1
 have HML := H_ hml
 clear hx hv hy hvy la lb hza hzb hX hY hC hdm hml hlq hlr hq hr h1 hs FF h0
 obtain ⟨C, hCC⟩ : ∃ C, y.natAbs = C := ⟨_, rfl⟩
 obtain ⟨M, hMM⟩ : ∃ M, x.natAbs = M := ⟨_, rfl⟩
 rw [hCC] at HQ HR HC HML Hlb hc nn
 rw [hMM] at HQ HR Hla na
 have HMM := H_ hMM
 clear hCC hMM
 rcases hc with ⟨rfl, f1, hz⟩ | ⟨rfl, f1, hr0, hz⟩ | ⟨rfl, f1, hr0, hz⟩
 · cases zb
   · have HSG : Hid (∀ W v, NatV W v q → Calls Tryz.prog 105 #[v, .bool false] W (x_ W X)) := fun W v hn => by
      have t := J_ W v _ K false hn (by omega) HLQ.out
      rw [show (if false = true then -(q : Int) else (q : Int)) = X from hz.out.1] at t
      exact t
     go_enter Tryz.func109, Tryz.ntmps109
     obtain ⟨ca0, ca1, fa0, fa1⟩ := c_ hba
     obtain ⟨cb0, cb1, fb0, fb1⟩ := c_ hbb
     go_wp2_with fail
     refine (cu_ _ _ _ M C K na nn (by omega) Hla.out Hlb.out HC.out).mono ?_
     rw [HQ.out, HR.out]
     rintro e w1 ⟨v1, v2, rfl, ⟨s1, x1, rfl, h1, vv1⟩, ⟨s2, x2, rfl, h2, vv2⟩, g1⟩
     have hsz : w.heap.size + 1 + 1 + 1 < w1.heap.size := by have := g1.4; rw [hs4] at this; omega
     have g0 := l_ (wg_ w1 (.cells #[.slice s1 x1.length x1.length] 24) none) (.cells #[.slice s2 x2.length x2.length] 24)
     have gA := d_ g1 g0
     have hq := a_ (wg_ _ (.cells #[.slice s2 x2.length x2.length] 24) none) (f_ w1 (.cells #[.slice s1 x1.length x1.length] 24) w1.heap.size rfl)
     have hr := f_ (w1.alloc (.cells #[.slice s1 x1.length x1.length] 24)) (.cells #[.slice s2 x2.length x2.length] 24) (w1.heap.size + 1) (by simp)
     have L1 := h1.kept g0
     have L2 := h2.kept g0
     have V1 := H_ vv1
     have V2 := H_ vv2
     replace hba := a_ gA hba
     replace hbb := a_ gA hbb
     replace hR1 := a_ gA hR1
     replace hR2 := a_ gA hR2
     replace ia := ia.kept gA
     replace hgw0 := d_ hgw0 gA
     clear ca0 ca1 fa0 fa1 cb0 cb1 fb0 fb1 na h1 h2 vv1 vv2 g1 g0 gA hs4
     obtain ⟨ca0, ca1, fa0, fa1⟩ := c_ hba
     go_wp2_with fail
     generalize ((w1.alloc (.cells #[.slice s1 x1.length x1.length] 24)).alloc (.cells #[.slice s2 x2.length x2.length] 24)) = w2 at *
     generalize w1.heap.size = G at *
     clear ca0 ca1 fa0 fa1 w1
     refine (N_ w2 _ x K ia (by omega) (by rw [HMM.out]; exact Hla.out)).mono ?_
     rintro e w3 ⟨rfl, g3⟩
     rw [H1.out]
     replace hba := a_ g3 hba
     replace hbb := a_ g3 hbb
     replace hR1 := a_ g3 hR1
     replace hR2 := a_ g3 hR2
     replace hq := a_ g3 hq
     replace hr := a_ g3 hr
     replace L1 := L1.kept g3
     replace L2 := L2.kept g3
     replace hgw0 := d_ hgw0 g3
     clear g3
     obtain ⟨cr, fr⟩ := j_ hr
     go_wp2_with fail
     obtain ⟨ca0, ca1, fa0, fa1⟩ := c_ hba
     obtain ⟨cb0, cb1, fb0, fb1⟩ := c_ hbb
     obtain ⟨cq, fq⟩ := j_ hq
     try clear cr fr
     obtain ⟨cr, fr⟩ := j_ hr
     have nq : NatV w3 (.agg #[.slice s1 x1.length x1.length]) _ := ⟨_, _, rfl, L1, V1.out⟩
     go_region_held3 (fun w' => w'.cell? ⟨w.heap.size, 1, none⟩ = some (.bool false) ∧ w'.cell? ⟨w.heap.size + 1, 1, none⟩ = some (.bool false) ∧ w'.cell? ⟨G, 0, none⟩ = some (.slice s1 x1.length x1.length) ∧ w'.cell? ⟨G + 1, 0, none⟩ = some (.slice s2 x2.length x2.length))
      (first | assumption | exact ⟨ca1, cb1, cq, cr⟩ | exact HS3 | exact HS4 | go_keep)
      (first
        | (go_at_call 105; (with_reducible refine (HSG.out w3.drew _ (nq.kept (k_ (h_ _ _)))).mono ?_); rintro e w9 ⟨v9, rfl, ⟨s9, x9, fl9, rfl, h9, vv9, hb9⟩, g9⟩; have hG := o_ w3 g9 rfl rfl rfl rfl; have hS2 := n_ (hG.cell ca1 (by simp)) (n_ (hG.cell cb1 (by simp)) (n_ (hG.cell cq (by simp)) (hG.cell cr (by simp)))); have hR19 := a_ hG hR1; have hR29 := a_ hG hR2; (obtain ⟨d0, d1, k0, k1⟩ := c_ hR19); have qa := e_ (a_ hG hba) (show w.heap.size ≠ w.heap.size + 1 + 1 by omega) (.slice s9 x9.length x9.length) (.bool fl9); have qb := e_ (a_ hG hbb) (show w.heap.size + 1 ≠ w.heap.size + 1 + 1 by omega) (.slice s9 x9.length x9.length) (.bool fl9); have qq := e_ (a_ hG hq) (show G ≠ w.heap.size + 1 + 1 by omega) (.slice s9 x9.length x9.length) (.bool fl9); have qr := e_ (a_ hG hr) (show G + 1 ≠ w.heap.size + 1 + 1 by omega) (.slice s9 x9.length x9.length) (.bool fl9); have HS3 := n_ (c_ qa).2.1 (n_ (c_ qb).2.1 (n_ (j_ qq).1 (j_ qr).1)); have qR := e_ hR29 (show w.heap.size + 1 + 1 + 1 ≠ w.heap.size + 1 + 1 by omega) (.slice s9 x9.length x9.length) (.bool fl9); (obtain ⟨m0, m1, p0, p1⟩ := c_ qR); have HS4 := n_ (c_ (e_ qa (show w.heap.size ≠ w.heap.size + 1 + 1 + 1 by omega) (.slice s2 x2.length x2.length) (.bool false))).2.1 (n_ (c_ (e_ qb (show w.heap.size + 1 ≠ w.heap.size + 1 + 1 + 1 by omega) (.slice s2 x2.length x2.length) (.bool false))).2.1 (n_ (j_ (e_ qq (show G ≠ w.heap.size + 1 + 1 + 1 by omega) (.slice s2 x2.length x2.length) (.bool false))).1 (j_ (e_ qr (show G + 1 ≠ w.heap.size + 1 + 1 + 1 by omega) (.slice s2 x2.length x2.length) (.bool false))).1))))
     have hgw9 := d_ hgw0 hG
     have I1 : IntV w9 (.agg #[.slice s9 x9.length x9.length, .bool fl9]) X := ⟨s9, x9, fl9, rfl, h9, vv9, hb9⟩
     have I2 : IntV w9 (.agg #[.slice s2 x2.length x2.length, .bool false]) Y := co_ (L2.kept hG) V2.out hz.out.2
     have hF : Hid (bx_ w X Y 0 _ _) := cj_ hgw9 hR19 hR29 (by omega) I1 I2
     have hQ := aE_ hR19 hR29 (.slice s9 x9.length x9.length) (.bool fl9) (.slice s2 x2.length x2.length) (.bool false)
     obtain ⟨o0, o1, o2, o3⟩ := hQ
     clear h9 vv9 hb9 I1 I2 g9 hgw0 hgw9
     go_wp2_with fail
     exact bodyPost_ret (v := .tuple #[.agg #[.slice s9 x9.length x9.length, .bool fl9], .agg #[.slice s2 x2.length x2.length, .bool false], .int .i64 0]) (by simp [results, Tryz.results109, go_sem, o0, o1, o2, o3]) rfl hF.out
   · have HSG : Hid (∀ W v, NatV W v q → Calls Tryz.prog 105 #[v, .bool true] W (x_ W X)) := fun W v hn => by
      have t := J_ W v _ K true hn (by omega) HLQ.out
      rw [show (if true = true then -(q : Int) else (q : Int)) = X from hz.out.1] at t
      exact t
     go_enter Tryz.func109, Tryz.ntmps109
     obtain ⟨ca0, ca1, fa0, fa1⟩ := c_ hba
     obtain ⟨cb0, cb1, fb0, fb1⟩ := c_ hbb
     go_wp2_with fail
     refine (cu_ _ _ _ M C K na nn (by omega) Hla.out Hlb.out HC.out).mono ?_
     rw [HQ.out, HR.out]
     rintro e w1 ⟨v1, v2, rfl, ⟨s1, x1, rfl, h1, vv1⟩, ⟨s2, x2, rfl, h2, vv2⟩, g1⟩
     have hsz : w.heap.size + 1 + 1 + 1 < w1.heap.size := by have := g1.4; rw [hs4] at this; omega
     have g0 := l_ (wg_ w1 (.cells #[.slice s1 x1.length x1.length] 24) none) (.cells #[.slice s2 x2.length x2.length] 24)
     have gA := d_ g1 g0
     have hq := a_ (wg_ _ (.cells #[.slice s2 x2.length x2.length] 24) none) (f_ w1 (.cells #[.slice s1 x1.length x1.length] 24) w1.heap.size rfl)
     have hr := f_ (w1.alloc (.cells #[.slice s1 x1.length x1.length] 24)) (.cells #[.slice s2 x2.length x2.length] 24) (w1.heap.size + 1) (by simp)
     have L1 := h1.kept g0
     have L2 := h2.kept g0
     have V1 := H_ vv1
     have V2 := H_ vv2
     replace hba := a_ gA hba
     replace hbb := a_ gA hbb
     replace hR1 := a_ gA hR1
     replace hR2 := a_ gA hR2
     replace ia := ia.kept gA
     replace hgw0 := d_ hgw0 gA
     clear ca0 ca1 fa0 fa1 cb0 cb1 fb0 fb1 na h1 h2 vv1 vv2 g1 g0 gA hs4
     obtain ⟨ca0, ca1, fa0, fa1⟩ := c_ hba
     go_wp2_with fail
     generalize ((w1.alloc (.cells #[.slice s1 x1.length x1.length] 24)).alloc (.cells #[.slice s2 x2.length x2.length] 24)) = w2 at *
     generalize w1.heap.size = G at *
     clear ca0 ca1 fa0 fa1 w1
     refine (N_ w2 _ x K ia (by omega) (by rw [HMM.out]; exact Hla.out)).mono ?_
     rintro e w3 ⟨rfl, g3⟩
     rw [H1.out]
     replace hba := a_ g3 hba
     replace hbb := a_ g3 hbb
     replace hR1 := a_ g3 hR1
     replace hR2 := a_ g3 hR2
     replace hq := a_ g3 hq
     replace hr := a_ g3 hr
     replace L1 := L1.kept g3
     replace L2 := L2.kept g3
     replace hgw0 := d_ hgw0 g3
     clear g3
     obtain ⟨cr, fr⟩ := j_ hr
     go_wp2_with fail
     obtain ⟨ca0, ca1, fa0, fa1⟩ := c_ hba
     obtain ⟨cb0, cb1, fb0, fb1⟩ := c_ hbb
     obtain ⟨cq, fq⟩ := j_ hq
     try clear cr fr
     obtain ⟨cr, fr⟩ := j_ hr
     have nq : NatV w3 (.agg #[.slice s1 x1.length x1.length]) _ := ⟨_, _, rfl, L1, V1.out⟩
     go_region_held3 (fun w' => w'.cell? ⟨w.heap.size, 1, none⟩ = some (.bool false) ∧ w'.cell? ⟨w.heap.size + 1, 1, none⟩ = some (.bool true) ∧ w'.cell? ⟨G, 0, none⟩ = some (.slice s1 x1.length x1.length) ∧ w'.cell? ⟨G + 1, 0, none⟩ = some (.slice s2 x2.length x2.length))
      (first | assumption | exact ⟨ca1, cb1, cq, cr⟩ | exact HS3 | exact HS4 | go_keep)
      (first
        | (go_at_call 105; (with_reducible refine (HSG.out w3.drew _ (nq.kept (k_ (h_ _ _)))).mono ?_); rintro e w9 ⟨v9, rfl, ⟨s9, x9, fl9, rfl, h9, vv9, hb9⟩, g9⟩; have hG := o_ w3 g9 rfl rfl rfl rfl; have hS2 := n_ (hG.cell ca1 (by simp)) (n_ (hG.cell cb1 (by simp)) (n_ (hG.cell cq (by simp)) (hG.cell cr (by simp)))); have hR19 := a_ hG hR1; have hR29 := a_ hG hR2; (obtain ⟨d0, d1, k0, k1⟩ := c_ hR19); have qa := e_ (a_ hG hba) (show w.heap.size ≠ w.heap.size + 1 + 1 by omega) (.slice s9 x9.length x9.length) (.bool fl9); have qb := e_ (a_ hG hbb) (show w.heap.size + 1 ≠ w.heap.size + 1 + 1 by omega) (.slice s9 x9.length x9.length) (.bool fl9); have qq := e_ (a_ hG hq) (show G ≠ w.heap.size + 1 + 1 by omega) (.slice s9 x9.length x9.length) (.bool fl9); have qr := e_ (a_ hG hr) (show G + 1 ≠ w.heap.size + 1 + 1 by omega) (.slice s9 x9.length x9.length) (.bool fl9); have HS3 := n_ (c_ qa).2.1 (n_ (c_ qb).2.1 (n_ (j_ qq).1 (j_ qr).1)); have qR := e_ hR29 (show w.heap.size + 1 + 1 + 1 ≠ w.heap.size + 1 + 1 by omega) (.slice s9 x9.length x9.length) (.bool fl9); (obtain ⟨m0, m1, p0, p1⟩ := c_ qR); have HS4 := n_ (c_ (e_ qa (show w.heap.size ≠ w.heap.size + 1 + 1 + 1 by omega) (.slice s2 x2.length x2.length) (.bool false))).2.1 (n_ (c_ (e_ qb (show w.heap.size + 1 ≠ w.heap.size + 1 + 1 + 1 by omega) (.slice s2 x2.length x2.length) (.bool false))).2.1 (n_ (j_ (e_ qq (show G ≠ w.heap.size + 1 + 1 + 1 by omega) (.slice s2 x2.length x2.length) (.bool false))).1 (j_ (e_ qr (show G + 1 ≠ w.heap.size + 1 + 1 + 1 by omega) (.slice s2 x2.length x2.length) (.bool false))).1))))
     have hgw9 := d_ hgw0 hG
     have I1 : IntV w9 (.agg #[.slice s9 x9.length x9.length, .bool fl9]) X := ⟨s9, x9, fl9, rfl, h9, vv9, hb9⟩
     have I2 : IntV w9 (.agg #[.slice s2 x2.length x2.length, .bool false]) Y := co_ (L2.kept hG) V2.out hz.out.2
     have hF : Hid (bx_ w X Y 0 _ _) := cj_ hgw9 hR19 hR29 (by omega) I1 I2
     have hQ := aE_ hR19 hR29 (.slice s9 x9.length x9.length) (.bool fl9) (.slice s2 x2.length x2.length) (.bool false)
     obtain ⟨o0, o1, o2, o3⟩ := hQ
     clear h9 vv9 hb9 I1 I2 g9 hgw0 hgw9
     go_wp2_with fail
     exact bodyPost_ret (v := .tuple #[.agg #[.slice s9 x9.length x9.length, .bool fl9], .agg #[.slice s2 x2.length x2.length, .bool false], .int .i64 0]) (by simp [results, Tryz.results109, go_sem, o0, o1, o2, o3]) rfl hF.out
 · cases zb
   · have HSG : Hid (∀ W v, NatV W v q → Calls Tryz.prog 105 #[v, .bool true] W (x_ W X)) := fun W v hn => by
      have t := J_ W v _ K true hn (by omega) HLQ.out
      rw [show (if true = true then -(q : Int) else (q : Int)) = X from hz.out.1] at t
      exact t
     go_enter Tryz.func109, Tryz.ntmps109
     obtain ⟨ca0, ca1, fa0, fa1⟩ := c_ hba
     obtain ⟨cb0, cb1, fb0, fb1⟩ := c_ hbb
     go_wp2_with fail
     refine (cu_ _ _ _ M C K na nn (by omega) Hla.out Hlb.out HC.out).mono ?_
     rw [HQ.out, HR.out]
     rintro e w1 ⟨v1, v2, rfl, ⟨s1, x1, rfl, h1, vv1⟩, ⟨s2, x2, rfl, h2, vv2⟩, g1⟩
     have hsz : w.heap.size + 1 + 1 + 1 < w1.heap.size := by have := g1.4; rw [hs4] at this; omega
     have g0 := l_ (wg_ w1 (.cells #[.slice s1 x1.length x1.length] 24) none) (.cells #[.slice s2 x2.length x2.length] 24)
     have gA := d_ g1 g0
     have hq := a_ (wg_ _ (.cells #[.slice s2 x2.length x2.length] 24) none) (f_ w1 (.cells #[.slice s1 x1.length x1.length] 24) w1.heap.size rfl)
     have hr := f_ (w1.alloc (.cells #[.slice s1 x1.length x1.length] 24)) (.cells #[.slice s2 x2.length x2.length] 24) (w1.heap.size + 1) (by simp)
     have L1 := h1.kept g0
     have L2 := h2.kept g0
     have V1 := H_ vv1
     have V2 := H_ vv2
     replace hba := a_ gA hba
     replace hbb := a_ gA hbb
     replace hR1 := a_ gA hR1
     replace hR2 := a_ gA hR2
     replace ia := ia.kept gA
     replace hgw0 := d_ hgw0 gA
     clear ca0 ca1 fa0 fa1 cb0 cb1 fb0 fb1 na h1 h2 vv1 vv2 g1 g0 gA hs4
     obtain ⟨ca0, ca1, fa0, fa1⟩ := c_ hba
     go_wp2_with fail
     generalize ((w1.alloc (.cells #[.slice s1 x1.length x1.length] 24)).alloc (.cells #[.slice s2 x2.length x2.length] 24)) = w2 at *
     generalize w1.heap.size = G at *
     clear ca0 ca1 fa0 fa1 w1
     refine (N_ w2 _ x K ia (by omega) (by rw [HMM.out]; exact Hla.out)).mono ?_
     rintro e w3 ⟨rfl, g3⟩
     rw [H1.out]
     replace hba := a_ g3 hba
     replace hbb := a_ g3 hbb
     replace hR1 := a_ g3 hR1
     replace hR2 := a_ g3 hR2
     replace hq := a_ g3 hq
     replace hr := a_ g3 hr
     replace L1 := L1.kept g3
     replace L2 := L2.kept g3
     replace hgw0 := d_ hgw0 g3
     clear g3
     obtain ⟨cr, fr⟩ := j_ hr
     go_wp2_with fail
     have nr : NatV w3 (.agg #[.slice s2 x2.length x2.length]) r := ⟨_, _, rfl, L2, V2.out⟩
     refine (bj_ w3 _ r K nr (by omega) HLR.out).mono ?_
     rintro e w4 ⟨rfl, g4⟩
     rw [hr0.out]; rw [show ((nb 0 : Nat) : Int) = 0 from rfl]
     replace hba := a_ g4 hba
     replace hbb := a_ g4 hbb
     replace hR1 := a_ g4 hR1
     replace hR2 := a_ g4 hR2
     replace hq := a_ g4 hq
     replace hr := a_ g4 hr
     replace L1 := L1.kept g4
     replace L2 := L2.kept g4
     replace hgw0 := d_ hgw0 g4
     clear g4 nr cr fr
     go_wp2_with fail
     obtain ⟨ca0, ca1, fa0, fa1⟩ := c_ hba
     obtain ⟨cb0, cb1, fb0, fb1⟩ := c_ hbb
     obtain ⟨cq, fq⟩ := j_ hq
     try clear cr fr
     obtain ⟨cr, fr⟩ := j_ hr
     have nq : NatV w4 (.agg #[.slice s1 x1.length x1.length]) _ := ⟨_, _, rfl, L1, V1.out⟩
     go_region_held3 (fun w' => w'.cell? ⟨w.heap.size, 1, none⟩ = some (.bool true) ∧ w'.cell? ⟨w.heap.size + 1, 1, none⟩ = some (.bool false) ∧ w'.cell? ⟨G, 0, none⟩ = some (.slice s1 x1.length x1.length) ∧ w'.cell? ⟨G + 1, 0, none⟩ = some (.slice s2 x2.length x2.length))
      (first | assumption | exact ⟨ca1, cb1, cq, cr⟩ | exact HS3 | exact HS4 | go_keep)
      (first
        | (go_at_call 105; (with_reducible refine (HSG.out w4.drew _ (nq.kept (k_ (h_ _ _)))).mono ?_); rintro e w9 ⟨v9, rfl, ⟨s9, x9, fl9, rfl, h9, vv9, hb9⟩, g9⟩; have hG := o_ w4 g9 rfl rfl rfl rfl; have hS2 := n_ (hG.cell ca1 (by simp)) (n_ (hG.cell cb1 (by simp)) (n_ (hG.cell cq (by simp)) (hG.cell cr (by simp)))); have hR19 := a_ hG hR1; have hR29 := a_ hG hR2; (obtain ⟨d0, d1, k0, k1⟩ := c_ hR19); have qa := e_ (a_ hG hba) (show w.heap.size ≠ w.heap.size + 1 + 1 by omega) (.slice s9 x9.length x9.length) (.bool fl9); have qb := e_ (a_ hG hbb) (show w.heap.size + 1 ≠ w.heap.size + 1 + 1 by omega) (.slice s9 x9.length x9.length) (.bool fl9); have qq := e_ (a_ hG hq) (show G ≠ w.heap.size + 1 + 1 by omega) (.slice s9 x9.length x9.length) (.bool fl9); have qr := e_ (a_ hG hr) (show G + 1 ≠ w.heap.size + 1 + 1 by omega) (.slice s9 x9.length x9.length) (.bool fl9); have HS3 := n_ (c_ qa).2.1 (n_ (c_ qb).2.1 (n_ (j_ qq).1 (j_ qr).1)); have qR := e_ hR29 (show w.heap.size + 1 + 1 + 1 ≠ w.heap.size + 1 + 1 by omega) (.slice s9 x9.length x9.length) (.bool fl9); (obtain ⟨m0, m1, p0, p1⟩ := c_ qR); have HS4 := n_ (c_ (e_ qa (show w.heap.size ≠ w.heap.size + 1 + 1 + 1 by omega) (.slice s2 x2.length x2.length) (.bool false))).2.1 (n_ (c_ (e_ qb (show w.heap.size + 1 ≠ w.heap.size + 1 + 1 + 1 by omega) (.slice s2 x2.length x2.length) (.bool false))).2.1 (n_ (j_ (e_ qq (show G ≠ w.heap.size + 1 + 1 + 1 by omega) (.slice s2 x2.length x2.length) (.bool false))).1 (j_ (e_ qr (show G + 1 ≠ w.heap.size + 1 + 1 + 1 by omega) (.slice s2 x2.length x2.length) (.bool false))).1))))
     have hgw9 := d_ hgw0 hG
     have I1 : IntV w9 (.agg #[.slice s9 x9.length x9.length, .bool fl9]) X := ⟨s9, x9, fl9, rfl, h9, vv9, hb9⟩
     have I2 : IntV w9 (.agg #[.slice s2 x2.length x2.length, .bool false]) Y := co_ (L2.kept hG) V2.out hz.out.2
     have hF : Hid (bx_ w X Y 0 _ _) := cj_ hgw9 hR19 hR29 (by omega) I1 I2
     have hQ := aE_ hR19 hR29 (.slice s9 x9.length x9.length) (.bool fl9) (.slice s2 x2.length x2.length) (.bool false)
     obtain ⟨o0, o1, o2, o3⟩ := hQ
     clear h9 vv9 hb9 I1 I2 g9 hgw0 hgw9
     go_wp2_with fail
     exact bodyPost_ret (v := .tuple #[.agg #[.slice s9 x9.length x9.length, .bool fl9], .agg #[.slice s2 x2.length x2.length, .bool false], .int .i64 0]) (by simp [results, Tryz.results109, go_sem, o0, o1, o2, o3]) rfl hF.out
   · have HSG : Hid (∀ W v, NatV W v q → Calls Tryz.prog 105 #[v, .bool false] W (x_ W X)) := fun W v hn => by
      have t := J_ W v _ K false hn (by omega) HLQ.out
      rw [show (if false = true then -(q : Int) else (q : Int)) = X from hz.out.1] at t
      exact t
     go_enter Tryz.func109, Tryz.ntmps109
     obtain ⟨ca0, ca1, fa0, fa1⟩ := c_ hba
     obtain ⟨cb0, cb1, fb0, fb1⟩ := c_ hbb
     go_wp2_with fail
     refine (cu_ _ _ _ M C K na nn (by omega) Hla.out Hlb.out HC.out).mono ?_
     rw [HQ.out, HR.out]
     rintro e w1 ⟨v1, v2, rfl, ⟨s1, x1, rfl, h1, vv1⟩, ⟨s2, x2, rfl, h2, vv2⟩, g1⟩
     have hsz : w.heap.size + 1 + 1 + 1 < w1.heap.size := by have := g1.4; rw [hs4] at this; omega
     have g0 := l_ (wg_ w1 (.cells #[.slice s1 x1.length x1.length] 24) none) (.cells #[.slice s2 x2.length x2.length] 24)
     have gA := d_ g1 g0
     have hq := a_ (wg_ _ (.cells #[.slice s2 x2.length x2.length] 24) none) (f_ w1 (.cells #[.slice s1 x1.length x1.length] 24) w1.heap.size rfl)
     have hr := f_ (w1.alloc (.cells #[.slice s1 x1.length x1.length] 24)) (.cells #[.slice s2 x2.length x2.length] 24) (w1.heap.size + 1) (by simp)
     have L1 := h1.kept g0
     have L2 := h2.kept g0
     have V1 := H_ vv1
     have V2 := H_ vv2
     replace hba := a_ gA hba
     replace hbb := a_ gA hbb
     replace hR1 := a_ gA hR1
     replace hR2 := a_ gA hR2
     replace ia := ia.kept gA
     replace hgw0 := d_ hgw0 gA
     clear ca0 ca1 fa0 fa1 cb0 cb1 fb0 fb1 na h1 h2 vv1 vv2 g1 g0 gA hs4
     obtain ⟨ca0, ca1, fa0, fa1⟩ := c_ hba
     go_wp2_with fail
     generalize ((w1.alloc (.cells #[.slice s1 x1.length x1.length] 24)).alloc (.cells #[.slice s2 x2.length x2.length] 24)) = w2 at *
     generalize w1.heap.size = G at *
     clear ca0 ca1 fa0 fa1 w1
     refine (N_ w2 _ x K ia (by omega) (by rw [HMM.out]; exact Hla.out)).mono ?_
     rintro e w3 ⟨rfl, g3⟩
     rw [H1.out]
     replace hba := a_ g3 hba
     replace hbb := a_ g3 hbb
     replace hR1 := a_ g3 hR1
     replace hR2 := a_ g3 hR2
     replace hq := a_ g3 hq
     replace hr := a_ g3 hr
     replace L1 := L1.kept g3
     replace L2 := L2.kept g3
     replace hgw0 := d_ hgw0 g3
     clear g3
     obtain ⟨cr, fr⟩ := j_ hr
     go_wp2_with fail
     have nr : NatV w3 (.agg #[.slice s2 x2.length x2.length]) r := ⟨_, _, rfl, L2, V2.out⟩
     refine (bj_ w3 _ r K nr (by omega) HLR.out).mono ?_
     rintro e w4 ⟨rfl, g4⟩
     rw [hr0.out]; rw [show ((nb 0 : Nat) : Int) = 0 from rfl]
     replace hba := a_ g4 hba
     replace hbb := a_ g4 hbb
     replace hR1 := a_ g4 hR1
     replace hR2 := a_ g4 hR2
     replace hq := a_ g4 hq
     replace hr := a_ g4 hr
     replace L1 := L1.kept g4
     replace L2 := L2.kept g4
     replace hgw0 := d_ hgw0 g4
     clear g4 nr cr fr
     go_wp2_with fail
     obtain ⟨ca0, ca1, fa0, fa1⟩ := c_ hba
     obtain ⟨cb0, cb1, fb0, fb1⟩ := c_ hbb
     obtain ⟨cq, fq⟩ := j_ hq
     try clear cr fr
     obtain ⟨cr, fr⟩ := j_ hr
     have nq : NatV w4 (.agg #[.slice s1 x1.length x1.length]) _ := ⟨_, _, rfl, L1, V1.out⟩
     go_region_held3 (fun w' => w'.cell? ⟨w.heap.size, 1, none⟩ = some (.bool true) ∧ w'.cell? ⟨w.heap.size + 1, 1, none⟩ = some (.bool true) ∧ w'.cell? ⟨G, 0, none⟩ = some (.slice s1 x1.length x1.length) ∧ w'.cell? ⟨G + 1, 0, none⟩ = some (.slice s2 x2.length x2.length))
      (first | assumption | exact ⟨ca1, cb1, cq, cr⟩ | exact HS3 | exact HS4 | go_keep)
      (first
        | (go_at_call 105; (with_reducible refine (HSG.out w4.drew _ (nq.kept (k_ (h_ _ _)))).mono ?_); rintro e w9 ⟨v9, rfl, ⟨s9, x9, fl9, rfl, h9, vv9, hb9⟩, g9⟩; have hG := o_ w4 g9 rfl rfl rfl rfl; have hS2 := n_ (hG.cell ca1 (by simp)) (n_ (hG.cell cb1 (by simp)) (n_ (hG.cell cq (by simp)) (hG.cell cr (by simp)))); have hR19 := a_ hG hR1; have hR29 := a_ hG hR2; (obtain ⟨d0, d1, k0, k1⟩ := c_ hR19); have qa := e_ (a_ hG hba) (show w.heap.size ≠ w.heap.size + 1 + 1 by omega) (.slice s9 x9.length x9.length) (.bool fl9); have qb := e_ (a_ hG hbb) (show w.heap.size + 1 ≠ w.heap.size + 1 + 1 by omega) (.slice s9 x9.length x9.length) (.bool fl9); have qq := e_ (a_ hG hq) (show G ≠ w.heap.size + 1 + 1 by omega) (.slice s9 x9.length x9.length) (.bool fl9); have qr := e_ (a_ hG hr) (show G + 1 ≠ w.heap.size + 1 + 1 by omega) (.slice s9 x9.length x9.length) (.bool fl9); have HS3 := n_ (c_ qa).2.1 (n_ (c_ qb).2.1 (n_ (j_ qq).1 (j_ qr).1)); have qR := e_ hR29 (show w.heap.size + 1 + 1 + 1 ≠ w.heap.size + 1 + 1 by omega) (.slice s9 x9.length x9.length) (.bool fl9); (obtain ⟨m0, m1, p0, p1⟩ := c_ qR); have HS4 := n_ (c_ (e_ qa (show w.heap.size ≠ w.heap.size + 1 + 1 + 1 by omega) (.slice s2 x2.length x2.length) (.bool false))).2.1 (n_ (c_ (e_ qb (show w.heap.size + 1 ≠ w.heap.size + 1 + 1 + 1 by omega) (.slice s2 x2.length x2.length) (.bool false))).2.1 (n_ (j_ (e_ qq (show G ≠ w.heap.size + 1 + 1 + 1 by omega) (.slice s2 x2.length x2.length) (.bool false))).1 (j_ (e_ qr (show G + 1 ≠ w.heap.size + 1 + 1 + 1 by omega) (.slice s2 x2.length x2.length) (.bool false))).1))))
     have hgw9 := d_ hgw0 hG
     have I1 : IntV w9 (.agg #[.slice s9 x9.length x9.length, .bool fl9]) X := ⟨s9, x9, fl9, rfl, h9, vv9, hb9⟩
     have I2 : IntV w9 (.agg #[.slice s2 x2.length x2.length, .bool false]) Y := co_ (L2.kept hG) V2.out hz.out.2
     have hF : Hid (bx_ w X Y 0 _ _) := cj_ hgw9 hR19 hR29 (by omega) I1 I2
     have hQ := aE_ hR19 hR29 (.slice s9 x9.length x9.length) (.bool fl9) (.slice s2 x2.length x2.length) (.bool false)
     obtain ⟨o0, o1, o2, o3⟩ := hQ
     clear h9 vv9 hb9 I1 I2 g9 hgw0 hgw9
     go_wp2_with fail
     exact bodyPost_ret (v := .tuple #[.agg #[.slice s9 x9.length x9.length, .bool fl9], .agg #[.slice s2 x2.length x2.length, .bool false], .int .i64 0]) (by simp [results, Tryz.results109, go_sem, o0, o1, o2, o3]) rfl hF.out
 · cases zb
   · have HSG : Hid (∀ W v, NatV W v (q + 1) → Calls Tryz.prog 105 #[v, .bool true] W (x_ W X)) := fun W v hn => by
      have t := J_ W v _ (K + 1) true hn (by omega) (lL_ HLQ.out (Nat.lt_of_le_of_lt (Nat.succ_le_of_lt HC.out) Hlb.out))
      rw [show (if true = true then -((q + 1 : Nat) : Int) else ((q + 1 : Nat) : Int)) = X from hz.out.1] at t
      exact t
     go_enter Tryz.func109, Tryz.ntmps109
     obtain ⟨ca0, ca1, fa0, fa1⟩ := c_ hba
     obtain ⟨cb0, cb1, fb0, fb1⟩ := c_ hbb
     go_wp2_with fail
     refine (cu_ _ _ _ M C K na nn (by omega) Hla.out Hlb.out HC.out).mono ?_
     rw [HQ.out, HR.out]
     rintro e w1 ⟨v1, v2, rfl, ⟨s1, x1, rfl, h1, vv1⟩, ⟨s2, x2, rfl, h2, vv2⟩, g1⟩
     have hsz : w.heap.size + 1 + 1 + 1 < w1.heap.size := by have := g1.4; rw [hs4] at this; omega
     have g0 := l_ (wg_ w1 (.cells #[.slice s1 x1.length x1.length] 24) none) (.cells #[.slice s2 x2.length x2.length] 24)
     have gA := d_ g1 g0
     have hq := a_ (wg_ _ (.cells #[.slice s2 x2.length x2.length] 24) none) (f_ w1 (.cells #[.slice s1 x1.length x1.length] 24) w1.heap.size rfl)
     have hr := f_ (w1.alloc (.cells #[.slice s1 x1.length x1.length] 24)) (.cells #[.slice s2 x2.length x2.length] 24) (w1.heap.size + 1) (by simp)
     have L1 := h1.kept g0
     have L2 := h2.kept g0
     have V1 := H_ vv1
     have V2 := H_ vv2
     replace hba := a_ gA hba
     replace hbb := a_ gA hbb
     replace hR1 := a_ gA hR1
     replace hR2 := a_ gA hR2
     replace ia := ia.kept gA
     replace nn := nn.kept gA
     replace hgw0 := d_ hgw0 gA
     clear ca0 ca1 fa0 fa1 cb0 cb1 fb0 fb1 na h1 h2 vv1 vv2 g1 g0 gA hs4
     obtain ⟨ca0, ca1, fa0, fa1⟩ := c_ hba
     go_wp2_with fail
     generalize ((w1.alloc (.cells #[.slice s1 x1.length x1.length] 24)).alloc (.cells #[.slice s2 x2.length x2.length] 24)) = w2 at *
     generalize w1.heap.size = G at *
     clear ca0 ca1 fa0 fa1 w1
     refine (N_ w2 _ x K ia (by omega) (by rw [HMM.out]; exact Hla.out)).mono ?_
     rintro e w3 ⟨rfl, g3⟩
     rw [H1.out]
     replace hba := a_ g3 hba
     replace hbb := a_ g3 hbb
     replace hR1 := a_ g3 hR1
     replace hR2 := a_ g3 hR2
     replace hq := a_ g3 hq
     replace hr := a_ g3 hr
     replace L1 := L1.kept g3
     replace L2 := L2.kept g3
     replace nn := nn.kept g3
     replace hgw0 := d_ hgw0 g3
     clear g3
     obtain ⟨cr, fr⟩ := j_ hr
     go_wp2_with fail
     have nr : NatV w3 (.agg #[.slice s2 x2.length x2.length]) r := ⟨_, _, rfl, L2, V2.out⟩
     refine (bj_ w3 _ r K nr (by omega) HLR.out).mono ?_
     rintro e w4 ⟨rfl, g4⟩
     have hnb : decide (0 < nb r) = true := decide_eq_true (by have := dx_ hr0.out; omega)
     generalize nb r = bits at *
     replace hba := a_ g4 hba
     replace hbb := a_ g4 hbb
     replace hR1 := a_ g4 hR1
     replace hR2 := a_ g4 hR2
     replace hq := a_ g4 hq
     replace hr := a_ g4 hr
     replace L1 := L1.kept g4
     replace L2 := L2.kept g4
     replace nn := nn.kept g4
     replace hgw0 := d_ hgw0 g4
     clear g4 nr cr fr
     go_wp2_with fail
     obtain ⟨cq, fq⟩ := j_ hq
     have nq : NatV w4 (.agg #[.slice s1 x1.length x1.length]) q := ⟨_, _, rfl, L1, V1.out⟩
     have h1K : 1 < B ^ K := Nat.lt_of_le_of_lt (Nat.succ_le_of_lt HC.out) Hlb.out
     go_region_with (first
      | (go_at_call 71; (with_reducible refine (kH_ w4.drew).mono ?_); rintro e w5 ⟨v5, rfl, n5, g5⟩; have hG5 := o_ w4 g5 rfl rfl rfl rfl; (obtain ⟨cq5, fq5⟩ := j_ (a_ hG5 hq)))
      | (go_at_call 113; (with_reducible refine (et_ w5 _ _ q 1 K (nq.kept hG5) n5 (by omega) HLQ.out h1K).mono ?_); rintro e w6 ⟨v6, rfl, ⟨s6, x6, rfl, h6, vv6⟩, g6⟩; have hG6 := d_ hG5 g6; (obtain ⟨cq6, fq6⟩ := j_ (a_ hG6 hq))))
     all_goals (
      have hq6 := a_ hG6 hq
      have L6 := h6.set_other hq6 (by decide) 0 (.slice s6 x6.length x6.length)
      have L26 := (L2.kept hG6).set_other hq6 (by decide) 0 (.slice s6 x6.length x6.length)
      have nn6 := (nn.kept hG6).set_other hq6 (by decide) 0 (.slice s6 x6.length x6.length)
      have V6 := H_ vv6
      replace hba := y_ (a_ hG6 hba) (g := G) (by omega) (.slice s6 x6.length x6.length)
      replace hbb := y_ (a_ hG6 hbb) (g := G) (by omega) (.slice s6 x6.length x6.length)
      replace hR1 := y_ (a_ hG6 hR1) (g := G) (by omega) (.slice s6 x6.length x6.length)
      replace hR2 := y_ (a_ hG6 hR2) (g := G) (by omega) (.slice s6 x6.length x6.length)
      replace hr := y_ (a_ hG6 hr) (g := G) (by omega) (.slice s6 x6.length x6.length)
      replace hq := aY_ hq6 (.slice s6 x6.length x6.length)
      have hgw6 : w.grownBy (w6.setCell ⟨G, 0, none⟩ (.slice s6 x6.length x6.length)) none := s_ (g := G) (d_ hgw0 hG6) (q_ (h_ _ _) _ _) (by omega)
      clear cq fq cq5 fq5 cq6 fq6 n5 g5 hG5 g6 hG6 nq h6 vv6 hq6 hgw0 L1 L2 nn ia
      obtain ⟨cb0, cb1, fb0, fb1⟩ := c_ hbb
      obtain ⟨cr, fr⟩ := j_ hr
      go_wp2_with fail
      generalize (w6.setCell ⟨G, 0, none⟩ (.slice s6 x6.length x6.length)) = w7 at *
      have nr7 : NatV w7 (.agg #[.slice s2 x2.length x2.length]) r := ⟨_, _, rfl, L26, V2.out⟩
      refine (cq_ w7 _ _ C r K nn6 nr7 (by omega) Hlb.out (Nat.le_of_lt HML.out)).mono ?_
      rintro e w8 ⟨v8, rfl, ⟨s8, x8, rfl, h8, vv8⟩, g8⟩
      have hr8 := a_ g8 hr
      clear cr fr cb0 cb1 fb0 fb1 nr7 nn6
      obtain ⟨cr, fr⟩ := j_ hr8
      have L8 := h8.set_other hr8 (by decide) 0 (.slice s8 x8.length x8.length)
      have L68 := (L6.kept g8).set_other hr8 (by decide) 0 (.slice s8 x8.length x8.length)
      have V8 := H_ vv8
      replace hba := y_ (a_ g8 hba) (g := G + 1) (by omega) (.slice s8 x8.length x8.length)
      replace hbb := y_ (a_ g8 hbb) (g := G + 1) (by omega) (.slice s8 x8.length x8.length)
      replace hR1 := y_ (a_ g8 hR1) (g := G + 1) (by omega) (.slice s8 x8.length x8.length)
      replace hR2 := y_ (a_ g8 hR2) (g := G + 1) (by omega) (.slice s8 x8.length x8.length)
      replace hq := y_ (a_ g8 hq) (g := G + 1) (by omega) (.slice s8 x8.length x8.length)
      replace hr := aY_ hr8 (.slice s8 x8.length x8.length)
      have hgw0 : w.grownBy (w8.setCell ⟨G + 1, 0, none⟩ (.slice s8 x8.length x8.length)) none := s_ (g := G + 1) (d_ hgw6 g8) (q_ (h_ _ _) _ _) (by omega)
      clear g8 h8 vv8 hr8 hgw6 L6 L26
      go_wp2_with fail
      generalize (w8.setCell ⟨G + 1, 0, none⟩ (.slice s8 x8.length x8.length)) = wA at *
      clear cr fr
      obtain ⟨ca0, ca1, fa0, fa1⟩ := c_ hba
      obtain ⟨cb0, cb1, fb0, fb1⟩ := c_ hbb
      obtain ⟨cq, fq⟩ := j_ hq
      try clear cr fr
      obtain ⟨cr, fr⟩ := j_ hr
      have nq : NatV wA (.agg #[.slice s6 x6.length x6.length]) _ := ⟨_, _, rfl, L68, V6.out⟩
      go_region_held3 (fun w' => w'.cell? ⟨w.heap.size, 1, none⟩ = some (.bool true) ∧ w'.cell? ⟨w.heap.size + 1, 1, none⟩ = some (.bool false) ∧ w'.cell? ⟨G, 0, none⟩ = some (.slice s6 x6.length x6.length) ∧ w'.cell? ⟨G + 1, 0, none⟩ = some (.slice s8 x8.length x8.length))
       (first | assumption | exact ⟨ca1, cb1, cq, cr⟩ | exact HS3 | exact HS4 | go_keep)
       (first
         | (go_at_call 105; (with_reducible refine (HSG.out wA.drew _ (nq.kept (k_ (h_ _ _)))).mono ?_); rintro e w9 ⟨v9, rfl, ⟨s9, x9, fl9, rfl, h9, vv9, hb9⟩, g9⟩; have hG := o_ wA g9 rfl rfl rfl rfl; have hS2 := n_ (hG.cell ca1 (by simp)) (n_ (hG.cell cb1 (by simp)) (n_ (hG.cell cq (by simp)) (hG.cell cr (by simp)))); have hR19 := a_ hG hR1; have hR29 := a_ hG hR2; (obtain ⟨d0, d1, k0, k1⟩ := c_ hR19); have qa := e_ (a_ hG hba) (show w.heap.size ≠ w.heap.size + 1 + 1 by omega) (.slice s9 x9.length x9.length) (.bool fl9); have qb := e_ (a_ hG hbb) (show w.heap.size + 1 ≠ w.heap.size + 1 + 1 by omega) (.slice s9 x9.length x9.length) (.bool fl9); have qq := e_ (a_ hG hq) (show G ≠ w.heap.size + 1 + 1 by omega) (.slice s9 x9.length x9.length) (.bool fl9); have qr := e_ (a_ hG hr) (show G + 1 ≠ w.heap.size + 1 + 1 by omega) (.slice s9 x9.length x9.length) (.bool fl9); have HS3 := n_ (c_ qa).2.1 (n_ (c_ qb).2.1 (n_ (j_ qq).1 (j_ qr).1)); have qR := e_ hR29 (show w.heap.size + 1 + 1 + 1 ≠ w.heap.size + 1 + 1 by omega) (.slice s9 x9.length x9.length) (.bool fl9); (obtain ⟨m0, m1, p0, p1⟩ := c_ qR); have HS4 := n_ (c_ (e_ qa (show w.heap.size ≠ w.heap.size + 1 + 1 + 1 by omega) (.slice s8 x8.length x8.length) (.bool false))).2.1 (n_ (c_ (e_ qb (show w.heap.size + 1 ≠ w.heap.size + 1 + 1 + 1 by omega) (.slice s8 x8.length x8.length) (.bool false))).2.1 (n_ (j_ (e_ qq (show G ≠ w.heap.size + 1 + 1 + 1 by omega) (.slice s8 x8.length x8.length) (.bool false))).1 (j_ (e_ qr (show G + 1 ≠ w.heap.size + 1 + 1 + 1 by omega) (.slice s8 x8.length x8.length) (.bool false))).1))))
      have hgw9 := d_ hgw0 hG
      have I1 : IntV w9 (.agg #[.slice s9 x9.length x9.length, .bool fl9]) X := ⟨s9, x9, fl9, rfl, h9, vv9, hb9⟩
      have I2 : IntV w9 (.agg #[.slice s8 x8.length x8.length, .bool false]) Y := co_ (L8.kept hG) V8.out hz.out.2
      have hF : Hid (bx_ w X Y 0 _ _) := cj_ hgw9 hR19 hR29 (by omega) I1 I2
      have hQ := aE_ hR19 hR29 (.slice s9 x9.length x9.length) (.bool fl9) (.slice s8 x8.length x8.length) (.bool false)
      obtain ⟨o0, o1, o2, o3⟩ := hQ
      clear h9 vv9 hb9 I1 I2 g9 hgw0 hgw9
      go_wp2_with fail
      exact bodyPost_ret (v := .tuple #[.agg #[.slice s9 x9.length x9.length, .bool fl9], .agg #[.slice s8 x8.length x8.length, .bool false], .int .i64 0]) (by simp [results, Tryz.results109, go_sem, o0, o1, o2, o3]) rfl hF.out)
   · have HSG : Hid (∀ W v, NatV W v (q + 1) → Calls Tryz.prog 105 #[v, .bool false] W (x_ W X)) := fun W v hn => by
      have t := J_ W v _ (K + 1) false hn (by omega) (lL_ HLQ.out (Nat.lt_of_le_of_lt (Nat.succ_le_of_lt HC.out) Hlb.out))
      rw [show (if false = true then -((q + 1 : Nat) : Int) else ((q + 1 : Nat) : Int)) = X from hz.out.1] at t
      exact t
     go_enter Tryz.func109, Tryz.ntmps109
     obtain ⟨ca0, ca1, fa0, fa1⟩ := c_ hba
     obtain ⟨cb0, cb1, fb0, fb1⟩ := c_ hbb
     go_wp2_with fail
     refine (cu_ _ _ _ M C K na nn (by omega) Hla.out Hlb.out HC.out).mono ?_
     rw [HQ.out, HR.out]
     rintro e w1 ⟨v1, v2, rfl, ⟨s1, x1, rfl, h1, vv1⟩, ⟨s2, x2, rfl, h2, vv2⟩, g1⟩
     have hsz : w.heap.size + 1 + 1 + 1 < w1.heap.size := by have := g1.4; rw [hs4] at this; omega
     have g0 := l_ (wg_ w1 (.cells #[.slice s1 x1.length x1.length] 24) none) (.cells #[.slice s2 x2.length x2.length] 24)
     have gA := d_ g1 g0
     have hq := a_ (wg_ _ (.cells #[.slice s2 x2.length x2.length] 24) none) (f_ w1 (.cells #[.slice s1 x1.length x1.length] 24) w1.heap.size rfl)
     have hr := f_ (w1.alloc (.cells #[.slice s1 x1.length x1.length] 24)) (.cells #[.slice s2 x2.length x2.length] 24) (w1.heap.size + 1) (by simp)
     have L1 := h1.kept g0
     have L2 := h2.kept g0
     have V1 := H_ vv1
     have V2 := H_ vv2
     replace hba := a_ gA hba
     replace hbb := a_ gA hbb
     replace hR1 := a_ gA hR1
     replace hR2 := a_ gA hR2
     replace ia := ia.kept gA
     replace nn := nn.kept gA
     replace hgw0 := d_ hgw0 gA
     clear ca0 ca1 fa0 fa1 cb0 cb1 fb0 fb1 na h1 h2 vv1 vv2 g1 g0 gA hs4
     obtain ⟨ca0, ca1, fa0, fa1⟩ := c_ hba
     go_wp2_with fail
     generalize ((w1.alloc (.cells #[.slice s1 x1.length x1.length] 24)).alloc (.cells #[.slice s2 x2.length x2.length] 24)) = w2 at *
     generalize w1.heap.size = G at *
     clear ca0 ca1 fa0 fa1 w1
     refine (N_ w2 _ x K ia (by omega) (by rw [HMM.out]; exact Hla.out)).mono ?_
     rintro e w3 ⟨rfl, g3⟩
     rw [H1.out]
     replace hba := a_ g3 hba
     replace hbb := a_ g3 hbb
     replace hR1 := a_ g3 hR1
     replace hR2 := a_ g3 hR2
     replace hq := a_ g3 hq
     replace hr := a_ g3 hr
     replace L1 := L1.kept g3
     replace L2 := L2.kept g3
     replace nn := nn.kept g3
     replace hgw0 := d_ hgw0 g3
     clear g3
     obtain ⟨cr, fr⟩ := j_ hr
     go_wp2_with fail
     have nr : NatV w3 (.agg #[.slice s2 x2.length x2.length]) r := ⟨_, _, rfl, L2, V2.out⟩
     refine (bj_ w3 _ r K nr (by omega) HLR.out).mono ?_
     rintro e w4 ⟨rfl, g4⟩
     have hnb : decide (0 < nb r) = true := decide_eq_true (by have := dx_ hr0.out; omega)
     generalize nb r = bits at *
     replace hba := a_ g4 hba
     replace hbb := a_ g4 hbb
     replace hR1 := a_ g4 hR1
     replace hR2 := a_ g4 hR2
     replace hq := a_ g4 hq
     replace hr := a_ g4 hr
     replace L1 := L1.kept g4
     replace L2 := L2.kept g4
     replace nn := nn.kept g4
     replace hgw0 := d_ hgw0 g4
     clear g4 nr cr fr
     go_wp2_with fail
     obtain ⟨cq, fq⟩ := j_ hq
     have nq : NatV w4 (.agg #[.slice s1 x1.length x1.length]) q := ⟨_, _, rfl, L1, V1.out⟩
     have h1K : 1 < B ^ K := Nat.lt_of_le_of_lt (Nat.succ_le_of_lt HC.out) Hlb.out
     go_region_with (first
      | (go_at_call 71; (with_reducible refine (kH_ w4.drew).mono ?_); rintro e w5 ⟨v5, rfl, n5, g5⟩; have hG5 := o_ w4 g5 rfl rfl rfl rfl; (obtain ⟨cq5, fq5⟩ := j_ (a_ hG5 hq)))
      | (go_at_call 113; (with_reducible refine (et_ w5 _ _ q 1 K (nq.kept hG5) n5 (by omega) HLQ.out h1K).mono ?_); rintro e w6 ⟨v6, rfl, ⟨s6, x6, rfl, h6, vv6⟩, g6⟩; have hG6 := d_ hG5 g6; (obtain ⟨cq6, fq6⟩ := j_ (a_ hG6 hq))))
     all_goals (
      have hq6 := a_ hG6 hq
      have L6 := h6.set_other hq6 (by decide) 0 (.slice s6 x6.length x6.length)
      have L26 := (L2.kept hG6).set_other hq6 (by decide) 0 (.slice s6 x6.length x6.length)
      have nn6 := (nn.kept hG6).set_other hq6 (by decide) 0 (.slice s6 x6.length x6.length)
      have V6 := H_ vv6
      replace hba := y_ (a_ hG6 hba) (g := G) (by omega) (.slice s6 x6.length x6.length)
      replace hbb := y_ (a_ hG6 hbb) (g := G) (by omega) (.slice s6 x6.length x6.length)
      replace hR1 := y_ (a_ hG6 hR1) (g := G) (by omega) (.slice s6 x6.length x6.length)
      replace hR2 := y_ (a_ hG6 hR2) (g := G) (by omega) (.slice s6 x6.length x6.length)
      replace hr := y_ (a_ hG6 hr) (g := G) (by omega) (.slice s6 x6.length x6.length)
      replace hq := aY_ hq6 (.slice s6 x6.length x6.length)
      have hgw6 : w.grownBy (w6.setCell ⟨G, 0, none⟩ (.slice s6 x6.length x6.length)) none := s_ (g := G) (d_ hgw0 hG6) (q_ (h_ _ _) _ _) (by omega)
      clear cq fq cq5 fq5 cq6 fq6 n5 g5 hG5 g6 hG6 nq h6 vv6 hq6 hgw0 L1 L2 nn ia
      obtain ⟨cb0, cb1, fb0, fb1⟩ := c_ hbb
      obtain ⟨cr, fr⟩ := j_ hr
      go_wp2_with fail
      generalize (w6.setCell ⟨G, 0, none⟩ (.slice s6 x6.length x6.length)) = w7 at *
      have nr7 : NatV w7 (.agg #[.slice s2 x2.length x2.length]) r := ⟨_, _, rfl, L26, V2.out⟩
      refine (cq_ w7 _ _ C r K nn6 nr7 (by omega) Hlb.out (Nat.le_of_lt HML.out)).mono ?_
      rintro e w8 ⟨v8, rfl, ⟨s8, x8, rfl, h8, vv8⟩, g8⟩
      have hr8 := a_ g8 hr
      clear cr fr cb0 cb1 fb0 fb1 nr7 nn6
      obtain ⟨cr, fr⟩ := j_ hr8
      have L8 := h8.set_other hr8 (by decide) 0 (.slice s8 x8.length x8.length)
      have L68 := (L6.kept g8).set_other hr8 (by decide) 0 (.slice s8 x8.length x8.length)
      have V8 := H_ vv8
      replace hba := y_ (a_ g8 hba) (g := G + 1) (by omega) (.slice s8 x8.length x8.length)
      replace hbb := y_ (a_ g8 hbb) (g := G + 1) (by omega) (.slice s8 x8.length x8.length)
      replace hR1 := y_ (a_ g8 hR1) (g := G + 1) (by omega) (.slice s8 x8.length x8.length)
      replace hR2 := y_ (a_ g8 hR2) (g := G + 1) (by omega) (.slice s8 x8.length x8.length)
      replace hq := y_ (a_ g8 hq) (g := G + 1) (by omega) (.slice s8 x8.length x8.length)
      replace hr := aY_ hr8 (.slice s8 x8.length x8.length)
      have hgw0 : w.grownBy (w8.setCell ⟨G + 1, 0, none⟩ (.slice s8 x8.length x8.length)) none := s_ (g := G + 1) (d_ hgw6 g8) (q_ (h_ _ _) _ _) (by omega)
      clear g8 h8 vv8 hr8 hgw6 L6 L26
      go_wp2_with fail
      generalize (w8.setCell ⟨G + 1, 0, none⟩ (.slice s8 x8.length x8.length)) = wA at *
      clear cr fr
      obtain ⟨ca0, ca1, fa0, fa1⟩ := c_ hba
      obtain ⟨cb0, cb1, fb0, fb1⟩ := c_ hbb
      obtain ⟨cq, fq⟩ := j_ hq
      try clear cr fr
      obtain ⟨cr, fr⟩ := j_ hr
      have nq : NatV wA (.agg #[.slice s6 x6.length x6.length]) _ := ⟨_, _, rfl, L68, V6.out⟩
      go_region_held3 (fun w' => w'.cell? ⟨w.heap.size, 1, none⟩ = some (.bool true) ∧ w'.cell? ⟨w.heap.size + 1, 1, none⟩ = some (.bool true) ∧ w'.cell? ⟨G, 0, none⟩ = some (.slice s6 x6.length x6.length) ∧ w'.cell? ⟨G + 1, 0, none⟩ = some (.slice s8 x8.length x8.length))
       (first | assumption | exact ⟨ca1, cb1, cq, cr⟩ | exact HS3 | exact HS4 | go_keep)
       (first
         | (go_at_call 105; (with_reducible refine (HSG.out wA.drew _ (nq.kept (k_ (h_ _ _)))).mono ?_); rintro e w9 ⟨v9, rfl, ⟨s9, x9, fl9, rfl, h9, vv9, hb9⟩, g9⟩; have hG := o_ wA g9 rfl rfl rfl rfl; have hS2 := n_ (hG.cell ca1 (by simp)) (n_ (hG.cell cb1 (by simp)) (n_ (hG.cell cq (by simp)) (hG.cell cr (by simp)))); have hR19 := a_ hG hR1; have hR29 := a_ hG hR2; (obtain ⟨d0, d1, k0, k1⟩ := c_ hR19); have qa := e_ (a_ hG hba) (show w.heap.size ≠ w.heap.size + 1 + 1 by omega) (.slice s9 x9.length x9.length) (.bool fl9); have qb := e_ (a_ hG hbb) (show w.heap.size + 1 ≠ w.heap.size + 1 + 1 by omega) (.slice s9 x9.length x9.length) (.bool fl9); have qq := e_ (a_ hG hq) (show G ≠ w.heap.size + 1 + 1 by omega) (.slice s9 x9.length x9.length) (.bool fl9); have qr := e_ (a_ hG hr) (show G + 1 ≠ w.heap.size + 1 + 1 by omega) (.slice s9 x9.length x9.length) (.bool fl9); have HS3 := n_ (c_ qa).2.1 (n_ (c_ qb).2.1 (n_ (j_ qq).1 (j_ qr).1)); have qR := e_ hR29 (show w.heap.size + 1 + 1 + 1 ≠ w.heap.size + 1 + 1 by omega) (.slice s9 x9.length x9.length) (.bool fl9); (obtain ⟨m0, m1, p0, p1⟩ := c_ qR); have HS4 := n_ (c_ (e_ qa (show w.heap.size ≠ w.heap.size + 1 + 1 + 1 by omega) (.slice s8 x8.length x8.length) (.bool false))).2.1 (n_ (c_ (e_ qb (show w.heap.size + 1 ≠ w.heap.size + 1 + 1 + 1 by omega) (.slice s8 x8.length x8.length) (.bool false))).2.1 (n_ (j_ (e_ qq (show G ≠ w.heap.size + 1 + 1 + 1 by omega) (.slice s8 x8.length x8.length) (.bool false))).1 (j_ (e_ qr (show G + 1 ≠ w.heap.size + 1 + 1 + 1 by omega) (.slice s8 x8.length x8.length) (.bool false))).1))))
      have hgw9 := d_ hgw0 hG
      have I1 : IntV w9 (.agg #[.slice s9 x9.length x9.length, .bool fl9]) X := ⟨s9, x9, fl9, rfl, h9, vv9, hb9⟩
      have I2 : IntV w9 (.agg #[.slice s8 x8.length x8.length, .bool false]) Y := co_ (L8.kept hG) V8.out hz.out.2
      have hF : Hid (bx_ w X Y 0 _ _) := cj_ hgw9 hR19 hR29 (by omega) I1 I2
      have hQ := aE_ hR19 hR29 (.slice s9 x9.length x9.length) (.bool fl9) (.slice s8 x8.length x8.length) (.bool false)
      obtain ⟨o0, o1, o2, o3⟩ := hQ
      clear h9 vv9 hb9 I1 I2 g9 hgw0 hgw9
      go_wp2_with fail
      exact bodyPost_ret (v := .tuple #[.agg #[.slice s9 x9.length x9.length, .bool fl9], .agg #[.slice s8 x8.length x8.length, .bool false], .int .i64 0]) (by simp [results, Tryz.results109, go_sem, o0, o1, o2, o3]) rfl hF.out)
end Go.Proofs.YtgbbdgioohaknaaGreatDoor
