/- Whole numbers below 0 too: sums, differences, the other side, products. -/
import Derived.Test.YtldkddogadmpbaaGreatDoorZedSum
namespace Go.Proofs.YtldkddogadmpbaaGreatDoor
open Go.RowKit Mat
set_option maxRecDepth 100000
set_option linter.unusedVariables false
set_option linter.unusedSimpArgs false

theorem side_abs {z : Int} {b : Bool} (h : b = true ↔ z < 0) : (if b = true then -(z.natAbs : Int) else z.natAbs) = z := by
  cases b
  · have : ¬ z < 0 := fun q => by have := h.2 q; cases this
    simp; omega
  · have := h.1 rfl
    simp; omega
theorem side_neg {z : Int} {b : Bool} (h : b = true ↔ z < 0) : (if (!b) = true then -(z.natAbs : Int) else z.natAbs) = -z := by
  cases b
  · have : ¬ z < 0 := fun q => by have := h.2 q; cases this
    simp; omega
  · have := h.1 rfl
    simp; omega
theorem side_mul {x y : Int} {a b : Bool} (h : a = true ↔ x < 0) (k : b = true ↔ y < 0) : (if (a != b) = true then -((x.natAbs * y.natAbs : Nat) : Int) else ((x.natAbs * y.natAbs : Nat) : Int)) = x * y := by
  have e1 := side_abs h
  have e2 := side_abs k
  have e3 : ((x.natAbs * y.natAbs : Nat) : Int) = (x.natAbs : Int) * (y.natAbs : Int) := Int.natCast_mul _ _
  rw [e3]
  cases a <;> cases b <;> simp at e1 e2 ⊢
  · rw [e1, e2]
  · rw [← Int.mul_neg, e1, e2]
  · rw [← Int.neg_mul, e1, e2]
  · rw [← Int.neg_mul_neg, e1, e2]
set_option maxHeartbeats 4000000 in
theorem ZAdd_any (w : World) (va vb : Value) (x y : Int) (K : Nat) (ha : IntV w va x) (hb : IntV w vb y) (hK : K ≤ 900000) (la : x.natAbs < B ^ K) (lb : y.natAbs < B ^ K) :
    Calls Tryz.prog 70 #[va, vb] w (RetInt w (x + y)) := by
  obtain ⟨sa, xs, za, rfl, hx, hv, hza⟩ := ha
  obtain ⟨sb, ys, zb, rfl, hy, hvy, hzb⟩ := hb
  have hgw0 : w.grownBy (((w.alloc (.cells #[.slice sa xs.length xs.length, .bool za] 26)).alloc (.cells #[.slice sb ys.length ys.length, .bool zb] 26)).alloc (.cells #[.slice none 0 0, .bool false] 26)) none := grown_alloc (grown_alloc (World.grownBy_alloc _ _ _) _) _
  have hr := heap_new ((w.alloc (.cells #[.slice sa xs.length xs.length, .bool za] 26)).alloc (.cells #[.slice sb ys.length ys.length, .bool zb] 26)) (.cells #[.slice none 0 0, .bool false] 26) (w.heap.size + 1 + 1) (by simp)
  have hbb := heap_kept (World.grownBy_alloc _ (.cells #[.slice none 0 0, .bool false] 26) none) (heap_new (w.alloc (.cells #[.slice sa xs.length xs.length, .bool za] 26)) (.cells #[.slice sb ys.length ys.length, .bool zb] 26) (w.heap.size + 1) (by simp))
  have hba := heap_kept (grown_alloc (World.grownBy_alloc _ (.cells #[.slice sb ys.length ys.length, .bool zb] 26) none) (.cells #[.slice none 0 0, .bool false] 26)) (heap_new w (.cells #[.slice sa xs.length xs.length, .bool za] 26) w.heap.size rfl)
  have na : IntV (((w.alloc (.cells #[.slice sa xs.length xs.length, .bool za] 26)).alloc (.cells #[.slice sb ys.length ys.length, .bool zb] 26)).alloc (.cells #[.slice none 0 0, .bool false] 26)) (.agg #[.slice sa xs.length xs.length, .bool za]) x := ⟨sa, xs, za, rfl, hx.kept hgw0, hv, hza⟩
  have nn : NatV (((w.alloc (.cells #[.slice sa xs.length xs.length, .bool za] 26)).alloc (.cells #[.slice sb ys.length ys.length, .bool zb] 26)).alloc (.cells #[.slice none 0 0, .bool false] 26)) (.agg #[.slice sb ys.length ys.length]) y.natAbs := ⟨sb, ys, rfl, hy.kept hgw0, hvy⟩
  have Hla := Lib.hid la
  have Hlb := Lib.hid lb
  have HE : Hid (x + (if (zb) = true then -(y.natAbs : Int) else y.natAbs) = x + y) := by show _ = _; rw [side_abs hzb]
  clear hx hv hy hvy la lb hza hzb
  go_enter Tryz.func70, Tryz.ntmps70
  obtain ⟨ca0, ca1, fa0, fa1⟩ := box_cells hba
  obtain ⟨cb0, cb1, fb0, fb1⟩ := box_cells hbb
  go_wp2_with fail
  refine (together_any _ _ _ x y.natAbs K (zb) na nn hK Hla.out Hlb.out).mono ?_
  rintro e w2 ⟨v2, rfl, ⟨s2, x2, fl2, rfl, h2, vv2, hb2⟩, g2⟩
  rw [HE.out] at vv2 hb2
  have hgw := grown_trans hgw0 g2
  have hrr := heap_kept g2 hr
  clear na nn g2
  have hb9 := hrr
  obtain ⟨c90, c91, f90, f91⟩ := box_cells hb9
  obtain ⟨q90, q91, r90, r91⟩ := box_cells (heap_set2 hb9 (.slice s2 x2.length x2.length) (.bool fl2))
  have hF : Hid (RetInt w (x + y) (.returned (.agg #[.slice s2 x2.length x2.length, .bool fl2])) ((w2.setCell ⟨w.heap.size + 1 + 1, 0, none⟩ (.slice s2 x2.length x2.length)).setCell ⟨w.heap.size + 1 + 1, 1, none⟩ (.bool fl2))) := ret_int hgw hb9 (by omega) h2 vv2 hb2
  clear h2 vv2 hb2
  go_wp2_with fail
  exact bodyPost_ret (v := .agg #[.slice s2 x2.length x2.length, .bool fl2]) (by simp [results, Tryz.results70, go_sem, q90, q91]) rfl hF.out
set_option maxHeartbeats 4000000 in
theorem ZNeg_any (w : World) (va : Value) (x : Int) (K : Nat) (ha : IntV w va x) (hK : K ≤ 900000) (la : x.natAbs < B ^ K) :
    Calls Tryz.prog 44 #[va] w (RetInt w (-x)) := by
  obtain ⟨sa, xs, za, rfl, hx, hv, hza⟩ := ha
  have hgw0 : w.grownBy ((w.alloc (.cells #[.slice sa xs.length xs.length, .bool za] 26)).alloc (.cells #[.slice none 0 0, .bool false] 26)) none := grown_alloc (World.grownBy_alloc _ _ _) _
  have hr := heap_new (w.alloc (.cells #[.slice sa xs.length xs.length, .bool za] 26)) (.cells #[.slice none 0 0, .bool false] 26) (w.heap.size + 1) (by simp)
  have hba := heap_kept (World.grownBy_alloc _ (.cells #[.slice none 0 0, .bool false] 26) none) (heap_new w (.cells #[.slice sa xs.length xs.length, .bool za] 26) w.heap.size rfl)
  have na : NatV ((w.alloc (.cells #[.slice sa xs.length xs.length, .bool za] 26)).alloc (.cells #[.slice none 0 0, .bool false] 26)) (.agg #[.slice sa xs.length xs.length]) x.natAbs := ⟨sa, xs, rfl, hx.kept hgw0, hv⟩
  have Hla := Lib.hid la
  have HE := Lib.hid (side_neg hza)
  clear hx hv la hza
  go_enter Tryz.func44, Tryz.ntmps44
  go_wp2_with fail
  generalize ((w.alloc (.cells #[.slice sa xs.length xs.length, .bool za] 26)).alloc (.cells #[.slice none 0 0, .bool false] 26)) = w0 at *
  obtain ⟨ca0, ca1, fa0, fa1⟩ := box_cells hba
  go_region_held3 (fun w' => w'.cell? ⟨w.heap.size, 0, none⟩ = some (.slice sa xs.length xs.length) ∧ w'.cell? ⟨w.heap.size, 1, none⟩ = some (.bool za))
    (first | assumption | exact ⟨ca0, ca1⟩ | exact HS3 | go_keep)
    (first
      | (go_at_call 48; (with_reducible refine (fresh_any w0.drew _ x.natAbs K (na.kept (grown_drew (grown_refl _ _))) (by omega) Hla.out).mono ?_); rintro e w1 ⟨v1, rfl, n1, g1⟩; have hG1 := grown_pre w0 g1 rfl rfl rfl rfl; have hS1 := And.intro (hG1.cell ca0 (by simp)) (hG1.cell ca1 (by simp)))
      | (go_at_call 74; (with_reducible refine (signed_any w1 _ x.natAbs K (!za) n1 (by omega) Hla.out).mono ?_); rintro e w2 ⟨v2, rfl, ⟨s2, x2, fl2, rfl, h2, vv2, hb2⟩, g2⟩; have hG2 := grown_trans hG1 g2; have hS2 := And.intro (hG2.cell ca0 (by simp)) (hG2.cell ca1 (by simp)); have hr2 := heap_kept hG2 hr; (obtain ⟨d0, d1, k0, k1⟩ := box_cells hr2); have HS3 := And.intro (box_cells (heap_unset2 (heap_kept hG2 hba) (show w.heap.size ≠ w.heap.size + 1 by omega) (.slice s2 x2.length x2.length) (.bool fl2))).1 (box_cells (heap_unset2 (heap_kept hG2 hba) (show w.heap.size ≠ w.heap.size + 1 by omega) (.slice s2 x2.length x2.length) (.bool fl2))).2.1))
  rw [HE.out] at vv2 hb2
  have hgw := grown_trans hgw0 hG2
  clear n1 g1 g2 na
  have hb9 := hr2
  obtain ⟨c90, c91, f90, f91⟩ := box_cells hb9
  obtain ⟨q90, q91, r90, r91⟩ := box_cells (heap_set2 hb9 (.slice s2 x2.length x2.length) (.bool fl2))
  have hF : Hid (RetInt w (-x) (.returned (.agg #[.slice s2 x2.length x2.length, .bool fl2])) ((w2.setCell ⟨w.heap.size + 1, 0, none⟩ (.slice s2 x2.length x2.length)).setCell ⟨w.heap.size + 1, 1, none⟩ (.bool fl2))) := ret_int hgw hb9 (by omega) h2 vv2 hb2
  clear h2 vv2 hb2
  go_wp2_with fail
  exact bodyPost_ret (v := .agg #[.slice s2 x2.length x2.length, .bool fl2]) (by simp [results, Tryz.results44, go_sem, q90, q91]) rfl hF.out
theorem bmul {a b k m : Nat} (h1 : a < B ^ k) (h2 : b < B ^ m) : a * b < B ^ (k + m) := by
  rw [Nat.pow_add]; exact Nat.mul_lt_mul'' h1 h2
end Go.Proofs.YtldkddogadmpbaaGreatDoor
