/- What the laws lean on, part 7. -/
import Derived.BigQuiet
import Derived.BigRegion
import Derived.Deep.AppendLies
import Derived.Deep.CutBlock
import Derived.Deep.CutRange
import Derived.Deep.DeepCutAuto
import Derived.Deep.LoopGhost
import Derived.Deep.QuietTactic
import Derived.Deep.RegionHeld3
import Derived.Laws.CopyOwn
import Derived.Laws.Externs
import Derived.Laws.IdiomStrings
import Derived.Lib.BitFns
import Derived.Lib.Hide
import Derived.Lib.Slices
import Derived.Lib.Small
import Derived.Lib.Strings
import Derived.Lib.Walk
import Derived.Outline
import Derived.OwnWalk
import Derived.Shelf.Bits.Mul64
import Derived.StillTailTactics
import Derived.WalkKit
import Derived.WalkLawsBesides
import Derived.WalkSpells
import Derived.Test.YtoaepibannfbdaaGreatDoorProg
import Derived.Test.YtoaepibannfbdaaGreatDoorMr6
namespace Go.Proofs.YtoaepibannfbdaaGreatDoor
open Go.RowKit Mat
set_option maxRecDepth 100000
set_option linter.unusedVariables false
set_option linter.unusedSimpArgs false
theorem side_abs {z : Int} {b : Bool} (h : b = true ↔ z < 0) : (if b = true then -(z.natAbs : Int) else z.natAbs) = z := by
  cases b
  · have : ¬ z < 0 := fun q => by have := h.2 q; cases this
    simp; omega
  · have := h.1 rfl
    simp; omega
theorem side_neg {z : Int} {b : Bool} (h : b = true ↔ z < 0) : (if (!b) = true then -(z.natAbs : Int) else z.natAbs) = -z := by
  cases b
  · have : ¬ z < 0 := fun q => by have := h.2 q; cases this
    simp; omega
  · have := h.1 rfl
    simp; omega
theorem side_mul {x y : Int} {a b : Bool} (h : a = true ↔ x < 0) (k : b = true ↔ y < 0) : (if (a != b) = true then -((x.natAbs * y.natAbs : Nat) : Int) else ((x.natAbs * y.natAbs : Nat) : Int)) = x * y := by
  have e1 := side_abs h
  have e2 := side_abs k
  have e3 : ((x.natAbs * y.natAbs : Nat) : Int) = (x.natAbs : Int) * (y.natAbs : Int) := Int.natCast_mul _ _
  rw [e3]
  cases a <;> cases b <;> simp at e1 e2 ⊢
  · rw [e1, e2]
  · rw [← Int.mul_neg, e1, e2]
  · rw [← Int.neg_mul, e1, e2]
  · rw [← Int.neg_mul_neg, e1, e2]
set_option maxHeartbeats 4000000 in
theorem ZAdd_any (w : World) (va vb : Value) (x y : Int) (K : Nat) (ha : IntV w va x) (hb : IntV w vb y) (hK : K ≤ 900000) (la : x.natAbs < B ^ K) (lb : y.natAbs < B ^ K) :
    Calls Tryz.prog 84 #[va, vb] w (RetInt w (x + y)) := by
  obtain ⟨sa, xs, za, rfl, hx, hv, hza⟩ := ha
  obtain ⟨sb, ys, zb, rfl, hy, hvy, hzb⟩ := hb
  have hgw0 : w.grownBy (((w.alloc (.cells #[.slice sa xs.length xs.length, .bool za] 29)).alloc (.cells #[.slice sb ys.length ys.length, .bool zb] 29)).alloc (.cells #[.slice none 0 0, .bool false] 29)) none := grown_alloc (grown_alloc (World.grownBy_alloc _ _ _) _) _
  have hr := heap_new ((w.alloc (.cells #[.slice sa xs.length xs.length, .bool za] 29)).alloc (.cells #[.slice sb ys.length ys.length, .bool zb] 29)) (.cells #[.slice none 0 0, .bool false] 29) (w.heap.size + 1 + 1) (by simp)
  have hbb := heap_kept (World.grownBy_alloc _ (.cells #[.slice none 0 0, .bool false] 29) none) (heap_new (w.alloc (.cells #[.slice sa xs.length xs.length, .bool za] 29)) (.cells #[.slice sb ys.length ys.length, .bool zb] 29) (w.heap.size + 1) (by simp))
  have hba := heap_kept (grown_alloc (World.grownBy_alloc _ (.cells #[.slice sb ys.length ys.length, .bool zb] 29) none) (.cells #[.slice none 0 0, .bool false] 29)) (heap_new w (.cells #[.slice sa xs.length xs.length, .bool za] 29) w.heap.size rfl)
  have na : IntV (((w.alloc (.cells #[.slice sa xs.length xs.length, .bool za] 29)).alloc (.cells #[.slice sb ys.length ys.length, .bool zb] 29)).alloc (.cells #[.slice none 0 0, .bool false] 29)) (.agg #[.slice sa xs.length xs.length, .bool za]) x := ⟨sa, xs, za, rfl, hx.kept hgw0, hv, hza⟩
  have nn : NatV (((w.alloc (.cells #[.slice sa xs.length xs.length, .bool za] 29)).alloc (.cells #[.slice sb ys.length ys.length, .bool zb] 29)).alloc (.cells #[.slice none 0 0, .bool false] 29)) (.agg #[.slice sb ys.length ys.length]) y.natAbs := ⟨sb, ys, rfl, hy.kept hgw0, hvy⟩
  have Hla := Lib.hid la
  have Hlb := Lib.hid lb
  have HE : Hid (x + (if (zb) = true then -(y.natAbs : Int) else y.natAbs) = x + y) := by show _ = _; rw [side_abs hzb]
  clear hx hv hy hvy la lb hza hzb
  go_enter Tryz.func84, Tryz.ntmps84
  obtain ⟨ca0, ca1, fa0, fa1⟩ := box_cells hba
  obtain ⟨cb0, cb1, fb0, fb1⟩ := box_cells hbb
  go_wp2_with fail
  refine (together_any _ _ _ x y.natAbs K (zb) na nn hK Hla.out Hlb.out).mono ?_
  rintro e w2 ⟨v2, rfl, ⟨s2, x2, fl2, rfl, h2, vv2, hb2⟩, g2⟩
  rw [HE.out] at vv2 hb2
  have hgw := grown_trans hgw0 g2
  have hrr := heap_kept g2 hr
  clear na nn g2
  have hb9 := hrr
  obtain ⟨c90, c91, f90, f91⟩ := box_cells hb9
  obtain ⟨q90, q91, r90, r91⟩ := box_cells (heap_set2 hb9 (.slice s2 x2.length x2.length) (.bool fl2))
  have hF : Hid (RetInt w (x + y) (.returned (.agg #[.slice s2 x2.length x2.length, .bool fl2])) ((w2.setCell ⟨w.heap.size + 1 + 1, 0, none⟩ (.slice s2 x2.length x2.length)).setCell ⟨w.heap.size + 1 + 1, 1, none⟩ (.bool fl2))) := ret_int hgw hb9 (by omega) h2 vv2 hb2
  clear h2 vv2 hb2
  go_wp2_with fail
  exact bodyPost_ret (v := .agg #[.slice s2 x2.length x2.length, .bool fl2]) (by simp [results, Tryz.results84, go_sem, q90, q91]) rfl hF.out
set_option maxHeartbeats 4000000 in
theorem ZSub_any (w : World) (va vb : Value) (x y : Int) (K : Nat) (ha : IntV w va x) (hb : IntV w vb y) (hK : K ≤ 900000) (la : x.natAbs < B ^ K) (lb : y.natAbs < B ^ K) :
    Calls Tryz.prog 116 #[va, vb] w (RetInt w (x - y)) := by
  obtain ⟨sa, xs, za, rfl, hx, hv, hza⟩ := ha
  obtain ⟨sb, ys, zb, rfl, hy, hvy, hzb⟩ := hb
  have hgw0 : w.grownBy (((w.alloc (.cells #[.slice sa xs.length xs.length, .bool za] 29)).alloc (.cells #[.slice sb ys.length ys.length, .bool zb] 29)).alloc (.cells #[.slice none 0 0, .bool false] 29)) none := grown_alloc (grown_alloc (World.grownBy_alloc _ _ _) _) _
  have hr := heap_new ((w.alloc (.cells #[.slice sa xs.length xs.length, .bool za] 29)).alloc (.cells #[.slice sb ys.length ys.length, .bool zb] 29)) (.cells #[.slice none 0 0, .bool false] 29) (w.heap.size + 1 + 1) (by simp)
  have hbb := heap_kept (World.grownBy_alloc _ (.cells #[.slice none 0 0, .bool false] 29) none) (heap_new (w.alloc (.cells #[.slice sa xs.length xs.length, .bool za] 29)) (.cells #[.slice sb ys.length ys.length, .bool zb] 29) (w.heap.size + 1) (by simp))
  have hba := heap_kept (grown_alloc (World.grownBy_alloc _ (.cells #[.slice sb ys.length ys.length, .bool zb] 29) none) (.cells #[.slice none 0 0, .bool false] 29)) (heap_new w (.cells #[.slice sa xs.length xs.length, .bool za] 29) w.heap.size rfl)
  have na : IntV (((w.alloc (.cells #[.slice sa xs.length xs.length, .bool za] 29)).alloc (.cells #[.slice sb ys.length ys.length, .bool zb] 29)).alloc (.cells #[.slice none 0 0, .bool false] 29)) (.agg #[.slice sa xs.length xs.length, .bool za]) x := ⟨sa, xs, za, rfl, hx.kept hgw0, hv, hza⟩
  have nn : NatV (((w.alloc (.cells #[.slice sa xs.length xs.length, .bool za] 29)).alloc (.cells #[.slice sb ys.length ys.length, .bool zb] 29)).alloc (.cells #[.slice none 0 0, .bool false] 29)) (.agg #[.slice sb ys.length ys.length]) y.natAbs := ⟨sb, ys, rfl, hy.kept hgw0, hvy⟩
  have Hla := Lib.hid la
  have Hlb := Lib.hid lb
  have HE : Hid (x + (if (!zb) = true then -(y.natAbs : Int) else y.natAbs) = x - y) := by show _ = _; rw [side_neg hzb]; omega
  clear hx hv hy hvy la lb hza hzb
  go_enter Tryz.func116, Tryz.ntmps116
  obtain ⟨ca0, ca1, fa0, fa1⟩ := box_cells hba
  obtain ⟨cb0, cb1, fb0, fb1⟩ := box_cells hbb
  go_wp2_with fail
  refine (together_any _ _ _ x y.natAbs K (!zb) na nn hK Hla.out Hlb.out).mono ?_
  rintro e w2 ⟨v2, rfl, ⟨s2, x2, fl2, rfl, h2, vv2, hb2⟩, g2⟩
  rw [HE.out] at vv2 hb2
  have hgw := grown_trans hgw0 g2
  have hrr := heap_kept g2 hr
  clear na nn g2
  have hb9 := hrr
  obtain ⟨c90, c91, f90, f91⟩ := box_cells hb9
  obtain ⟨q90, q91, r90, r91⟩ := box_cells (heap_set2 hb9 (.slice s2 x2.length x2.length) (.bool fl2))
  have hF : Hid (RetInt w (x - y) (.returned (.agg #[.slice s2 x2.length x2.length, .bool fl2])) ((w2.setCell ⟨w.heap.size + 1 + 1, 0, none⟩ (.slice s2 x2.length x2.length)).setCell ⟨w.heap.size + 1 + 1, 1, none⟩ (.bool fl2))) := ret_int hgw hb9 (by omega) h2 vv2 hb2
  clear h2 vv2 hb2
  go_wp2_with fail
  exact bodyPost_ret (v := .agg #[.slice s2 x2.length x2.length, .bool fl2]) (by simp [results, Tryz.results116, go_sem, q90, q91]) rfl hF.out
set_option maxHeartbeats 4000000 in
theorem ZNeg_any (w : World) (va : Value) (x : Int) (K : Nat) (ha : IntV w va x) (hK : K ≤ 900000) (la : x.natAbs < B ^ K) :
    Calls Tryz.prog 86 #[va] w (RetInt w (-x)) := by
  obtain ⟨sa, xs, za, rfl, hx, hv, hza⟩ := ha
  have hgw0 : w.grownBy ((w.alloc (.cells #[.slice sa xs.length xs.length, .bool za] 29)).alloc (.cells #[.slice none 0 0, .bool false] 29)) none := grown_alloc (World.grownBy_alloc _ _ _) _
  have hr := heap_new (w.alloc (.cells #[.slice sa xs.length xs.length, .bool za] 29)) (.cells #[.slice none 0 0, .bool false] 29) (w.heap.size + 1) (by simp)
  have hba := heap_kept (World.grownBy_alloc _ (.cells #[.slice none 0 0, .bool false] 29) none) (heap_new w (.cells #[.slice sa xs.length xs.length, .bool za] 29) w.heap.size rfl)
  have na : NatV ((w.alloc (.cells #[.slice sa xs.length xs.length, .bool za] 29)).alloc (.cells #[.slice none 0 0, .bool false] 29)) (.agg #[.slice sa xs.length xs.length]) x.natAbs := ⟨sa, xs, rfl, hx.kept hgw0, hv⟩
  have Hla := Lib.hid la
  have HE := Lib.hid (side_neg hza)
  clear hx hv la hza
  go_enter Tryz.func86, Tryz.ntmps86
  go_wp2_with fail
  generalize ((w.alloc (.cells #[.slice sa xs.length xs.length, .bool za] 29)).alloc (.cells #[.slice none 0 0, .bool false] 29)) = w0 at *
  obtain ⟨ca0, ca1, fa0, fa1⟩ := box_cells hba
  go_region_held3 (fun w' => w'.cell? ⟨w.heap.size, 0, none⟩ = some (.slice sa xs.length xs.length) ∧ w'.cell? ⟨w.heap.size, 1, none⟩ = some (.bool za))
    (first | assumption | exact ⟨ca0, ca1⟩ | exact HS3 | go_keep)
    (first
      | (go_at_call 126; (with_reducible refine (fresh_any w0.drew _ x.natAbs K (na.kept (grown_drew (grown_refl _ _))) (by omega) Hla.out).mono ?_); rintro e w1 ⟨v1, rfl, n1, g1⟩; have hG1 := grown_pre w0 g1 rfl rfl rfl rfl; have hS1 := And.intro (hG1.cell ca0 (by simp)) (hG1.cell ca1 (by simp)))
      | (go_at_call 119; (with_reducible refine (signed_any w1 _ x.natAbs K (!za) n1 (by omega) Hla.out).mono ?_); rintro e w2 ⟨v2, rfl, ⟨s2, x2, fl2, rfl, h2, vv2, hb2⟩, g2⟩; have hG2 := grown_trans hG1 g2; have hS2 := And.intro (hG2.cell ca0 (by simp)) (hG2.cell ca1 (by simp)); have hr2 := heap_kept hG2 hr; (obtain ⟨d0, d1, k0, k1⟩ := box_cells hr2); have HS3 := And.intro (box_cells (heap_unset2 (heap_kept hG2 hba) (show w.heap.size ≠ w.heap.size + 1 by omega) (.slice s2 x2.length x2.length) (.bool fl2))).1 (box_cells (heap_unset2 (heap_kept hG2 hba) (show w.heap.size ≠ w.heap.size + 1 by omega) (.slice s2 x2.length x2.length) (.bool fl2))).2.1))
  rw [HE.out] at vv2 hb2
  have hgw := grown_trans hgw0 hG2
  clear n1 g1 g2 na
  have hb9 := hr2
  obtain ⟨c90, c91, f90, f91⟩ := box_cells hb9
  obtain ⟨q90, q91, r90, r91⟩ := box_cells (heap_set2 hb9 (.slice s2 x2.length x2.length) (.bool fl2))
  have hF : Hid (RetInt w (-x) (.returned (.agg #[.slice s2 x2.length x2.length, .bool fl2])) ((w2.setCell ⟨w.heap.size + 1, 0, none⟩ (.slice s2 x2.length x2.length)).setCell ⟨w.heap.size + 1, 1, none⟩ (.bool fl2))) := ret_int hgw hb9 (by omega) h2 vv2 hb2
  clear h2 vv2 hb2
  go_wp2_with fail
  exact bodyPost_ret (v := .agg #[.slice s2 x2.length x2.length, .bool fl2]) (by simp [results, Tryz.results86, go_sem, q90, q91]) rfl hF.out
theorem bmul {a b k m : Nat} (h1 : a < B ^ k) (h2 : b < B ^ m) : a * b < B ^ (k + m) := by
  rw [Nat.pow_add]; exact Nat.mul_lt_mul'' h1 h2
set_option maxHeartbeats 8000000 in
theorem ZMul_any (w : World) (va vb : Value) (x y : Int) (K : Nat) (ha : IntV w va x) (hb : IntV w vb y) (hK : K ≤ 400000) (la : x.natAbs < B ^ K) (lb : y.natAbs < B ^ K) :
    Calls Tryz.prog 80 #[va, vb] w (RetInt w (x * y)) := by
  obtain ⟨sa, xs, za, rfl, hx, hv, hza⟩ := ha
  obtain ⟨sb, ys, zb, rfl, hy, hvy, hzb⟩ := hb
  have hgw0 : w.grownBy (((w.alloc (.cells #[.slice sa xs.length xs.length, .bool za] 29)).alloc (.cells #[.slice sb ys.length ys.length, .bool zb] 29)).alloc (.cells #[.slice none 0 0, .bool false] 29)) none := grown_alloc (grown_alloc (World.grownBy_alloc _ _ _) _) _
  have hr := heap_new ((w.alloc (.cells #[.slice sa xs.length xs.length, .bool za] 29)).alloc (.cells #[.slice sb ys.length ys.length, .bool zb] 29)) (.cells #[.slice none 0 0, .bool false] 29) (w.heap.size + 1 + 1) (by simp)
  have hbb := heap_kept (World.grownBy_alloc _ (.cells #[.slice none 0 0, .bool false] 29) none) (heap_new (w.alloc (.cells #[.slice sa xs.length xs.length, .bool za] 29)) (.cells #[.slice sb ys.length ys.length, .bool zb] 29) (w.heap.size + 1) (by simp))
  have hba := heap_kept (grown_alloc (World.grownBy_alloc _ (.cells #[.slice sb ys.length ys.length, .bool zb] 29) none) (.cells #[.slice none 0 0, .bool false] 29)) (heap_new w (.cells #[.slice sa xs.length xs.length, .bool za] 29) w.heap.size rfl)
  have na : NatV (((w.alloc (.cells #[.slice sa xs.length xs.length, .bool za] 29)).alloc (.cells #[.slice sb ys.length ys.length, .bool zb] 29)).alloc (.cells #[.slice none 0 0, .bool false] 29)) (.agg #[.slice sa xs.length xs.length]) x.natAbs := ⟨sa, xs, rfl, hx.kept hgw0, hv⟩
  have nn : NatV (((w.alloc (.cells #[.slice sa xs.length xs.length, .bool za] 29)).alloc (.cells #[.slice sb ys.length ys.length, .bool zb] 29)).alloc (.cells #[.slice none 0 0, .bool false] 29)) (.agg #[.slice sb ys.length ys.length]) y.natAbs := ⟨sb, ys, rfl, hy.kept hgw0, hvy⟩
  have Hla := Lib.hid la
  have Hlb := Lib.hid lb
  have HE := Lib.hid (side_mul hza hzb)
  clear hx hv hy hvy la lb hza hzb
  cases za <;> cases zb
  · skip
    have HSG : Hid (∀ W v, NatV W v (x.natAbs * y.natAbs) → Calls Tryz.prog 119 #[v, .bool false] W (RetInt W (x * y))) := fun W v hn => by
      have q := signed_any W v _ (K + K) false hn (by omega) (bmul Hla.out Hlb.out)
      rw [show (if false = true then -((x.natAbs * y.natAbs : Nat) : Int) else ((x.natAbs * y.natAbs : Nat) : Int)) = x * y from HE.out] at q
      exact q
    go_enter Tryz.func80, Tryz.ntmps80
    go_wp2_with fail
    generalize (((w.alloc (.cells #[.slice sa xs.length xs.length, .bool false] 29)).alloc (.cells #[.slice sb ys.length ys.length, .bool false] 29)).alloc (.cells #[.slice none 0 0, .bool false] 29)) = w0 at *
    obtain ⟨ca0, ca1, fa0, fa1⟩ := box_cells hba
    obtain ⟨cb0, cb1, fb0, fb1⟩ := box_cells hbb
    go_region_held3 (fun w' => w'.cell? ⟨w.heap.size, 0, none⟩ = some (.slice sa xs.length xs.length) ∧ w'.cell? ⟨w.heap.size, 1, none⟩ = some (.bool false) ∧ w'.cell? ⟨w.heap.size + 1, 0, none⟩ = some (.slice sb ys.length ys.length) ∧ w'.cell? ⟨w.heap.size + 1, 1, none⟩ = some (.bool false))
      (first | assumption | exact ⟨ca0, ca1, cb0, cb1⟩ | exact HS3 | go_keep)
      (first
        | (go_at_call 120; (with_reducible refine (Mul_any w0.drew _ _ x.natAbs y.natAbs K (na.kept (grown_drew (grown_refl _ _))) (nn.kept (grown_drew (grown_refl _ _))) (by omega) Hla.out Hlb.out).mono ?_); rintro e w1 ⟨v1, rfl, n1, g1⟩; have hG1 := grown_pre w0 g1 rfl rfl rfl rfl; have hS1 := And.intro (hG1.cell ca0 (by simp)) (And.intro (hG1.cell ca1 (by simp)) (And.intro (hG1.cell cb0 (by simp)) (hG1.cell cb1 (by simp)))))
        | (go_at_call 119; (with_reducible refine (HSG.out w1 _ n1).mono ?_); rintro e w2 ⟨v2, rfl, ⟨s2, x2, fl2, rfl, h2, vv2, hb2⟩, g2⟩; have hG2 := grown_trans hG1 g2; have hS2 := And.intro (hG2.cell ca0 (by simp)) (And.intro (hG2.cell ca1 (by simp)) (And.intro (hG2.cell cb0 (by simp)) (hG2.cell cb1 (by simp)))); have hr2 := heap_kept hG2 hr; (obtain ⟨d0, d1, k0, k1⟩ := box_cells hr2); have qa := box_cells (heap_unset2 (heap_kept hG2 hba) (show w.heap.size ≠ w.heap.size + 1 + 1 by omega) (.slice s2 x2.length x2.length) (.bool fl2)); have qb := box_cells (heap_unset2 (heap_kept hG2 hbb) (show w.heap.size + 1 ≠ w.heap.size + 1 + 1 by omega) (.slice s2 x2.length x2.length) (.bool fl2)); have HS3 := And.intro qa.1 (And.intro qa.2.1 (And.intro qb.1 qb.2.1))))
    have hgw := grown_trans hgw0 hG2
    clear n1 g1 g2 na nn
    have hb9 := hr2
    obtain ⟨c90, c91, f90, f91⟩ := box_cells hb9
    obtain ⟨q90, q91, r90, r91⟩ := box_cells (heap_set2 hb9 (.slice s2 x2.length x2.length) (.bool fl2))
    have hF : Hid (RetInt w (x * y) (.returned (.agg #[.slice s2 x2.length x2.length, .bool fl2])) ((w2.setCell ⟨w.heap.size + 1 + 1, 0, none⟩ (.slice s2 x2.length x2.length)).setCell ⟨w.heap.size + 1 + 1, 1, none⟩ (.bool fl2))) := ret_int hgw hb9 (by omega) h2 vv2 hb2
    clear h2 vv2 hb2
    go_wp2_with fail
    exact bodyPost_ret (v := .agg #[.slice s2 x2.length x2.length, .bool fl2]) (by simp [results, Tryz.results80, go_sem, q90, q91]) rfl hF.out
  · skip
    have HSG : Hid (∀ W v, NatV W v (x.natAbs * y.natAbs) → Calls Tryz.prog 119 #[v, .bool true] W (RetInt W (x * y))) := fun W v hn => by
      have q := signed_any W v _ (K + K) true hn (by omega) (bmul Hla.out Hlb.out)
      rw [show (if true = true then -((x.natAbs * y.natAbs : Nat) : Int) else ((x.natAbs * y.natAbs : Nat) : Int)) = x * y from HE.out] at q
      exact q
    go_enter Tryz.func80, Tryz.ntmps80
    go_wp2_with fail
    generalize (((w.alloc (.cells #[.slice sa xs.length xs.length, .bool false] 29)).alloc (.cells #[.slice sb ys.length ys.length, .bool true] 29)).alloc (.cells #[.slice none 0 0, .bool false] 29)) = w0 at *
    obtain ⟨ca0, ca1, fa0, fa1⟩ := box_cells hba
    obtain ⟨cb0, cb1, fb0, fb1⟩ := box_cells hbb
    go_region_held3 (fun w' => w'.cell? ⟨w.heap.size, 0, none⟩ = some (.slice sa xs.length xs.length) ∧ w'.cell? ⟨w.heap.size, 1, none⟩ = some (.bool false) ∧ w'.cell? ⟨w.heap.size + 1, 0, none⟩ = some (.slice sb ys.length ys.length) ∧ w'.cell? ⟨w.heap.size + 1, 1, none⟩ = some (.bool true))
      (first | assumption | exact ⟨ca0, ca1, cb0, cb1⟩ | exact HS3 | go_keep)
      (first
        | (go_at_call 120; (with_reducible refine (Mul_any w0.drew _ _ x.natAbs y.natAbs K (na.kept (grown_drew (grown_refl _ _))) (nn.kept (grown_drew (grown_refl _ _))) (by omega) Hla.out Hlb.out).mono ?_); rintro e w1 ⟨v1, rfl, n1, g1⟩; have hG1 := grown_pre w0 g1 rfl rfl rfl rfl; have hS1 := And.intro (hG1.cell ca0 (by simp)) (And.intro (hG1.cell ca1 (by simp)) (And.intro (hG1.cell cb0 (by simp)) (hG1.cell cb1 (by simp)))))
        | (go_at_call 119; (with_reducible refine (HSG.out w1 _ n1).mono ?_); rintro e w2 ⟨v2, rfl, ⟨s2, x2, fl2, rfl, h2, vv2, hb2⟩, g2⟩; have hG2 := grown_trans hG1 g2; have hS2 := And.intro (hG2.cell ca0 (by simp)) (And.intro (hG2.cell ca1 (by simp)) (And.intro (hG2.cell cb0 (by simp)) (hG2.cell cb1 (by simp)))); have hr2 := heap_kept hG2 hr; (obtain ⟨d0, d1, k0, k1⟩ := box_cells hr2); have qa := box_cells (heap_unset2 (heap_kept hG2 hba) (show w.heap.size ≠ w.heap.size + 1 + 1 by omega) (.slice s2 x2.length x2.length) (.bool fl2)); have qb := box_cells (heap_unset2 (heap_kept hG2 hbb) (show w.heap.size + 1 ≠ w.heap.size + 1 + 1 by omega) (.slice s2 x2.length x2.length) (.bool fl2)); have HS3 := And.intro qa.1 (And.intro qa.2.1 (And.intro qb.1 qb.2.1))))
    have hgw := grown_trans hgw0 hG2
    clear n1 g1 g2 na nn
    have hb9 := hr2
    obtain ⟨c90, c91, f90, f91⟩ := box_cells hb9
    obtain ⟨q90, q91, r90, r91⟩ := box_cells (heap_set2 hb9 (.slice s2 x2.length x2.length) (.bool fl2))
    have hF : Hid (RetInt w (x * y) (.returned (.agg #[.slice s2 x2.length x2.length, .bool fl2])) ((w2.setCell ⟨w.heap.size + 1 + 1, 0, none⟩ (.slice s2 x2.length x2.length)).setCell ⟨w.heap.size + 1 + 1, 1, none⟩ (.bool fl2))) := ret_int hgw hb9 (by omega) h2 vv2 hb2
    clear h2 vv2 hb2
    go_wp2_with fail
    exact bodyPost_ret (v := .agg #[.slice s2 x2.length x2.length, .bool fl2]) (by simp [results, Tryz.results80, go_sem, q90, q91]) rfl hF.out
  · skip
    have HSG : Hid (∀ W v, NatV W v (x.natAbs * y.natAbs) → Calls Tryz.prog 119 #[v, .bool true] W (RetInt W (x * y))) := fun W v hn => by
      have q := signed_any W v _ (K + K) true hn (by omega) (bmul Hla.out Hlb.out)
      rw [show (if true = true then -((x.natAbs * y.natAbs : Nat) : Int) else ((x.natAbs * y.natAbs : Nat) : Int)) = x * y from HE.out] at q
      exact q
    go_enter Tryz.func80, Tryz.ntmps80
    go_wp2_with fail
    generalize (((w.alloc (.cells #[.slice sa xs.length xs.length, .bool true] 29)).alloc (.cells #[.slice sb ys.length ys.length, .bool false] 29)).alloc (.cells #[.slice none 0 0, .bool false] 29)) = w0 at *
    obtain ⟨ca0, ca1, fa0, fa1⟩ := box_cells hba
    obtain ⟨cb0, cb1, fb0, fb1⟩ := box_cells hbb
    go_region_held3 (fun w' => w'.cell? ⟨w.heap.size, 0, none⟩ = some (.slice sa xs.length xs.length) ∧ w'.cell? ⟨w.heap.size, 1, none⟩ = some (.bool true) ∧ w'.cell? ⟨w.heap.size + 1, 0, none⟩ = some (.slice sb ys.length ys.length) ∧ w'.cell? ⟨w.heap.size + 1, 1, none⟩ = some (.bool false))
      (first | assumption | exact ⟨ca0, ca1, cb0, cb1⟩ | exact HS3 | go_keep)
      (first
        | (go_at_call 120; (with_reducible refine (Mul_any w0.drew _ _ x.natAbs y.natAbs K (na.kept (grown_drew (grown_refl _ _))) (nn.kept (grown_drew (grown_refl _ _))) (by omega) Hla.out Hlb.out).mono ?_); rintro e w1 ⟨v1, rfl, n1, g1⟩; have hG1 := grown_pre w0 g1 rfl rfl rfl rfl; have hS1 := And.intro (hG1.cell ca0 (by simp)) (And.intro (hG1.cell ca1 (by simp)) (And.intro (hG1.cell cb0 (by simp)) (hG1.cell cb1 (by simp)))))
        | (go_at_call 119; (with_reducible refine (HSG.out w1 _ n1).mono ?_); rintro e w2 ⟨v2, rfl, ⟨s2, x2, fl2, rfl, h2, vv2, hb2⟩, g2⟩; have hG2 := grown_trans hG1 g2; have hS2 := And.intro (hG2.cell ca0 (by simp)) (And.intro (hG2.cell ca1 (by simp)) (And.intro (hG2.cell cb0 (by simp)) (hG2.cell cb1 (by simp)))); have hr2 := heap_kept hG2 hr; (obtain ⟨d0, d1, k0, k1⟩ := box_cells hr2); have qa := box_cells (heap_unset2 (heap_kept hG2 hba) (show w.heap.size ≠ w.heap.size + 1 + 1 by omega) (.slice s2 x2.length x2.length) (.bool fl2)); have qb := box_cells (heap_unset2 (heap_kept hG2 hbb) (show w.heap.size + 1 ≠ w.heap.size + 1 + 1 by omega) (.slice s2 x2.length x2.length) (.bool fl2)); have HS3 := And.intro qa.1 (And.intro qa.2.1 (And.intro qb.1 qb.2.1))))
    have hgw := grown_trans hgw0 hG2
    clear n1 g1 g2 na nn
    have hb9 := hr2
    obtain ⟨c90, c91, f90, f91⟩ := box_cells hb9
    obtain ⟨q90, q91, r90, r91⟩ := box_cells (heap_set2 hb9 (.slice s2 x2.length x2.length) (.bool fl2))
    have hF : Hid (RetInt w (x * y) (.returned (.agg #[.slice s2 x2.length x2.length, .bool fl2])) ((w2.setCell ⟨w.heap.size + 1 + 1, 0, none⟩ (.slice s2 x2.length x2.length)).setCell ⟨w.heap.size + 1 + 1, 1, none⟩ (.bool fl2))) := ret_int hgw hb9 (by omega) h2 vv2 hb2
    clear h2 vv2 hb2
    go_wp2_with fail
    exact bodyPost_ret (v := .agg #[.slice s2 x2.length x2.length, .bool fl2]) (by simp [results, Tryz.results80, go_sem, q90, q91]) rfl hF.out
  · skip
    have HSG : Hid (∀ W v, NatV W v (x.natAbs * y.natAbs) → Calls Tryz.prog 119 #[v, .bool false] W (RetInt W (x * y))) := fun W v hn => by
      have q := signed_any W v _ (K + K) false hn (by omega) (bmul Hla.out Hlb.out)
      rw [show (if false = true then -((x.natAbs * y.natAbs : Nat) : Int) else ((x.natAbs * y.natAbs : Nat) : Int)) = x * y from HE.out] at q
      exact q
    go_enter Tryz.func80, Tryz.ntmps80
    go_wp2_with fail
    generalize (((w.alloc (.cells #[.slice sa xs.length xs.length, .bool true] 29)).alloc (.cells #[.slice sb ys.length ys.length, .bool true] 29)).alloc (.cells #[.slice none 0 0, .bool false] 29)) = w0 at *
    obtain ⟨ca0, ca1, fa0, fa1⟩ := box_cells hba
    obtain ⟨cb0, cb1, fb0, fb1⟩ := box_cells hbb
    go_region_held3 (fun w' => w'.cell? ⟨w.heap.size, 0, none⟩ = some (.slice sa xs.length xs.length) ∧ w'.cell? ⟨w.heap.size, 1, none⟩ = some (.bool true) ∧ w'.cell? ⟨w.heap.size + 1, 0, none⟩ = some (.slice sb ys.length ys.length) ∧ w'.cell? ⟨w.heap.size + 1, 1, none⟩ = some (.bool true))
      (first | assumption | exact ⟨ca0, ca1, cb0, cb1⟩ | exact HS3 | go_keep)
      (first
        | (go_at_call 120; (with_reducible refine (Mul_any w0.drew _ _ x.natAbs y.natAbs K (na.kept (grown_drew (grown_refl _ _))) (nn.kept (grown_drew (grown_refl _ _))) (by omega) Hla.out Hlb.out).mono ?_); rintro e w1 ⟨v1, rfl, n1, g1⟩; have hG1 := grown_pre w0 g1 rfl rfl rfl rfl; have hS1 := And.intro (hG1.cell ca0 (by simp)) (And.intro (hG1.cell ca1 (by simp)) (And.intro (hG1.cell cb0 (by simp)) (hG1.cell cb1 (by simp)))))
        | (go_at_call 119; (with_reducible refine (HSG.out w1 _ n1).mono ?_); rintro e w2 ⟨v2, rfl, ⟨s2, x2, fl2, rfl, h2, vv2, hb2⟩, g2⟩; have hG2 := grown_trans hG1 g2; have hS2 := And.intro (hG2.cell ca0 (by simp)) (And.intro (hG2.cell ca1 (by simp)) (And.intro (hG2.cell cb0 (by simp)) (hG2.cell cb1 (by simp)))); have hr2 := heap_kept hG2 hr; (obtain ⟨d0, d1, k0, k1⟩ := box_cells hr2); have qa := box_cells (heap_unset2 (heap_kept hG2 hba) (show w.heap.size ≠ w.heap.size + 1 + 1 by omega) (.slice s2 x2.length x2.length) (.bool fl2)); have qb := box_cells (heap_unset2 (heap_kept hG2 hbb) (show w.heap.size + 1 ≠ w.heap.size + 1 + 1 by omega) (.slice s2 x2.length x2.length) (.bool fl2)); have HS3 := And.intro qa.1 (And.intro qa.2.1 (And.intro qb.1 qb.2.1))))
    have hgw := grown_trans hgw0 hG2
    clear n1 g1 g2 na nn
    have hb9 := hr2
    obtain ⟨c90, c91, f90, f91⟩ := box_cells hb9
    obtain ⟨q90, q91, r90, r91⟩ := box_cells (heap_set2 hb9 (.slice s2 x2.length x2.length) (.bool fl2))
    have hF : Hid (RetInt w (x * y) (.returned (.agg #[.slice s2 x2.length x2.length, .bool fl2])) ((w2.setCell ⟨w.heap.size + 1 + 1, 0, none⟩ (.slice s2 x2.length x2.length)).setCell ⟨w.heap.size + 1 + 1, 1, none⟩ (.bool fl2))) := ret_int hgw hb9 (by omega) h2 vv2 hb2
    clear h2 vv2 hb2
    go_wp2_with fail
    exact bodyPost_ret (v := .agg #[.slice s2 x2.length x2.length, .bool fl2]) (by simp [results, Tryz.results80, go_sem, q90, q91]) rfl hF.out
end Go.Proofs.YtoaepibannfbdaaGreatDoor
namespace Go.Proofs.YtoaepibannfbdaaGreatDoor
open Go.RowKit Mat
set_option maxRecDepth 100000
set_option linter.unusedVariables false
set_option linter.unusedSimpArgs false
def D : Nat := 10000
theorem D_pos : 0 < D := by unfold D; omega
def iv (x : Nat) : Value := .int .i64 (x : Int)
def RAt (cs : Array Value) (off : Nat) (xs : List Nat) : Prop := ∀ i (h : i < xs.length), cs[off + i]? = some (iv xs[i])
def RBlk (w : World) (b : Nat) (cs : Array Value) : Prop := w.heap[b]? = some (.cells cs 3 (0, 0))
theorem RBlk.cell {w : World} {b : Nat} {cs : Array Value} (h : RBlk w b cs) (o : Nat) : w.cell? ⟨b, o, none⟩ = cs[o]? := by
  unfold RBlk at h; simp [World.cell?, h]
theorem RBlk.frozen {w : World} {b : Nat} {cs : Array Value} (h : RBlk w b cs) (o : Nat) : w.frozen? ⟨b, o, none⟩ = false := by
  unfold RBlk at h; simp [World.frozen?, h]
theorem RBlk.lt {w : World} {b : Nat} {cs : Array Value} (h : RBlk w b cs) : b < w.heap.size := (Array.getElem?_eq_some_iff.1 h).1
theorem RBlk.kept {w w' : World} {b : Nat} {cs : Array Value} {row : Option Nat} (h : RBlk w b cs) (hg : w.grownBy w' row) (hr : some b ≠ row) : RBlk w' b cs := (hg.block b h.lt hr).trans h
theorem RAt.take {cs : Array Value} {off : Nat} {xs : List Nat} (h : RAt cs off xs) (k : Nat) : RAt cs off (xs.take k) := by
  intro i hi
  rw [List.length_take] at hi
  rw [h i (by omega), List.getElem_take]
def RRdo (w : World) (s : Option Addr) (xs : List Nat) : Prop := xs = [] ∨ ∃ (b off : Nat) (cs : Array Value), s = some ⟨b, off, none⟩ ∧ RBlk w b cs ∧ RAt cs off xs
theorem RRdo.kept {w w' : World} {s : Option Addr} {xs : List Nat} (h : RRdo w s xs) (hg : w.grownBy w' none) : RRdo w' s xs := by
  rcases h with h | ⟨b, off, cs, e, h1, h2⟩
  · exact Or.inl h
  · exact Or.inr ⟨b, off, cs, e, h1.kept hg (by simp), h2⟩
theorem RRdo.take {w : World} {s : Option Addr} {xs : List Nat} (h : RRdo w s xs) (k : Nat) : RRdo w s (xs.take k) := by
  rcases h with h | ⟨b, off, cs, e, h1, h2⟩
  · exact Or.inl (by rw [h]; simp)
  · exact Or.inr ⟨b, off, cs, e, h1, h2.take k⟩
theorem RRdo.get {w : World} {s : Option Addr} {xs : List Nat} (h : RRdo w s xs) (k : Nat) (hk : k < xs.length) : ∃ (b off : Nat) (cs : Array Value), s = some ⟨b, off, none⟩ ∧ RBlk w b cs ∧ RAt cs off xs := by
  rcases h with h | h
  · rw [h] at hk; simp at hk
  · exact h
def RefV (w : World) (v : Value) (n : Nat) : Prop := ∃ (s : Option Addr) (k cap : Nat) (xs : List Nat), v = .agg #[.slice s k cap] ∧ xs.length = k ∧ k ≤ cap ∧ RRdo w s xs ∧ Top xs ∧ Dig D xs ∧ val D xs = n
theorem RefV.kept {w w' : World} {v : Value} {n : Nat} (h : RefV w v n) (hg : w.grownBy w' none) : RefV w' v n := by
  obtain ⟨s, k, cap, xs, e, h1, h2, h3, h4⟩ := h
  exact ⟨s, k, cap, xs, e, h1, h2, h3.kept hg, h4⟩
def RetRef (w : World) (n : Nat) (e : Ending) (w' : World) : Prop := ∃ v, e = .returned v ∧ RefV w' v n ∧ w.grownBy w' none
theorem RRdo.set_other {w : World} {s : Option Addr} {xs : List Nat} {g : Nat} {c : Array Value} {t : TypeId} (h : RRdo w s xs) (hbox : w.heap[g]? = some (.cells c t (0, 0))) (ht : t ≠ 3) (o : Nat) (u : Value) : RRdo (w.setCell ⟨g, o, none⟩ u) s xs := by
  rcases h with h | ⟨b, off, cs, e, h1, h2⟩
  · exact Or.inl h
  · refine Or.inr ⟨b, off, cs, e, (Below.heap_setCell _ _ _ _ ?_).trans h1, h2⟩
    intro e2
    simp only at e2
    unfold RBlk at h1
    subst e2
    rw [hbox] at h1
    simp at h1
    exact ht h1.2
end Go.Proofs.YtoaepibannfbdaaGreatDoor
namespace Go.Proofs.YtoaepibannfbdaaGreatDoor
open Go.RowKit Mat
set_option maxRecDepth 100000
set_option linter.unusedVariables false
set_option linter.unusedSimpArgs false
theorem Tryz.infoI64 : (Tryz.prog.info? 3).map (fun i => (i.zero, i.size, i.bytes)) = some (some (.int .i64 0), 1, 8) := by kernel_rfl
theorem info_partsI : ∃ i, Tryz.prog.info? 3 = some i ∧ i.zero = some (.int .i64 0) ∧ i.size = 1 ∧ i.bytes = 8 := by
  obtain ⟨i, hi, he⟩ := Option.map_eq_some_iff.1 Tryz.infoI64
  exact ⟨i, hi, congrArg Prod.fst he, congrArg (fun x => x.2.1) he, congrArg (fun x => x.2.2) he⟩
theorem one_iv {d : Nat} : ∀ u ∈ ([iv d] : List Value), u.oneCell' = true := by intro u hu; simp at hu; subst hu; rfl
theorem own_rdoI {w : World} {base : Nat} {s : Option Addr} {n cap : Nat} {xs : List Nat} (h : w.ownsRow base 3 1 (.slice s n cap) n (xs.map iv)) : RRdo w s xs ∧ n ≤ cap ∧ xs.length = n := by
  obtain ⟨h1, ⟨e, h2⟩ | ⟨g, cap', cur, e, hg, hb, hc, hm, hs, ht⟩⟩ := h
  · cases e
    rw [List.length_map] at h1
    exact ⟨Or.inl (List.length_eq_zero_iff.1 (by omega)), by omega, by omega⟩
  · cases e
    rw [List.length_map, Nat.mul_one] at h1
    refine ⟨Or.inr ⟨g, 0, cur, rfl, hb, fun i hi => ?_⟩, hc, h1⟩
    have h3 : (cur.toList.take (n * 1))[i]? = (xs.map iv)[i]? := by rw [ht]
    rw [Nat.mul_one, List.getElem?_take, if_pos (by omega), Array.getElem?_toList, List.getElem?_map, List.getElem?_eq_getElem hi] at h3
    rw [Nat.zero_add]; exact h3
theorem own_allocI {w : World} {base : Nat} {v : Value} {n : Nat} {xs : List Value} {t : TypeId} (h : w.ownsRow base t 1 v n xs) (o : Obj) : (w.alloc o).ownsRow base t 1 v n xs := by
  obtain ⟨h1, h2 | ⟨g, cap', cur, e, hg, hb, hr⟩⟩ := h
  · exact ⟨h1, Or.inl h2⟩
  · exact ⟨h1, Or.inr ⟨g, cap', cur, e, hg, (Below.heap_alloc w o g (Array.getElem?_eq_some_iff.1 hb).1).trans hb, hr⟩⟩
theorem below_own {w w' : World} {base n : Nat} {v : Value} {xs : List Value} {t : TypeId} (h : w.ownsRow base t 1 v n xs) (hg : w.grownBy w' v.ownBlock) (hs : base ≤ w.heap.size) : Below base w w' := by
  obtain ⟨h1, ⟨e, _⟩ | ⟨g, cap', cur, e, hg', hb, hr⟩⟩ := h
  · subst e; exact below_none hg hs
  · subst e; exact below_row (g := g) hg hg' hs
theorem of_bound {v x n k : Nat} (h : v + x * D ^ k = n) (hx : 0 < x) (hn : n < B) : k < 64 := by
  have h1 : D ^ k ≤ x * D ^ k := Nat.le_mul_of_pos_left _ hx
  have h2 : 2 ^ k ≤ D ^ k := Nat.pow_le_pow_left (by unfold D; omega) k
  rcases Nat.lt_or_ge k 64 with h3 | h3
  · exact h3
  · have : 2 ^ 64 ≤ 2 ^ k := Nat.pow_le_pow_right (by omega) h3
    have : B = 2 ^ 64 := by decide
    omega
theorem of_step {v x p d q : Nat} (hd : x % 10000 = d) (hq : x / 10000 = q) : v + p * d + q * (p * D) = v + x * p := by
  have := Nat.div_add_mod x 10000
  rw [hd, hq] at this
  rw [← this]
  unfold D
  grind
theorem top_snoc {ds : List Nat} {d : Nat} (h : d ≠ 0) : Top (ds ++ [d]) := by
  intro x hx
  rw [List.getLast?_append] at hx
  simp at hx
  omega
set_option maxHeartbeats 4000000 in
theorem rOf_any (w : World) (n : Nat) (hn : n < B) :
    Calls Tryz.prog 90 #[.int .u64 (n : Int)] w (RetRef w n) := by
  obtain ⟨i1, hi, hz0, hz1, hz2⟩ := info_partsI
  have HN := Lib.hid hn
  have hgw0 := World.grownBy_alloc w (.cells #[.slice none 0 0] 39) none
  have hbox0 := heap_new w (.cells #[.slice none 0 0] 39) w.heap.size rfl
  have hs0 : w.heap.size + 1 ≤ (w.alloc (.cells #[.slice none 0 0] 39)).heap.size := by simp
  go_enter Tryz.func90, Tryz.ntmps90
  go_wp2_with fail
  generalize (w.alloc (.cells #[.slice none 0 0] 39)) = w0 at *
  go_loopg [0, 3] n (fun gh a b wr => ∃ (x : Nat) (sl : Option Addr) (nl cl : Nat) (ds : List Nat), a = .int .u64 x ∧ b = .slice sl nl cl ∧ x ≤ gh ∧ Hid (x < B) ∧ wr.ownsRow (w.heap.size + 1) 3 1 (.slice sl nl cl) nl (ds.map iv) ∧ Hid (ds.length = nl) ∧ Dig D ds ∧ Hid (x = 0 → Top ds) ∧ Hid (val D ds + x * D ^ nl = n) ∧ Below (w.heap.size + 1) w0 wr)
  case atStart => exact ⟨n, none, 0, 0, [], rfl, rfl, Nat.le_refl _, HN, ⟨rfl, Or.inl ⟨rfl, rfl⟩⟩, rfl, Dig.nil _, fun _ x hx => by simp at hx, by show _ = _; simp [val], Below.refl _ _⟩
  case round =>
    obtain ⟨x, sl, nl, cl, ds, rfl, rfl, hgh, hxB, hown, hdl, hdd, htp, hv, hbl⟩ := hrel
    by_cases h0 : x = 0
    · subst h0
      obtain ⟨hrd, hcap, _⟩ := own_rdoI hown
      have hbox := heap_below hbl hbox0 (by omega)
      obtain ⟨cb, fb⟩ := box_cell hbox
      have hF : Hid (RetRef w n (.returned (.agg #[.slice sl nl cl])) (wr.setCell ⟨w.heap.size, 0, none⟩ (.slice sl nl cl))) :=
        ⟨_, rfl, ⟨sl, nl, cl, ds, rfl, hdl.out, hcap, hrd.set_other hbox (by decide) 0 _, htp.out rfl, hdd, by have := hv.out; omega⟩, grown_new (grown_then_below hgw0 hbl (by omega)) (grown_set (grown_refl _ _) _ _) (Nat.le_refl _)⟩
      clear hown hbl hbox hv htp
      go_wp2_with fail
      exact bodyPost_ret (v := .agg #[.slice sl nl cl]) (by simp [results, Tryz.results90, go_sem, cb]) rfl hF.out
    · have f1 : decide ((0 : Int) < (x : Int)) = true := decide_eq_true (by omega)
      have hk := of_bound hv.out (by omega) HN.out
      obtain ⟨d, hd⟩ : ∃ d, x % 10000 = d := ⟨_, rfl⟩
      obtain ⟨q, hq⟩ : ∃ q, x / 10000 = q := ⟨_, rfl⟩
      have hd1 : d < 10000 := by omega
      have hqx : q < x := by omega
      have e1 : (x : Int) % 10000 = (d : Int) := by omega
      have e2 : (x : Int) / 10000 = (q : Int) := by omega
      have hqB : Hid (q < B) := Nat.lt_trans hqx hxB.out
      have htp2 : Hid (q = 0 → Top (ds ++ [d])) := fun e => top_snoc (by omega)
      have hvn : Hid (val D (ds ++ [d]) + q * D ^ (nl + 1) = n) := by
        show _ = _
        rw [val_snoc, hdl.out, Nat.pow_succ, of_step hd hq]; exact hv.out
      have hownA := own_allocI hown (.cells #[iv d] 3)
      have hnews : ∀ j u, ([iv d] : List Value)[j]? = some u → (wr.alloc (.cells #[iv d] 3)).cell? ((⟨wr.heap.size, 0, none⟩ : Addr).add j) = some u := World.news_of_block (heap_alloc_new wr _)
      have hsr : w.heap.size + 1 ≤ wr.heap.size := by have := hbl.size; omega
      have hsi : w.heap.size + 1 ≤ (wr.alloc (.cells #[iv d] 3)).heap.size := by simp; omega
      have hblA : Below (w.heap.size + 1) w0 (wr.alloc (.cells #[iv d] 3)) := hbl.trans (below_none (World.grownBy_alloc _ _ _) hsr)
      clear hd hq hown hbl htp hv
      go_wp2_with (at_builtin; refine wpList_append_lies _ rfl _ _ _ rfl (w.heap.size + 1) 3 i1 (.int .i64 0) 1 8 Tryz.underlying37 hi hz0 hz1 hz2 rfl (by omega) (.slice sl nl cl) nl (ds.map iv) rfl hownA ⟨wr.heap.size, 0, none⟩ 1 1 [iv d] rfl rfl hnews one_iv (by omega) (by unfold maxLen; omega) (by omega) hsi (wr.heap.size + 1) (by simp) ?_; intro g2 cap2 w5 hown5 hgrow hat9 hlt9)
      have hbl5 := hblA.trans (below_own hownA hgrow hsi)
      have hmap : ds.map iv ++ [iv d] = (ds ++ [d]).map iv := by rw [List.map_append]; rfl
      rw [hmap] at hown5
      have hl5 : Hid ((ds ++ [d]).length = nl + 1) := by show _ = _; rw [List.length_append, hdl.out]; rfl
      clear hgrow hownA hnews hblA hmap
      go_roundg q
      case measure => omega
      case rel => exact ⟨q, _, nl + 1, cap2, ds ++ [d], (by first | rfl | rw [Mul64.wrapN q hqB.out]), rfl, Nat.le_refl _, hqB, hown5, hl5, hdd.snoc hd1, htp2, hvn, hbl5⟩
end Go.Proofs.YtoaepibannfbdaaGreatDoor
namespace Go.Proofs.YtoaepibannfbdaaGreatDoor
open Go.RowKit Mat
set_option maxRecDepth 100000
set_option linter.unusedVariables false
set_option linter.unusedSimpArgs false
theorem rlen {xs : List Nat} {n K : Nat} (ht : Top xs) (hn : xs.length = n) (h : val D xs < D ^ K) : n ≤ K := by
  rcases Nat.lt_or_ge K n with h1 | h1
  · have h2 := val_ge D xs (by rintro rfl; simp at hn; omega) ht
    have h3 : D ^ K ≤ D ^ (xs.length - 1) := Nat.pow_le_pow_right D_pos (by omega)
    omega
  · exact h1
end Go.Proofs.YtoaepibannfbdaaGreatDoor
namespace Go.Proofs.YtoaepibannfbdaaGreatDoor
open Go.RowKit Mat
set_option maxRecDepth 100000
set_option linter.unusedVariables false
set_option linter.unusedSimpArgs false
theorem radd_step {v c x y p d q s : Nat} (h : v + c * p = s) (hd : (c + x + y) % 10000 = d) (hq : (c + x + y) / 10000 = q) : v + p * d + q * (p * D) = s + p * x + p * y := by
  have := Nat.div_add_mod (c + x + y) 10000
  rw [hd, hq] at this
  rw [← h]
  have h2 : p * d + q * (p * D) = p * (c + x + y) := by rw [← this]; unfold D; grind
  have h3 : p * (c + x + y) = c * p + p * x + p * y := by grind
  omega
theorem take_getD (xs : List Nat) (k : Nat) : val D (xs.take (k + 1)) = val D (xs.take k) + D ^ k * xs.getD k 0 := by
  rcases Nat.lt_or_ge k xs.length with h | h
  · rw [val_take_succ D xs k h, List.getD_eq_getElem?_getD, List.getElem?_eq_getElem h]; rfl
  · rw [List.take_of_length_le (by omega), List.take_of_length_le (by omega), List.getD_eq_getElem?_getD, List.getElem?_eq_none (by omega)]; simp
theorem getD_top {xs : List Nat} {k : Nat} (ht : Top xs) (h : xs.length = k + 1) : xs.getD k 0 ≠ 0 := by
  rw [List.getD_eq_getElem?_getD, List.getElem?_eq_getElem (by omega)]
  refine ht _ ?_
  have e : xs.length - 1 = k := by omega
  rw [List.getLast?_eq_getElem?, e, List.getElem?_eq_getElem (by omega)]; rfl
theorem getD_lt {xs : List Nat} (hd : Dig D xs) (k : Nat) : xs.getD k 0 < 10000 := hd.getD D_pos k
theorem getD_out {xs : List Nat} {k n : Nat} (hn : xs.length = n) (h : n ≤ k) : xs.getD k 0 = 0 := by
  rw [List.getD_eq_getElem?_getD, List.getElem?_eq_none (by omega)]; rfl
theorem rcell {w : World} {s : Option Addr} {xs : List Nat} {n : Nat} (h : RRdo w s xs) (hn : xs.length = n) (k : Nat) (hk : k < n) : ∃ b o, s = some ⟨b, o, none⟩ ∧ w.cell? ⟨b, o + k, none⟩ = some (.int .i64 (xs.getD k 0 : Int)) := by
  obtain ⟨b, o, cs, e, h1, h2⟩ := h.get k (by omega)
  refine ⟨b, o, e, ?_⟩
  rw [h1.cell, h2 k (by omega), List.getD_eq_getElem?_getD, List.getElem?_eq_getElem (by omega)]; rfl
theorem RRdo.below {w w' : World} {N : Nat} {s : Option Addr} {xs : List Nat} (h : RRdo w s xs) (hb : Below N w w') (hN : w.heap.size ≤ N) : RRdo w' s xs := by
  rcases h with h | ⟨b, off, cs, e, h1, h2⟩
  · exact Or.inl h
  · exact Or.inr ⟨b, off, cs, e, (hb.block b (Nat.lt_of_lt_of_le h1.lt hN)).trans h1, h2⟩
set_option maxHeartbeats 8000000 in
theorem rAdd_any (w : World) (va vb : Value) (a b : Nat) (ha : RefV w va a) (hb : RefV w vb b) (ba : a < D ^ 1000000) (bb : b < D ^ 1000000) :
    Calls Tryz.prog 89 #[va, vb] w (RetRef w (a + b)) := by
  obtain ⟨sa, n, cx, xs, rfl, hn, hnc, hx, tx, dx, rfl⟩ := ha
  obtain ⟨sb, m, cy, ys, rfl, hm, hmc, hy, ty, dy, rfl⟩ := hb
  have Hn := Lib.hid hn
  have Hm := Lib.hid hm
  have hn6 : n ≤ 1000000 := rlen tx hn ba
  have hm6 : m ≤ 1000000 := rlen ty hm bb
  obtain ⟨i1, hi, hz0, hz1, hz2⟩ := info_partsI
  have hgw0 : w.grownBy (((w.alloc (.cells #[.slice sa n cx] 39)).alloc (.cells #[.slice sb m cy] 39)).alloc (.cells #[.slice none 0 0] 39)) none := grown_alloc (grown_alloc (World.grownBy_alloc _ _ _) _) _
  have hboxr := heap_new ((w.alloc (.cells #[.slice sa n cx] 39)).alloc (.cells #[.slice sb m cy] 39)) (.cells #[.slice none 0 0] 39) (w.heap.size + 1 + 1) (by simp)
  have hboxb := (Below.heap_alloc _ (.cells #[.slice none 0 0] 39) (w.heap.size + 1) (by simp)).trans (heap_new (w.alloc (.cells #[.slice sa n cx] 39)) (.cells #[.slice sb m cy] 39) (w.heap.size + 1) (by simp))
  have hboxa := ((Below.heap_alloc _ (.cells #[.slice none 0 0] 39) w.heap.size (by simp; omega)).trans (Below.heap_alloc _ (.cells #[.slice sb m cy] 39) w.heap.size (by simp))).trans (heap_new w (.cells #[.slice sa n cx] 39) w.heap.size rfl)
  have hs0 : (((w.alloc (.cells #[.slice sa n cx] 39)).alloc (.cells #[.slice sb m cy] 39)).alloc (.cells #[.slice none 0 0] 39)).heap.size = w.heap.size + 1 + 1 + 1 := by simp
  obtain ⟨N, hN⟩ : ∃ N, N = w.heap.size + 1 + 1 + 1 := ⟨_, rfl⟩
  have hx0 := hx.kept hgw0
  have hy0 := hy.kept hgw0
  clear hn hm ba bb hx hy
  go_enter Tryz.func89, Tryz.ntmps89
  go_wp2_with fail
  generalize (((w.alloc (.cells #[.slice sa n cx] 39)).alloc (.cells #[.slice sb m cy] 39)).alloc (.cells #[.slice none 0 0] 39)) = w0 at *
  go_loopg [5, 6, 7] (max n m + 1) (fun gh s c i wr => ∃ (k cc : Nat) (sl : Option Addr) (cl : Nat) (ds : List Nat), s = .slice sl k cl ∧ c = .int .i64 cc ∧ i = .int .i64 k ∧ cc ≤ 1 ∧ k ≤ max n m + 1 ∧ (k = max n m + 1 → cc = 0) ∧ max n m + 1 - k ≤ gh ∧ wr.ownsRow N 3 1 (.slice sl k cl) k (ds.map iv) ∧ Hid (ds.length = k) ∧ Dig D ds ∧ Hid (n ≤ k → m ≤ k → cc = 0 → Top ds) ∧ Hid (val D ds + cc * D ^ k = val D (xs.take k) + val D (ys.take k)) ∧ Below N w0 wr)
  case atStart => exact ⟨0, 0, none, 0, [], rfl, rfl, rfl, by omega, by omega, by omega, by omega, ⟨rfl, Or.inl ⟨rfl, rfl⟩⟩, rfl, Dig.nil _, fun _ _ _ x hx => by simp at hx, by show _ = _; simp [val], Below.refl _ _⟩
  case round =>
    obtain ⟨k, cc, sl, cl, ds, rfl, rfl, rfl, hc1, hkm, hkc, hgh, hown, hdl, hdd, htp, hv, hbl⟩ := hrel
    obtain ⟨ca, fa⟩ := box_cell (heap_below hbl hboxa (by omega))
    obtain ⟨cb, fb⟩ := box_cell (heap_below hbl hboxb (by omega))
    have hboxr1 := heap_below hbl hboxr (by omega)
    obtain ⟨cr, fr⟩ := box_cell hboxr1
    have hsr : N ≤ wr.heap.size := by have := hbl.size; omega
    have hxr : RRdo wr sa xs := hx0.below hbl (by omega)
    have hyr : RRdo wr sb ys := hy0.below hbl (by omega)
    by_cases hend : n ≤ k ∧ m ≤ k ∧ cc = 0
    · obtain ⟨hnk, hmk, rfl⟩ := hend
      have f1 : decide ((k : Int) < (n : Int)) = false := decide_eq_false (by omega)
      have f2 : decide ((k : Int) < (m : Int)) = false := decide_eq_false (by omega)
      obtain ⟨hrd, hcap, _⟩ := own_rdoI hown
      have hF : Hid (RetRef w (val D xs + val D ys) (.returned (.agg #[.slice sl k cl])) (wr.setCell ⟨w.heap.size + 1 + 1, 0, none⟩ (.slice sl k cl))) := by
        refine ⟨_, rfl, ⟨sl, k, cl, ds, rfl, hdl.out, hcap, hrd.set_other hboxr1 (by decide) 0 _, htp.out hnk hmk rfl, hdd, ?_⟩, grown_new (grown_then_below hgw0 hbl (by omega)) (grown_set (grown_refl _ _) _ _) (by omega)⟩
        have := hv.out
        rw [List.take_of_length_le (by rw [Hn.out]; exact hnk), List.take_of_length_le (by rw [Hm.out]; exact hmk)] at this
        omega
      clear hown hbl hboxr1 hv htp hxr hyr
      go_wp2_with fail
      exact bodyPost_ret (v := .agg #[.slice sl k cl]) (by simp [results, Tryz.results89, go_sem, cr]) rfl hF.out
    · obtain ⟨x, hxk⟩ : ∃ x, xs.getD k 0 = x := ⟨_, rfl⟩
      obtain ⟨y, hyk⟩ : ∃ y, ys.getD k 0 = y := ⟨_, rfl⟩
      have hx4 : x < 10000 := hxk ▸ getD_lt dx k
      have hy4 : y < 10000 := hyk ▸ getD_lt dy k
      obtain ⟨d, hd⟩ : ∃ d, (cc + x + y) % 10000 = d := ⟨_, rfl⟩
      obtain ⟨q, hq⟩ : ∃ q, (cc + x + y) / 10000 = q := ⟨_, rfl⟩
      have hvn : Hid (val D (ds ++ [d]) + q * D ^ (k + 1) = val D (xs.take (k + 1)) + val D (ys.take (k + 1))) := by
        show _ = _
        rw [val_snoc, hdl.out, Nat.pow_succ, radd_step hv.out hd hq, take_getD, take_getD, hxk, hyk]; omega
      have hxo : n ≤ k → x = 0 := fun h => by rw [← hxk]; exact getD_out Hn.out h
      have hyo : m ≤ k → y = 0 := fun h => by rw [← hyk]; exact getD_out Hm.out h
      have hxt : n = k + 1 → x ≠ 0 := fun h => by rw [← hxk]; exact getD_top tx (by rw [Hn.out]; exact h)
      have hyt : m = k + 1 → y ≠ 0 := fun h => by rw [← hyk]; exact getD_top ty (by rw [Hm.out]; exact h)
      have htp2 : Hid (n ≤ k + 1 → m ≤ k + 1 → q = 0 → Top (ds ++ [d])) := fun h1 h2 h3 => top_snoc (by omega)
      have hk2 : k < max n m + 1 := by omega
      have hk3 : k + 1 = max n m + 1 → q = 0 := by omega
      have hd4 : d < 10000 := by omega
      have hq1 : q ≤ 1 := by omega
      have hownA := own_allocI hown (.cells #[iv d] 3)
      have hnews : ∀ j u, ([iv d] : List Value)[j]? = some u → (wr.alloc (.cells #[iv d] 3)).cell? ((⟨wr.heap.size, 0, none⟩ : Addr).add j) = some u := World.news_of_block (heap_alloc_new wr _)
      have hsi : N ≤ (wr.alloc (.cells #[iv d] 3)).heap.size := by simp; omega
      have hblA : Below N w0 (wr.alloc (.cells #[iv d] 3)) := hbl.trans (below_none (World.grownBy_alloc _ _ _) hsr)
      have HX := Lib.hid hxk
      have HY := Lib.hid hyk
      clear hxk hyk hxt hyt hown hbl hv htp hboxr1 hkc
      by_cases hkn : k < n <;> by_cases hkm2 : k < m
      ·
        obtain ⟨b1, o1, rfl, c1⟩ := rcell hxr Hn.out k (by omega); rw [HX.out] at c1; have f1 : decide ((k : Int) < (n : Int)) = true := decide_eq_true (by omega)
        obtain ⟨b2, o2, rfl, c2⟩ := rcell hyr Hm.out k (by omega); rw [HY.out] at c2; have f2 : decide ((k : Int) < (m : Int)) = true := decide_eq_true (by omega)
        have e1 : ((cc : Int) + (x : Int) + (y : Int)) % 10000 = (d : Int) := by omega
        have e2 : ((cc : Int) + (x : Int) + (y : Int)) / 10000 = (q : Int) := by omega
        clear hd hq hxo hyo
        go_wp2_with (at_builtin; refine wpList_append_lies _ rfl _ _ _ rfl N 3 i1 (.int .i64 0) 1 8 Tryz.underlying37 hi hz0 hz1 hz2 rfl (by omega) (.slice sl k cl) k (ds.map iv) rfl hownA ⟨wr.heap.size, 0, none⟩ 1 1 [iv d] rfl rfl hnews one_iv (by omega) (by unfold maxLen; omega) (by omega) hsi (wr.heap.size + 1) (by simp) ?_; intro g2 cap2 w5 hown5 hgrow hat9 hlt9)
        have hbl5 := hblA.trans (below_own hownA hgrow hsi)
        have hmap : ds.map iv ++ [iv d] = (ds ++ [d]).map iv := by rw [List.map_append]; rfl
        rw [hmap] at hown5
        have hl5 : Hid ((ds ++ [d]).length = k + 1) := by show _ = _; rw [List.length_append, hdl.out]; rfl
        clear hgrow hownA hnews hblA hmap
        go_roundg (max n m - k)
        case measure => omega
        case rel => exact ⟨k + 1, q, _, cap2, ds ++ [d], rfl, (by first | rfl | rw [e2]), by go_num, hq1, by omega, hk3, by omega, hown5, hl5, hdd.snoc hd4, htp2, hvn, hbl5⟩
      ·
        obtain ⟨b1, o1, rfl, c1⟩ := rcell hxr Hn.out k (by omega); rw [HX.out] at c1; have f1 : decide ((k : Int) < (n : Int)) = true := decide_eq_true (by omega)
        have f2 : decide ((k : Int) < (m : Int)) = false := decide_eq_false (by omega)
        have y00 := hyo (by omega)
        have e1 : ((cc : Int) + (x : Int)) % 10000 = (d : Int) := by omega
        have e2 : ((cc : Int) + (x : Int)) / 10000 = (q : Int) := by omega
        clear hd hq hxo hyo
        go_wp2_with (at_builtin; refine wpList_append_lies _ rfl _ _ _ rfl N 3 i1 (.int .i64 0) 1 8 Tryz.underlying37 hi hz0 hz1 hz2 rfl (by omega) (.slice sl k cl) k (ds.map iv) rfl hownA ⟨wr.heap.size, 0, none⟩ 1 1 [iv d] rfl rfl hnews one_iv (by omega) (by unfold maxLen; omega) (by omega) hsi (wr.heap.size + 1) (by simp) ?_; intro g2 cap2 w5 hown5 hgrow hat9 hlt9)
        have hbl5 := hblA.trans (below_own hownA hgrow hsi)
        have hmap : ds.map iv ++ [iv d] = (ds ++ [d]).map iv := by rw [List.map_append]; rfl
        rw [hmap] at hown5
        have hl5 : Hid ((ds ++ [d]).length = k + 1) := by show _ = _; rw [List.length_append, hdl.out]; rfl
        clear hgrow hownA hnews hblA hmap
        go_roundg (max n m - k)
        case measure => omega
        case rel => exact ⟨k + 1, q, _, cap2, ds ++ [d], rfl, (by first | rfl | rw [e2]), by go_num, hq1, by omega, hk3, by omega, hown5, hl5, hdd.snoc hd4, htp2, hvn, hbl5⟩
      ·
        have f1 : decide ((k : Int) < (n : Int)) = false := decide_eq_false (by omega)
        obtain ⟨b2, o2, rfl, c2⟩ := rcell hyr Hm.out k (by omega); rw [HY.out] at c2; have f2 : decide ((k : Int) < (m : Int)) = true := decide_eq_true (by omega)
        have x00 := hxo (by omega)
        have e1 : ((cc : Int) + (y : Int)) % 10000 = (d : Int) := by omega
        have e2 : ((cc : Int) + (y : Int)) / 10000 = (q : Int) := by omega
        clear hd hq hxo hyo
        go_wp2_with (at_builtin; refine wpList_append_lies _ rfl _ _ _ rfl N 3 i1 (.int .i64 0) 1 8 Tryz.underlying37 hi hz0 hz1 hz2 rfl (by omega) (.slice sl k cl) k (ds.map iv) rfl hownA ⟨wr.heap.size, 0, none⟩ 1 1 [iv d] rfl rfl hnews one_iv (by omega) (by unfold maxLen; omega) (by omega) hsi (wr.heap.size + 1) (by simp) ?_; intro g2 cap2 w5 hown5 hgrow hat9 hlt9)
        have hbl5 := hblA.trans (below_own hownA hgrow hsi)
        have hmap : ds.map iv ++ [iv d] = (ds ++ [d]).map iv := by rw [List.map_append]; rfl
        rw [hmap] at hown5
        have hl5 : Hid ((ds ++ [d]).length = k + 1) := by show _ = _; rw [List.length_append, hdl.out]; rfl
        clear hgrow hownA hnews hblA hmap
        go_roundg (max n m - k)
        case measure => omega
        case rel => exact ⟨k + 1, q, _, cap2, ds ++ [d], rfl, (by first | rfl | rw [e2]), by go_num, hq1, by omega, hk3, by omega, hown5, hl5, hdd.snoc hd4, htp2, hvn, hbl5⟩
      ·
        have f1 : decide ((k : Int) < (n : Int)) = false := decide_eq_false (by omega)
        have f2 : decide ((k : Int) < (m : Int)) = false := decide_eq_false (by omega)
        have y00 := hyo (by omega)
        have x00 := hxo (by omega)
        obtain rfl : cc = 1 := by omega
        subst x00
        subst y00
        obtain rfl : d = 1 := by omega
        obtain rfl : q = 0 := by omega
        have e0 : iv 1 = .int .i64 1 := rfl
        rw [e0] at hownA hnews hblA hsi
        clear hd hq hxo hyo
        go_wp2_with (at_builtin; refine wpList_append_lies _ rfl _ _ _ rfl N 3 i1 (.int .i64 0) 1 8 Tryz.underlying37 hi hz0 hz1 hz2 rfl (by omega) (.slice sl k cl) k (ds.map iv) rfl hownA ⟨wr.heap.size, 0, none⟩ 1 1 [Value.int .i64 1] rfl rfl hnews one_iv (by omega) (by unfold maxLen; omega) (by omega) hsi (wr.heap.size + 1) (by simp) ?_; intro g2 cap2 w5 hown5 hgrow hat9 hlt9)
        have hbl5 := hblA.trans (below_own hownA hgrow hsi)
        have hmap : ds.map iv ++ [Value.int .i64 1] = (ds ++ [1]).map iv := by rw [List.map_append]; rfl
        rw [hmap] at hown5
        have hl5 : Hid ((ds ++ [1]).length = k + 1) := by show _ = _; rw [List.length_append, hdl.out]; rfl
        clear hgrow hownA hnews hblA hmap
        go_roundg (max n m - k)
        case measure => omega
        case rel => exact ⟨k + 1, 0, _, cap2, ds ++ [1], rfl, (by first | rfl | rw [e2]), by go_num, hq1, by omega, fun _ => rfl, by omega, hown5, hl5, hdd.snoc hd4, fun a b _ => (show Top (ds ++ [1]) from top_snoc (by omega)), hvn, hbl5⟩
end Go.Proofs.YtoaepibannfbdaaGreatDoor
namespace Go.Proofs.YtoaepibannfbdaaGreatDoor
open Go.RowKit Mat
set_option maxRecDepth 100000
set_option linter.unusedVariables false
set_option linter.unusedSimpArgs false
theorem dig_back {l : List Nat} (h : ∀ k (hk : k < l.length), 48 ≤ l[k] ∧ l[k] ≤ 57) : (((l.map (· - 48)).reverse).map (48 + ·)).reverse = l := by
  rw [List.map_reverse, List.reverse_reverse, List.map_map]
  have : ∀ x ∈ l, ((48 + ·) ∘ (· - 48)) x = x := by
    intro x hx
    obtain ⟨k, hk, rfl⟩ := List.getElem_of_mem hx
    have := h k hk
    simp only [Function.comp]; omega
  rw [List.map_congr_left this]; simp
theorem dig_dig {l : List Nat} (h : ∀ k (hk : k < l.length), 48 ≤ l[k] ∧ l[k] ≤ 57) : Dig 10 ((l.map (· - 48)).reverse) := by
  intro x hx
  rw [List.mem_reverse, List.mem_map] at hx
  obtain ⟨y, hy, rfl⟩ := hx
  obtain ⟨k, hk, rfl⟩ := List.getElem_of_mem hy
  have := h k hk
  omega
theorem dig_val {l : List Nat} (h : ∀ k (hk : k < l.length), 48 ≤ l[k] ∧ l[k] ≤ 57) : dval l = val 10 ((l.map (· - 48)).reverse) := by
  rw [← dval_rev, dig_back h]
theorem dec_top {l : List Nat} (h : DecL l) (h0 : l ≠ [48]) : Top ((l.map (· - 48)).reverse) := by
  rcases h with ⟨h1, h2 | ⟨h2, h3⟩⟩
  · exact absurd h2 h0
  · intro x hx
    rw [List.getLast?_reverse, List.head?_map] at hx
    cases l with
    | nil => exact absurd rfl h2
    | cons d t =>
      simp at hx h3
      have := h1 0 (by simp)
      simp at this
      omega
theorem dec_pos {l : List Nat} (h : DecL l) (h0 : l ≠ [48]) : 0 < dval l := by
  rw [dig_val h.1]
  refine val_pos 10 (by omega) _ ?_ (dec_top h h0)
  intro e
  have e2 := congrArg List.length e
  simp at e2
  subst e2
  rcases h.2 with h2 | h2
  · simp at h2
  · exact h2.1 rfl
theorem dec_uniqL {l m : List Nat} (hl : DecL l) (hm : DecL m) (e : dval l = dval m) : l = m := by
  by_cases l0 : l = [48]
  · by_cases m0 : m = [48]
    · rw [l0, m0]
    · have := dec_pos hm m0
      rw [← e, l0] at this
      exact absurd this (by decide)
  · by_cases m0 : m = [48]
    · have := dec_pos hl l0
      rw [e, m0] at this
      exact absurd this (by decide)
    · rw [dig_val hl.1, dig_val hm.1] at e
      have := val_uniq 10 (by omega) _ _ (dig_dig hl.1) (dig_dig hm.1) (dec_top hl l0) (dec_top hm m0) e
      rw [← dig_back hl.1, ← dig_back hm.1, this]
theorem bts_inj {s t : ByteArray} (h : bts s = bts t) : s = t := by
  apply ByteArray.ext
  apply Array.ext'
  unfold bts at h
  exact (List.map_inj_right (fun a b e => UInt8.toNat_inj.1 e)).1 h
end Go.Proofs.YtoaepibannfbdaaGreatDoor
namespace Go.Proofs.YtoaepibannfbdaaGreatDoor
open Go.RowKit Mat
set_option maxRecDepth 100000
set_option linter.unusedVariables false
set_option linter.unusedSimpArgs false
theorem RefV.zero (w : World) : RefV w (.agg #[.slice none 0 0]) 0 := ⟨none, 0, 0, [], rfl, rfl, Nat.le_refl _, Or.inl rfl, fun x hx => by simp at hx, Dig.nil _, rfl⟩
theorem RefV.set_other {w : World} {v : Value} {n g : Nat} {c : Array Value} {t : TypeId} (h : RefV w v n) (hbox : w.heap[g]? = some (.cells c t (0, 0))) (ht : t ≠ 3) (o : Nat) (u : Value) : RefV (w.setCell ⟨g, o, none⟩ u) v n := by
  obtain ⟨s, k, cap, xs, e, h1, h2, h3, h4⟩ := h
  exact ⟨s, k, cap, xs, e, h1, h2, h3.set_other hbox ht o u, h4⟩
end Go.Proofs.YtoaepibannfbdaaGreatDoor
