/- What the laws lean on, part 21. -/
import Derived.Below
import Derived.BigCall
import Derived.BigQuiet
import Derived.BigRegion
import Derived.Deep.AppendLies
import Derived.Deep.CutBlock
import Derived.Deep.CutRange
import Derived.Deep.DeepCutAuto
import Derived.Deep.DeepHandedRow
import Derived.Deep.LoopGhost
import Derived.Deep.MidRow
import Derived.Deep.QuietTactic
import Derived.Deep.RegionHeld3
import Derived.Deep.RegionLaw
import Derived.Deep.WholeRow
import Derived.Laws.AppendOwn
import Derived.Laws.Concat
import Derived.Laws.CopyOwn
import Derived.Laws.Externs
import Derived.Laws.IdiomStrings
import Derived.Lib.BitFns
import Derived.Lib.Bytealg
import Derived.Lib.Hide
import Derived.Lib.Slices
import Derived.Lib.Small
import Derived.Lib.Strings
import Derived.Lib.Walk
import Derived.LoopN
import Derived.OpenShut
import Derived.OrdersHeld
import Derived.Outline
import Derived.OwnWalk
import Derived.ProofKit
import Derived.Shelf.Bits.Mul64
import Derived.Shelf.Spec.TrailingZeros
import Derived.StillTailTactics
import Derived.WalkKit
import Derived.WalkLawsBesides
import Derived.WalkSpells
import Derived.Test.YtoaepibannfbdaaGreatDoorProg
import Derived.Test.YtoaepibannfbdaaGreatDoorRows
import Derived.Test.YtoaepibannfbdaaGreatDoorMr16
import Derived.Test.YtoaepibannfbdaaGreatDoorMr20
namespace Go.Proofs.YtoaepibannfbdaaGreatDoor
open Go.RowKit Mat
set_option maxRecDepth 100000
set_option linter.unusedVariables false
set_option linter.unusedSimpArgs false
theorem neg_lt {y : Int} {E : Nat} (h : y.natAbs < E) : (-y).natAbs < E := by rw [Int.natAbs_neg]; exact h
theorem radd_same {x y : Int} (h : x.sign = y.sign) : (x + y).natAbs = x.natAbs + y.natAbs ∧ (x + y).sign = x.sign := by
  rcases zsign x with ⟨h1, e1⟩ | ⟨h1, e1⟩ | ⟨h1, e1⟩ <;> rcases zsign y with ⟨h2, e2⟩ | ⟨h2, e2⟩ | ⟨h2, e2⟩ <;> rcases zsign (x + y) with ⟨h3, e3⟩ | ⟨h3, e3⟩ | ⟨h3, e3⟩ <;> omega
theorem radd_ge {x y : Int} (h : x.sign ≠ y.sign) (h0 : x ≠ 0) (h9 : y ≠ 0) (hle : y.natAbs ≤ x.natAbs) : (x + y).natAbs = x.natAbs - y.natAbs ∧ (x.natAbs - y.natAbs = 0 ∨ (x + y).sign = x.sign) := by
  rcases zsign x with ⟨h1, e1⟩ | ⟨h1, e1⟩ | ⟨h1, e1⟩ <;> rcases zsign y with ⟨h2, e2⟩ | ⟨h2, e2⟩ | ⟨h2, e2⟩ <;> rcases zsign (x + y) with ⟨h3, e3⟩ | ⟨h3, e3⟩ | ⟨h3, e3⟩ <;> omega
set_option maxHeartbeats 8000000 in
theorem rZMul_any (w : World) (va vb : Value) (x y : Int) (Ha : RIntV w va x) (Hb : RIntV w vb y) (la' : x.natAbs < D ^ 1000000) (lb' : y.natAbs < D ^ 1000000) :
    Calls Tryz.prog 103 #[va, vb] w (RetRInt w (x * y)) := by
  have Hla := Lib.hid la'
  have Hlb := Lib.hid lb'
  clear la' lb'
  obtain ⟨ga, sa, la, ca, rfl, ha, ma⟩ := Ha
  obtain ⟨gb, sb, lb, cb, rfl, hb, mb⟩ := Hb
  have hG : w.grownBy (((w.alloc (.cells #[.int .i64 ga, .slice sa la ca] 41)).alloc (.cells #[.int .i64 gb, .slice sb lb cb] 41)).alloc (.cells #[.int .i64 0, .slice none 0 0] 41)) none := (grown_alloc (grown_alloc (World.grownBy_alloc _ _ _) _) _)
  have Ba := heap_kept (grown_alloc (World.grownBy_alloc _ (.cells #[.int .i64 gb, .slice sb lb cb] 41) none) (.cells #[.int .i64 0, .slice none 0 0] 41)) (heap_new w (.cells #[.int .i64 ga, .slice sa la ca] 41) (w.heap.size) rfl)
  have Bb := heap_kept (World.grownBy_alloc _ (.cells #[.int .i64 0, .slice none 0 0] 41) none) (heap_new (w.alloc (.cells #[.int .i64 ga, .slice sa la ca] 41)) (.cells #[.int .i64 gb, .slice sb lb cb] 41) (w.heap.size + 1) (by simp))
  have Bq := (heap_new ((w.alloc (.cells #[.int .i64 ga, .slice sa la ca] 41)).alloc (.cells #[.int .i64 gb, .slice sb lb cb] 41)) (.cells #[.int .i64 0, .slice none 0 0] 41) (w.heap.size + 1 + 1) (by simp))
  have ra : RIntV (((w.alloc (.cells #[.int .i64 ga, .slice sa la ca] 41)).alloc (.cells #[.int .i64 gb, .slice sb lb cb] 41)).alloc (.cells #[.int .i64 0, .slice none 0 0] 41)) (.agg #[.int .i64 ga, .slice sa la ca]) (x) := ⟨ga, sa, la, ca, rfl, ha, ma.kept hG⟩
  have ma' : RefV (((w.alloc (.cells #[.int .i64 ga, .slice sa la ca] 41)).alloc (.cells #[.int .i64 gb, .slice sb lb cb] 41)).alloc (.cells #[.int .i64 0, .slice none 0 0] 41)) (.agg #[.slice sa la ca]) (x).natAbs := ma.kept hG
  have rb : RIntV (((w.alloc (.cells #[.int .i64 ga, .slice sa la ca] 41)).alloc (.cells #[.int .i64 gb, .slice sb lb cb] 41)).alloc (.cells #[.int .i64 0, .slice none 0 0] 41)) (.agg #[.int .i64 gb, .slice sb lb cb]) (y) := ⟨gb, sb, lb, cb, rfl, hb, mb.kept hG⟩
  have mb' : RefV (((w.alloc (.cells #[.int .i64 ga, .slice sa la ca] 41)).alloc (.cells #[.int .i64 gb, .slice sb lb cb] 41)).alloc (.cells #[.int .i64 0, .slice none 0 0] 41)) (.agg #[.slice sb lb cb]) (y).natAbs := mb.kept hG
  have oa : RIntV w (.agg #[.int .i64 ga, .slice sa la ca]) (x) := ⟨ga, sa, la, ca, rfl, ha, ma⟩
  clear ma
  have ob : RIntV w (.agg #[.int .i64 gb, .slice sb lb cb]) (y) := ⟨gb, sb, lb, cb, rfl, hb, mb⟩
  clear mb
  go_enter Tryz.func103, Tryz.ntmps103
  obtain ⟨P, hP⟩ : ∃ P, (x * y).sign = P := ⟨_, rfl⟩
  have HP : Hid ((x * y).sign = P) := hP
  have HN : Hid ((x * y).natAbs = x.natAbs * y.natAbs) := Int.natAbs_mul x y
  have hw : IntKind.i64.wrap (ga * gb) = P := by
    rw [ha.out, hb.out, ← Int.sign_mul, hP, IntKind.wrap_i64]
    have := sign_bd (x * y); rw [hP] at this; omega
  clear hP
  obtain ⟨Ca0, Ca1, Fa0, Fa1⟩ := box_cells Ba
  obtain ⟨Cb0, Cb1, Fb0, Fb1⟩ := box_cells Bb
  obtain ⟨Cq0, Cq1, Fq0, Fq1⟩ := box_cells Bq
  go_wp2_with fail
  generalize (((w.alloc (.cells #[.int .i64 ga, .slice sa la ca] 41)).alloc (.cells #[.int .i64 gb, .slice sb lb cb] 41)).alloc (.cells #[.int .i64 0, .slice none 0 0] 41)) = w0 at *
  go_region_held3 (fun w' => w'.cell? ⟨w.heap.size, 0, none⟩ = some (.int .i64 ga) ∧ w'.cell? ⟨w.heap.size, 1, none⟩ = some (.slice sa la ca) ∧ w'.cell? ⟨w.heap.size + 1, 0, none⟩ = some (.int .i64 gb) ∧ w'.cell? ⟨w.heap.size + 1, 1, none⟩ = some (.slice sb lb cb))
    (first | assumption | exact ⟨Ca0, Ca1, Cb0, Cb1⟩ | exact HSw1_20 | go_keep)
    (first
      | (go_at_call 138; (with_reducible refine (rMul_any w0.drew _ _ x.natAbs y.natAbs (ma'.kept (grown_drew (grown_refl _ _))) (mb'.kept (grown_drew (grown_refl _ _))) Hla.out Hlb.out).mono ?_); rintro e w1_1 ⟨vp, rfl, mp, gw1_1⟩; have hGw1_1 := grown_pre w0 gw1_1 rfl rfl rfl rfl; have hSw1_1 := (And.intro (hGw1_1.cell Ca0 (by simp)) (And.intro (hGw1_1.cell Ca1 (by simp)) (And.intro (hGw1_1.cell Cb0 (by simp)) (hGw1_1.cell Cb1 (by simp))))); clear gw1_1)
      | (go_at_call 88; (with_reducible refine (rMade_any w1_1 _ P (x.natAbs * y.natAbs) (x * y) mp HN.out (Or.inr HP.out)).mono ?_); rintro e w1_2 ⟨_, rfl, ⟨gd, sd, ld, cd, rfl, hd, md⟩, gw1_2⟩; have hGw1_2 := grown_trans hGw1_1 gw1_2; replace mp := mp.kept gw1_2; have rd : RIntV w1_2 (.agg #[.int .i64 gd, .slice sd ld cd]) (x * y) := ⟨gd, sd, ld, cd, rfl, hd, md⟩; have hSw1_2 := (And.intro (hGw1_2.cell Ca0 (by simp)) (And.intro (hGw1_2.cell Ca1 (by simp)) (And.intro (hGw1_2.cell Cb0 (by simp)) (hGw1_2.cell Cb1 (by simp))))); clear gw1_2; clear md; (obtain ⟨dq0, dq1, dq2, dq3⟩ := box_cells (heap_kept hGw1_2 Bq)); have HSw1_20 := (And.intro ((box_cells (heap_unset2 (heap_kept hGw1_2 Ba) (show w.heap.size ≠ w.heap.size + 1 + 1 by omega) (.int .i64 gd) (.slice sd ld cd))).1) (And.intro ((box_cells (heap_unset2 (heap_kept hGw1_2 Ba) (show w.heap.size ≠ w.heap.size + 1 + 1 by omega) (.int .i64 gd) (.slice sd ld cd))).2.1) (And.intro ((box_cells (heap_unset2 (heap_kept hGw1_2 Bb) (show w.heap.size + 1 ≠ w.heap.size + 1 + 1 by omega) (.int .i64 gd) (.slice sd ld cd))).1) ((box_cells (heap_unset2 (heap_kept hGw1_2 Bb) (show w.heap.size + 1 ≠ w.heap.size + 1 + 1 by omega) (.int .i64 gd) (.slice sd ld cd))).2.1))))))
  replace Ba := heap_kept hGw1_2 Ba
  replace Bb := heap_kept hGw1_2 Bb
  replace Bq := heap_kept hGw1_2 Bq
  replace ra := ra.kept hGw1_2
  replace ma' := ma'.kept hGw1_2
  replace rb := rb.kept hGw1_2
  replace mb' := mb'.kept hGw1_2
  replace hG := grown_trans hG hGw1_2
  clear Ca0 Fa0 Ca1 Fa1 Cb0 Fb0 Cb1 Fb1 Cq0 Fq0 Cq1 Fq1
  obtain ⟨k90, k91, k92, k93⟩ := box_cells Bq
  obtain ⟨q90, q91, q92, q93⟩ := box_cells (heap_set2 Bq (.int .i64 gd) (.slice sd ld cd))
  have hF : Hid (RetRInt w (x * y) (.returned (.agg #[.int .i64 gd, .slice sd ld cd])) ((w1_2.setCell ⟨w.heap.size + 1 + 1, 0, none⟩ (.int .i64 gd)).setCell ⟨w.heap.size + 1 + 1, 1, none⟩ (.slice sd ld cd))) := ret_rintv hG Bq (by omega) rd
  clear ra ma' rb mb' mp rd
  go_wp2_with fail
  exact bodyPost_ret (v := .agg #[.int .i64 gd, .slice sd ld cd]) (by simp [results, Tryz.results103, go_sem, q90, q91]) rfl hF.out
set_option maxHeartbeats 8000000 in
theorem rZAdd_any (w : World) (va vb : Value) (x y : Int) (Ha : RIntV w va x) (Hb : RIntV w vb y) (la' : x.natAbs < D ^ 1000000) (lb' : y.natAbs < D ^ 1000000) :
    Calls Tryz.prog 102 #[va, vb] w (RetRInt w (x + y)) := by
  have Hla := Lib.hid la'
  have Hlb := Lib.hid lb'
  clear la' lb'
  obtain ⟨ga, sa, la, ca, rfl, ha, ma⟩ := Ha
  obtain ⟨gb, sb, lb, cb, rfl, hb, mb⟩ := Hb
  have hG : w.grownBy (((w.alloc (.cells #[.int .i64 ga, .slice sa la ca] 41)).alloc (.cells #[.int .i64 gb, .slice sb lb cb] 41)).alloc (.cells #[.int .i64 0, .slice none 0 0] 41)) none := (grown_alloc (grown_alloc (World.grownBy_alloc _ _ _) _) _)
  have Ba := heap_kept (grown_alloc (World.grownBy_alloc _ (.cells #[.int .i64 gb, .slice sb lb cb] 41) none) (.cells #[.int .i64 0, .slice none 0 0] 41)) (heap_new w (.cells #[.int .i64 ga, .slice sa la ca] 41) (w.heap.size) rfl)
  have Bb := heap_kept (World.grownBy_alloc _ (.cells #[.int .i64 0, .slice none 0 0] 41) none) (heap_new (w.alloc (.cells #[.int .i64 ga, .slice sa la ca] 41)) (.cells #[.int .i64 gb, .slice sb lb cb] 41) (w.heap.size + 1) (by simp))
  have Bq := (heap_new ((w.alloc (.cells #[.int .i64 ga, .slice sa la ca] 41)).alloc (.cells #[.int .i64 gb, .slice sb lb cb] 41)) (.cells #[.int .i64 0, .slice none 0 0] 41) (w.heap.size + 1 + 1) (by simp))
  have ra : RIntV (((w.alloc (.cells #[.int .i64 ga, .slice sa la ca] 41)).alloc (.cells #[.int .i64 gb, .slice sb lb cb] 41)).alloc (.cells #[.int .i64 0, .slice none 0 0] 41)) (.agg #[.int .i64 ga, .slice sa la ca]) (x) := ⟨ga, sa, la, ca, rfl, ha, ma.kept hG⟩
  have ma' : RefV (((w.alloc (.cells #[.int .i64 ga, .slice sa la ca] 41)).alloc (.cells #[.int .i64 gb, .slice sb lb cb] 41)).alloc (.cells #[.int .i64 0, .slice none 0 0] 41)) (.agg #[.slice sa la ca]) (x).natAbs := ma.kept hG
  have rb : RIntV (((w.alloc (.cells #[.int .i64 ga, .slice sa la ca] 41)).alloc (.cells #[.int .i64 gb, .slice sb lb cb] 41)).alloc (.cells #[.int .i64 0, .slice none 0 0] 41)) (.agg #[.int .i64 gb, .slice sb lb cb]) (y) := ⟨gb, sb, lb, cb, rfl, hb, mb.kept hG⟩
  have mb' : RefV (((w.alloc (.cells #[.int .i64 ga, .slice sa la ca] 41)).alloc (.cells #[.int .i64 gb, .slice sb lb cb] 41)).alloc (.cells #[.int .i64 0, .slice none 0 0] 41)) (.agg #[.slice sb lb cb]) (y).natAbs := mb.kept hG
  have oa : RIntV w (.agg #[.int .i64 ga, .slice sa la ca]) (x) := ⟨ga, sa, la, ca, rfl, ha, ma⟩
  clear ma
  have ob : RIntV w (.agg #[.int .i64 gb, .slice sb lb cb]) (y) := ⟨gb, sb, lb, cb, rfl, hb, mb⟩
  clear mb
  go_enter Tryz.func102, Tryz.ntmps102
  obtain ⟨z, hz⟩ : ∃ z, x + y = z := ⟨_, rfl⟩
  obtain ⟨cc, hcc⟩ : ∃ cc, cmpInt x.natAbs y.natAbs = cc := ⟨_, rfl⟩
  have HCC := Lib.hid hcc
  have key : ((ga == 0) = true ∧ Hid (z = y)) ∨ ((ga == 0) = false ∧ (gb == 0) = true ∧ Hid (z = x)) ∨ ((ga == 0) = false ∧ (gb == 0) = false ∧ (ga == gb) = true ∧ Hid (z.natAbs = x.natAbs + y.natAbs ∧ z.sign = ga)) ∨ ((ga == 0) = false ∧ (gb == 0) = false ∧ (ga == gb) = false ∧ decide (0 ≤ cc) = true ∧ y.natAbs ≤ x.natAbs ∧ Hid (z.natAbs = x.natAbs - y.natAbs ∧ (x.natAbs - y.natAbs = 0 ∨ z.sign = ga))) ∨ ((ga == 0) = false ∧ (gb == 0) = false ∧ (ga == gb) = false ∧ decide (0 ≤ cc) = false ∧ x.natAbs ≤ y.natAbs ∧ Hid (z.natAbs = y.natAbs - x.natAbs ∧ (y.natAbs - x.natAbs = 0 ∨ z.sign = gb))) := by
    have ea := ha.out
    have eb := hb.out
    by_cases h1 : x = 0
    · left; subst h1; exact ⟨by rw [ea]; rfl, by show z = y; omega⟩
    · right
      have na : (ga == 0) = false := beq_eq_false_iff_ne.2 (by rw [ea]; intro h; exact h1 (Int.sign_eq_zero_iff_zero.1 h))
      by_cases h2 : y = 0
      · left; subst h2; exact ⟨na, by rw [eb]; rfl, by show z = x; omega⟩
      · right
        have nb : (gb == 0) = false := beq_eq_false_iff_ne.2 (by rw [eb]; intro h; exact h2 (Int.sign_eq_zero_iff_zero.1 h))
        by_cases h3 : x.sign = y.sign
        · left; exact ⟨na, nb, beq_iff_eq.2 (by rw [ea, eb, h3]), by rw [ea, ← hz]; exact radd_same h3⟩
        · right
          have nc : (ga == gb) = false := beq_eq_false_iff_ne.2 (by rw [ea, eb]; exact h3)
          rcases Nat.lt_trichotomy x.natAbs y.natAbs with h4 | h4 | h4
          · right; exact ⟨na, nb, nc, decide_eq_false (by rw [← hcc, cmpInt_lt h4]; omega), by omega, by rw [eb, ← hz, Int.add_comm]; exact radd_ge (Ne.symm h3) h2 h1 (by omega)⟩
          · left; exact ⟨na, nb, nc, decide_eq_true (by rw [← hcc, cmpInt_eq h4]; omega), by omega, by rw [ea, ← hz]; exact radd_ge h3 h1 h2 (by omega)⟩
          · left; exact ⟨na, nb, nc, decide_eq_true (by rw [← hcc, cmpInt_gt h4]; omega), by omega, by rw [ea, ← hz]; exact radd_ge h3 h1 h2 (by omega)⟩
  rw [hz]
  clear hz hcc
  rcases key with ⟨f1, hz⟩ | ⟨f1, f2, hz⟩ | ⟨f1, f2, f3, hz⟩ | ⟨f1, f2, f3, f4, hle, hz⟩ | ⟨f1, f2, f3, f4, hle, hz⟩
  · skip
    obtain ⟨Ca0, Ca1, Fa0, Fa1⟩ := box_cells Ba
    obtain ⟨Cb0, Cb1, Fb0, Fb1⟩ := box_cells Bb
    obtain ⟨Cq0, Cq1, Fq0, Fq1⟩ := box_cells Bq
    obtain rfl : z = y := hz.out
    have hG' : w.grownBy (((w.alloc (.cells #[.int .i64 ga, .slice sa la ca] 41)).alloc (.cells #[.int .i64 gb, .slice sb lb cb] 41)).alloc (.cells #[.int .i64 gb, .slice sb lb cb] 41)) none := (grown_alloc (grown_alloc (World.grownBy_alloc _ _ _) _) _)
    have hF : Hid (RetRInt w (z) (.returned (.agg #[.int .i64 gb, .slice sb lb cb])) (((w.alloc (.cells #[.int .i64 ga, .slice sa la ca] 41)).alloc (.cells #[.int .i64 gb, .slice sb lb cb] 41)).alloc (.cells #[.int .i64 gb, .slice sb lb cb] 41))) := ⟨_, rfl, ob.kept hG', hG'⟩
    clear hG' ra ma' rb mb'
    go_wp2_with fail
    exact bodyPost_ret (v := .agg #[.int .i64 gb, .slice sb lb cb]) (by simp [results, Tryz.results102, go_sem]) rfl hF.out
  · skip
    obtain ⟨Ca0, Ca1, Fa0, Fa1⟩ := box_cells Ba
    obtain ⟨Cb0, Cb1, Fb0, Fb1⟩ := box_cells Bb
    obtain ⟨Cq0, Cq1, Fq0, Fq1⟩ := box_cells Bq
    obtain rfl : z = x := hz.out
    have hG' : w.grownBy (((w.alloc (.cells #[.int .i64 ga, .slice sa la ca] 41)).alloc (.cells #[.int .i64 gb, .slice sb lb cb] 41)).alloc (.cells #[.int .i64 ga, .slice sa la ca] 41)) none := (grown_alloc (grown_alloc (World.grownBy_alloc _ _ _) _) _)
    have hF : Hid (RetRInt w (z) (.returned (.agg #[.int .i64 ga, .slice sa la ca])) (((w.alloc (.cells #[.int .i64 ga, .slice sa la ca] 41)).alloc (.cells #[.int .i64 gb, .slice sb lb cb] 41)).alloc (.cells #[.int .i64 ga, .slice sa la ca] 41))) := ⟨_, rfl, oa.kept hG', hG'⟩
    clear hG' ra ma' rb mb'
    go_wp2_with fail
    exact bodyPost_ret (v := .agg #[.int .i64 ga, .slice sa la ca]) (by simp [results, Tryz.results102, go_sem]) rfl hF.out
  · skip
    obtain ⟨Ca0, Ca1, Fa0, Fa1⟩ := box_cells Ba
    obtain ⟨Cb0, Cb1, Fb0, Fb1⟩ := box_cells Bb
    obtain ⟨Cq0, Cq1, Fq0, Fq1⟩ := box_cells Bq
    go_wp2_with fail
    generalize (((w.alloc (.cells #[.int .i64 ga, .slice sa la ca] 41)).alloc (.cells #[.int .i64 gb, .slice sb lb cb] 41)).alloc (.cells #[.int .i64 0, .slice none 0 0] 41)) = w0 at *
    go_region_held3 (fun w' => w'.cell? ⟨w.heap.size, 0, none⟩ = some (.int .i64 ga) ∧ w'.cell? ⟨w.heap.size, 1, none⟩ = some (.slice sa la ca) ∧ w'.cell? ⟨w.heap.size + 1, 0, none⟩ = some (.int .i64 gb) ∧ w'.cell? ⟨w.heap.size + 1, 1, none⟩ = some (.slice sb lb cb))
      (first | assumption | exact ⟨Ca0, Ca1, Cb0, Cb1⟩ | exact HSw1_20 | go_keep)
      (first
        | (go_at_call 89; (with_reducible refine (rAdd_any w0.drew _ _ x.natAbs y.natAbs (ma'.kept (grown_drew (grown_refl _ _))) (mb'.kept (grown_drew (grown_refl _ _))) Hla.out Hlb.out).mono ?_); rintro e w1_1 ⟨vp, rfl, mp, gw1_1⟩; have hGw1_1 := grown_pre w0 gw1_1 rfl rfl rfl rfl; have hSw1_1 := (And.intro (hGw1_1.cell Ca0 (by simp)) (And.intro (hGw1_1.cell Ca1 (by simp)) (And.intro (hGw1_1.cell Cb0 (by simp)) (hGw1_1.cell Cb1 (by simp))))); clear gw1_1)
        | (go_at_call 88; (with_reducible refine (rMade_any w1_1 _ ga (x.natAbs + y.natAbs) z mp hz.out.1 (Or.inr hz.out.2)).mono ?_); rintro e w1_2 ⟨_, rfl, ⟨gd, sd, ld, cd, rfl, hd, md⟩, gw1_2⟩; have hGw1_2 := grown_trans hGw1_1 gw1_2; replace mp := mp.kept gw1_2; have rd : RIntV w1_2 (.agg #[.int .i64 gd, .slice sd ld cd]) (z) := ⟨gd, sd, ld, cd, rfl, hd, md⟩; have hSw1_2 := (And.intro (hGw1_2.cell Ca0 (by simp)) (And.intro (hGw1_2.cell Ca1 (by simp)) (And.intro (hGw1_2.cell Cb0 (by simp)) (hGw1_2.cell Cb1 (by simp))))); clear gw1_2; clear md; (obtain ⟨dq0, dq1, dq2, dq3⟩ := box_cells (heap_kept hGw1_2 Bq)); have HSw1_20 := (And.intro ((box_cells (heap_unset2 (heap_kept hGw1_2 Ba) (show w.heap.size ≠ w.heap.size + 1 + 1 by omega) (.int .i64 gd) (.slice sd ld cd))).1) (And.intro ((box_cells (heap_unset2 (heap_kept hGw1_2 Ba) (show w.heap.size ≠ w.heap.size + 1 + 1 by omega) (.int .i64 gd) (.slice sd ld cd))).2.1) (And.intro ((box_cells (heap_unset2 (heap_kept hGw1_2 Bb) (show w.heap.size + 1 ≠ w.heap.size + 1 + 1 by omega) (.int .i64 gd) (.slice sd ld cd))).1) ((box_cells (heap_unset2 (heap_kept hGw1_2 Bb) (show w.heap.size + 1 ≠ w.heap.size + 1 + 1 by omega) (.int .i64 gd) (.slice sd ld cd))).2.1))))))
    replace Ba := heap_kept hGw1_2 Ba
    replace Bb := heap_kept hGw1_2 Bb
    replace Bq := heap_kept hGw1_2 Bq
    replace ra := ra.kept hGw1_2
    replace ma' := ma'.kept hGw1_2
    replace rb := rb.kept hGw1_2
    replace mb' := mb'.kept hGw1_2
    replace hG := grown_trans hG hGw1_2
    clear Ca0 Fa0 Ca1 Fa1 Cb0 Fb0 Cb1 Fb1 Cq0 Fq0 Cq1 Fq1
    obtain ⟨k90, k91, k92, k93⟩ := box_cells Bq
    obtain ⟨q90, q91, q92, q93⟩ := box_cells (heap_set2 Bq (.int .i64 gd) (.slice sd ld cd))
    have hF : Hid (RetRInt w (z) (.returned (.agg #[.int .i64 gd, .slice sd ld cd])) ((w1_2.setCell ⟨w.heap.size + 1 + 1, 0, none⟩ (.int .i64 gd)).setCell ⟨w.heap.size + 1 + 1, 1, none⟩ (.slice sd ld cd))) := ret_rintv hG Bq (by omega) rd
    clear ra ma' rb mb' mp rd
    go_wp2_with fail
    exact bodyPost_ret (v := .agg #[.int .i64 gd, .slice sd ld cd]) (by simp [results, Tryz.results102, go_sem, q90, q91]) rfl hF.out
  · skip
    obtain ⟨Ca0, Ca1, Fa0, Fa1⟩ := box_cells Ba
    obtain ⟨Cb0, Cb1, Fb0, Fb1⟩ := box_cells Bb
    obtain ⟨Cq0, Cq1, Fq0, Fq1⟩ := box_cells Bq
    have HLE := Lib.hid hle
    clear hle
    go_wp2_with fail
    generalize (((w.alloc (.cells #[.int .i64 ga, .slice sa la ca] 41)).alloc (.cells #[.int .i64 gb, .slice sb lb cb] 41)).alloc (.cells #[.int .i64 0, .slice none 0 0] 41)) = w0 at *
    clear Ca0 Fa0 Ca1 Fa1 Cb0 Fb0 Cb1 Fb1 Cq0 Fq0 Cq1 Fq1
    refine (rCmp_any w0 _ _ x.natAbs y.natAbs ma' mb' Hla.out Hlb.out).mono ?_
    rintro e w1 ⟨rfl, gw1⟩
    rw [HCC.out]
    replace Ba := heap_kept gw1 Ba
    replace Bb := heap_kept gw1 Bb
    replace Bq := heap_kept gw1 Bq
    replace ra := ra.kept gw1
    replace ma' := ma'.kept gw1
    replace rb := rb.kept gw1
    replace mb' := mb'.kept gw1
    replace hG := grown_trans hG gw1
    clear gw1
    obtain ⟨Ca0, Ca1, Fa0, Fa1⟩ := box_cells Ba
    obtain ⟨Cb0, Cb1, Fb0, Fb1⟩ := box_cells Bb
    obtain ⟨Cq0, Cq1, Fq0, Fq1⟩ := box_cells Bq
    go_wp2_with fail
    go_region_held3 (fun w' => w'.cell? ⟨w.heap.size, 0, none⟩ = some (.int .i64 ga) ∧ w'.cell? ⟨w.heap.size, 1, none⟩ = some (.slice sa la ca) ∧ w'.cell? ⟨w.heap.size + 1, 0, none⟩ = some (.int .i64 gb) ∧ w'.cell? ⟨w.heap.size + 1, 1, none⟩ = some (.slice sb lb cb))
      (first | assumption | exact ⟨Ca0, Ca1, Cb0, Cb1⟩ | exact HSw2_20 | go_keep)
      (first
        | (go_at_call 137; (with_reducible refine (rLess_any w1.drew _ _ x.natAbs y.natAbs (ma'.kept (grown_drew (grown_refl _ _))) (mb'.kept (grown_drew (grown_refl _ _))) HLE.out Hla.out).mono ?_); rintro e w2_1 ⟨vp, rfl, mp, gw2_1⟩; have hGw2_1 := grown_pre w1 gw2_1 rfl rfl rfl rfl; have hSw2_1 := (And.intro (hGw2_1.cell Ca0 (by simp)) (And.intro (hGw2_1.cell Ca1 (by simp)) (And.intro (hGw2_1.cell Cb0 (by simp)) (hGw2_1.cell Cb1 (by simp))))); clear gw2_1)
        | (go_at_call 88; (with_reducible refine (rMade_any w2_1 _ ga (x.natAbs - y.natAbs) z mp hz.out.1 hz.out.2).mono ?_); rintro e w2_2 ⟨_, rfl, ⟨gd, sd, ld, cd, rfl, hd, md⟩, gw2_2⟩; have hGw2_2 := grown_trans hGw2_1 gw2_2; replace mp := mp.kept gw2_2; have rd : RIntV w2_2 (.agg #[.int .i64 gd, .slice sd ld cd]) (z) := ⟨gd, sd, ld, cd, rfl, hd, md⟩; have hSw2_2 := (And.intro (hGw2_2.cell Ca0 (by simp)) (And.intro (hGw2_2.cell Ca1 (by simp)) (And.intro (hGw2_2.cell Cb0 (by simp)) (hGw2_2.cell Cb1 (by simp))))); clear gw2_2; clear md; (obtain ⟨dq0, dq1, dq2, dq3⟩ := box_cells (heap_kept hGw2_2 Bq)); have HSw2_20 := (And.intro ((box_cells (heap_unset2 (heap_kept hGw2_2 Ba) (show w.heap.size ≠ w.heap.size + 1 + 1 by omega) (.int .i64 gd) (.slice sd ld cd))).1) (And.intro ((box_cells (heap_unset2 (heap_kept hGw2_2 Ba) (show w.heap.size ≠ w.heap.size + 1 + 1 by omega) (.int .i64 gd) (.slice sd ld cd))).2.1) (And.intro ((box_cells (heap_unset2 (heap_kept hGw2_2 Bb) (show w.heap.size + 1 ≠ w.heap.size + 1 + 1 by omega) (.int .i64 gd) (.slice sd ld cd))).1) ((box_cells (heap_unset2 (heap_kept hGw2_2 Bb) (show w.heap.size + 1 ≠ w.heap.size + 1 + 1 by omega) (.int .i64 gd) (.slice sd ld cd))).2.1))))))
    replace Ba := heap_kept hGw2_2 Ba
    replace Bb := heap_kept hGw2_2 Bb
    replace Bq := heap_kept hGw2_2 Bq
    replace ra := ra.kept hGw2_2
    replace ma' := ma'.kept hGw2_2
    replace rb := rb.kept hGw2_2
    replace mb' := mb'.kept hGw2_2
    replace hG := grown_trans hG hGw2_2
    clear Ca0 Fa0 Ca1 Fa1 Cb0 Fb0 Cb1 Fb1 Cq0 Fq0 Cq1 Fq1
    obtain ⟨k90, k91, k92, k93⟩ := box_cells Bq
    obtain ⟨q90, q91, q92, q93⟩ := box_cells (heap_set2 Bq (.int .i64 gd) (.slice sd ld cd))
    have hF : Hid (RetRInt w (z) (.returned (.agg #[.int .i64 gd, .slice sd ld cd])) ((w2_2.setCell ⟨w.heap.size + 1 + 1, 0, none⟩ (.int .i64 gd)).setCell ⟨w.heap.size + 1 + 1, 1, none⟩ (.slice sd ld cd))) := ret_rintv hG Bq (by omega) rd
    clear ra ma' rb mb' mp rd
    go_wp2_with fail
    exact bodyPost_ret (v := .agg #[.int .i64 gd, .slice sd ld cd]) (by simp [results, Tryz.results102, go_sem, q90, q91]) rfl hF.out
  · skip
    obtain ⟨Ca0, Ca1, Fa0, Fa1⟩ := box_cells Ba
    obtain ⟨Cb0, Cb1, Fb0, Fb1⟩ := box_cells Bb
    obtain ⟨Cq0, Cq1, Fq0, Fq1⟩ := box_cells Bq
    have HLE := Lib.hid hle
    clear hle
    go_wp2_with fail
    generalize (((w.alloc (.cells #[.int .i64 ga, .slice sa la ca] 41)).alloc (.cells #[.int .i64 gb, .slice sb lb cb] 41)).alloc (.cells #[.int .i64 0, .slice none 0 0] 41)) = w0 at *
    clear Ca0 Fa0 Ca1 Fa1 Cb0 Fb0 Cb1 Fb1 Cq0 Fq0 Cq1 Fq1
    refine (rCmp_any w0 _ _ x.natAbs y.natAbs ma' mb' Hla.out Hlb.out).mono ?_
    rintro e w1 ⟨rfl, gw1⟩
    rw [HCC.out]
    replace Ba := heap_kept gw1 Ba
    replace Bb := heap_kept gw1 Bb
    replace Bq := heap_kept gw1 Bq
    replace ra := ra.kept gw1
    replace ma' := ma'.kept gw1
    replace rb := rb.kept gw1
    replace mb' := mb'.kept gw1
    replace hG := grown_trans hG gw1
    clear gw1
    obtain ⟨Ca0, Ca1, Fa0, Fa1⟩ := box_cells Ba
    obtain ⟨Cb0, Cb1, Fb0, Fb1⟩ := box_cells Bb
    obtain ⟨Cq0, Cq1, Fq0, Fq1⟩ := box_cells Bq
    go_wp2_with fail
    go_region_held3 (fun w' => w'.cell? ⟨w.heap.size, 0, none⟩ = some (.int .i64 ga) ∧ w'.cell? ⟨w.heap.size, 1, none⟩ = some (.slice sa la ca) ∧ w'.cell? ⟨w.heap.size + 1, 0, none⟩ = some (.int .i64 gb) ∧ w'.cell? ⟨w.heap.size + 1, 1, none⟩ = some (.slice sb lb cb))
      (first | assumption | exact ⟨Ca0, Ca1, Cb0, Cb1⟩ | exact HSw2_20 | go_keep)
      (first
        | (go_at_call 137; (with_reducible refine (rLess_any w1.drew _ _ y.natAbs x.natAbs (mb'.kept (grown_drew (grown_refl _ _))) (ma'.kept (grown_drew (grown_refl _ _))) HLE.out Hlb.out).mono ?_); rintro e w2_1 ⟨vp, rfl, mp, gw2_1⟩; have hGw2_1 := grown_pre w1 gw2_1 rfl rfl rfl rfl; have hSw2_1 := (And.intro (hGw2_1.cell Ca0 (by simp)) (And.intro (hGw2_1.cell Ca1 (by simp)) (And.intro (hGw2_1.cell Cb0 (by simp)) (hGw2_1.cell Cb1 (by simp))))); clear gw2_1)
        | (go_at_call 88; (with_reducible refine (rMade_any w2_1 _ gb (y.natAbs - x.natAbs) z mp hz.out.1 hz.out.2).mono ?_); rintro e w2_2 ⟨_, rfl, ⟨gd, sd, ld, cd, rfl, hd, md⟩, gw2_2⟩; have hGw2_2 := grown_trans hGw2_1 gw2_2; replace mp := mp.kept gw2_2; have rd : RIntV w2_2 (.agg #[.int .i64 gd, .slice sd ld cd]) (z) := ⟨gd, sd, ld, cd, rfl, hd, md⟩; have hSw2_2 := (And.intro (hGw2_2.cell Ca0 (by simp)) (And.intro (hGw2_2.cell Ca1 (by simp)) (And.intro (hGw2_2.cell Cb0 (by simp)) (hGw2_2.cell Cb1 (by simp))))); clear gw2_2; clear md; (obtain ⟨dq0, dq1, dq2, dq3⟩ := box_cells (heap_kept hGw2_2 Bq)); have HSw2_20 := (And.intro ((box_cells (heap_unset2 (heap_kept hGw2_2 Ba) (show w.heap.size ≠ w.heap.size + 1 + 1 by omega) (.int .i64 gd) (.slice sd ld cd))).1) (And.intro ((box_cells (heap_unset2 (heap_kept hGw2_2 Ba) (show w.heap.size ≠ w.heap.size + 1 + 1 by omega) (.int .i64 gd) (.slice sd ld cd))).2.1) (And.intro ((box_cells (heap_unset2 (heap_kept hGw2_2 Bb) (show w.heap.size + 1 ≠ w.heap.size + 1 + 1 by omega) (.int .i64 gd) (.slice sd ld cd))).1) ((box_cells (heap_unset2 (heap_kept hGw2_2 Bb) (show w.heap.size + 1 ≠ w.heap.size + 1 + 1 by omega) (.int .i64 gd) (.slice sd ld cd))).2.1))))))
    replace Ba := heap_kept hGw2_2 Ba
    replace Bb := heap_kept hGw2_2 Bb
    replace Bq := heap_kept hGw2_2 Bq
    replace ra := ra.kept hGw2_2
    replace ma' := ma'.kept hGw2_2
    replace rb := rb.kept hGw2_2
    replace mb' := mb'.kept hGw2_2
    replace hG := grown_trans hG hGw2_2
    clear Ca0 Fa0 Ca1 Fa1 Cb0 Fb0 Cb1 Fb1 Cq0 Fq0 Cq1 Fq1
    obtain ⟨k90, k91, k92, k93⟩ := box_cells Bq
    obtain ⟨q90, q91, q92, q93⟩ := box_cells (heap_set2 Bq (.int .i64 gd) (.slice sd ld cd))
    have hF : Hid (RetRInt w (z) (.returned (.agg #[.int .i64 gd, .slice sd ld cd])) ((w2_2.setCell ⟨w.heap.size + 1 + 1, 0, none⟩ (.int .i64 gd)).setCell ⟨w.heap.size + 1 + 1, 1, none⟩ (.slice sd ld cd))) := ret_rintv hG Bq (by omega) rd
    clear ra ma' rb mb' mp rd
    go_wp2_with fail
    exact bodyPost_ret (v := .agg #[.int .i64 gd, .slice sd ld cd]) (by simp [results, Tryz.results102, go_sem, q90, q91]) rfl hF.out
end Go.Proofs.YtoaepibannfbdaaGreatDoor
namespace Go.Proofs.YtoaepibannfbdaaGreatDoor
open Go.RowKit Mat Ex
set_option linter.unusedVariables false
set_option linter.unusedSimpArgs false
set_option maxRecDepth 100000
theorem dp6 {a E : Nat} (h : a < D ^ E) (hE : E ≤ 1000000) : a < D ^ 1000000 := by
  obtain ⟨M, hM⟩ : ∃ M, M = 1000000 := ⟨_, rfl⟩
  rw [← hM] at hE ⊢
  exact dpw h hE
def RetRQ (w : World) (r : Rat) (E : Nat) (e : Ending) (w' : World) : Prop := ∃ v, e = .returned v ∧ RQ w' v r E ∧ w.grownBy w' none
theorem rq_add {n d m e : Int} {r t : Rat} (hd : 0 < d) (he : 0 < e) (h1 : Rat.divInt n d = r) (h2 : Rat.divInt m e = t) : Rat.divInt (n * e + m * d) (d * e) = r + t := by
  rw [← h1, ← h2, Rat.divInt_add_divInt _ _ (by omega) (by omega)]
theorem rq_add1 {n d m : Int} {r t : Rat} (hd : 0 < d) (h1 : Rat.divInt n d = r) (h2 : Rat.divInt m d = t) : Rat.divInt (n + m) d = r + t := by
  rw [← rq_add hd hd h1 h2, ← Int.add_mul, Rat.divInt_mul_right (by omega)]
theorem rq_neg {n d : Int} {r : Rat} (h1 : Rat.divInt n d = r) : Rat.divInt (-n) d = -r := by rw [← h1, Rat.neg_divInt]
theorem rq_mul {n d m e : Int} {r t : Rat} (h1 : Rat.divInt n d = r) (h2 : Rat.divInt m e = t) : Rat.divInt (n * m) (d * e) = r * t := by
  rw [← h1, ← h2, Rat.divInt_mul_divInt]
theorem rq_div {n d m e : Int} {r t : Rat} (h1 : Rat.divInt n d = r) (h2 : Rat.divInt m e = t) : Rat.divInt (n * e) (d * m) = r / t := by
  rw [← h1, ← h2, Rat.div_def, Rat.inv_divInt, Rat.divInt_mul_divInt]
theorem rq_num_ne {n d : Int} {r : Rat} (h : Rat.divInt n d = r) (h0 : r ≠ 0) : n ≠ 0 := fun e => h0 (by rw [← h, e, Rat.zero_divInt])
theorem rq_sign {n d : Int} {r : Rat} (hd : 0 < d) (h1 : Rat.divInt n d = r) : n.sign = r.num.sign := by
  have h := rsg_divInt (n := n) hd
  rw [h1] at h; exact h.symm
theorem RF.rq {w : World} {v : Value} {n d : Int} {r : Rat} {E : Nat} (h : RF w v n d) (h0 : 0 < d) (hr : Rat.divInt n d = r) (hn : n.natAbs < D ^ E) (hd : d.natAbs < D ^ E) : RQ w v r E := by
  obtain ⟨g, s, l, c, g', s', l', c', e, h1, h2⟩ := h
  exact ⟨g, s, l, c, g', s', l', c', n, d, e, h1, h2, h0, hr, hn, hd⟩
theorem RQ.rf {w : World} {v : Value} {r : Rat} {E : Nat} (h : RQ w v r E) : ∃ n d, RF w v n d ∧ 0 < d ∧ Rat.divInt n d = r ∧ n.natAbs < D ^ E ∧ d.natAbs < D ^ E := by
  obtain ⟨g, s, l, c, g', s', l', c', n, d, e, h1, h2, h3⟩ := h
  exact ⟨n, d, ⟨g, s, l, c, g', s', l', c', e, h1, h2⟩, h3.out⟩
def sRF (n d : Int) : Sp := .of (.agg 4) (fun v W => RF W v n d) (fun v W h => by
  obtain ⟨g, s, l, c, g', s', l', c', rfl, _⟩ := h
  exact ⟨cellf [.int .i64 g, .slice s l c, .int .i64 g', .slice s' l' c'], cellf_one (by simp [Value.oneCell']), rfl⟩) (fun v W W' k h => h.keeps k)
def sRR (n m : Int) : Sp := .of (.tup [(none, 3), (none, 3)]) (fun v W => ∃ u t, v = .tuple #[u, t] ∧ RIntV W u n ∧ RIntV W t m) (fun v W h => by
  obtain ⟨u, t, rfl, ⟨g, s, k, c, rfl, _⟩, g', s', k', c', rfl, _⟩ := h
  exact fits2 (u := .bool true) (cs := [.int .i64 g, .slice s k c, .int .i64 g', .slice s' k' c']) (by simp [Value.oneCell']) rfl) (fun v W W' k h => by obtain ⟨u, t, e, h, h'⟩ := h; exact ⟨u, t, e, h.keeps k, h'.keeps k⟩)
theorem rr1 {n m : Int} {a b : Value} {W : World} : (sRR n m).F (.tuple #[a, b]) W → RIntV W a n := by rintro ⟨u, t, e, h, _⟩; cases e; exact h
theorem rr2 {n m : Int} {a b : Value} {W : World} : (sRR n m).F (.tuple #[a, b]) W → RIntV W b m := by rintro ⟨u, t, e, _, h⟩; cases e; exact h
theorem rs1 {W : World} {a b : Value} {z : Int} : RIntV W (.agg #[a, b]) z → a = .int .i64 z.sign := by
  rintro ⟨g, s, l, c, e, h1, h2⟩; cases e; rw [show g = z.sign from h1]
theorem mkrf {W : World} {a b c d : Value} {n m : Int} (h : RIntV W (.agg #[a, b]) n) (h' : RIntV W (.agg #[c, d]) m) : RF W (.agg #[a, b, c, d]) n m := by
  obtain ⟨g, s, l, k, e, h1⟩ := h
  obtain ⟨g', s', l', k', e', h1'⟩ := h'
  cases e; cases e'
  exact ⟨g, s, l, k, g', s', l', k', rfl, ⟨g, s, l, k, rfl, h1⟩, g', s', l', k', rfl, h1'⟩
def RetRF (w : World) (n d : Int) (e : Ending) (w' : World) : Prop := ∃ v, e = .returned v ∧ RF w' v n d ∧ w.grownBy w' none
section
variable {P : Program} {f : FuncId} {args : Array Value} {W : World}
theorem toRR {n m : Int} (h : Calls P f args W (fun e w' => ∃ v u, e = .returned (.tuple #[v, u]) ∧ RIntV w' v n ∧ RIntV w' u m ∧ W.grownBy w' none)) : Calls P f args W (Ret W (sRR n m).F) :=
  h.mono fun _ _ ⟨v, u, a, h, h', g⟩ => ⟨_, a, ⟨v, u, rfl, h, h'⟩, g⟩
end
theorem d51 : (1 : Int).natAbs < D ^ 5 := by unfold D; decide
theorem dint {n : Int} (h1 : -9223372036854775808 ≤ n) (h2 : n ≤ 9223372036854775807) : n.natAbs < D ^ 5 := by
  have : (100000000000000000000 : Nat) = D ^ 5 := by unfold D; decide
  omega
theorem rFOf_any (w : World) (n : Int) (h1 : -9223372036854775808 ≤ n) (h2 : n ≤ 9223372036854775807) :
    Calls Tryz.prog 56 #[.int .i64 n] w (RetRF w n 1) := by
  refine exec_calls mixed Tryz.func56 [sZ n] [sR n, sR 1] (.cons rfl .nil) (rs := [cl 1 41 [on 0], cl 2 41 [.v false [.lit (.int .i64 1)]]]) (out := .v true [.an 1 0, .an 1 1, .an 2 0, .an 2 1]) (nc := 3) (by kernel_rfl)
      ⟨fun σ W g h hb => arg1 (h 0 rfl) (rZOf_any W n h1 h2),
      fun σ W g h hb => rZOf_any W 1 (by omega) (by omega),
      trivial⟩ fun τ W g h => ⟨_, rfl, mkrf (h 1 rfl) (h 2 rfl), g⟩
theorem rFMul_any (w : World) (va vb : Value) (n d m e : Int) (Ha : RF w va n d) (Hb : RF w vb m e) (E : Nat) (hE : E ≤ 400000) (l1 : n.natAbs < D ^ E) (l2 : d.natAbs < D ^ E) (l3 : m.natAbs < D ^ E) (l4 : e.natAbs < D ^ E) :
    Calls Tryz.prog 59 #[va, vb] w (RetRF w (n * m) (d * e)) := by
  refine exec_calls mixed Tryz.func59 [sRF n d, sRF m e] [sR (n * m), sR (d * e)] (.cons Ha (.cons Hb .nil)) (rs := [cl 2 103 [ag 2 0, ag 2 1], cl 3 103 [.v true [.an 0 2, .an 0 3], .v true [.an 1 2, .an 1 3]]]) (out := .v true [.an 2 0, .an 2 1, .an 3 0, .an 3 1]) (nc := 4) (by kernel_rfl)
      ⟨fun σ W g h hb => rZMul_any W _ _ _ _ (rn (h 0 rfl)) (rn (h 1 rfl)) (dp6 l1 (by omega)) (dp6 l3 (by omega)),
      fun σ W g h hb => rZMul_any W _ _ _ _ (rd (h 0 rfl)) (rd (h 1 rfl)) (dp6 l2 (by omega)) (dp6 l4 (by omega)),
      trivial⟩ fun τ W g h => ⟨_, rfl, mkrf (h 2 rfl) (h 3 rfl), g⟩
theorem zcmp_same {x y : Int} (h : x = y) : zcmp x y = 0 := by unfold zcmp; rw [if_neg (by omega), if_pos h]
theorem zcmp_ne {x y : Int} (h : x ≠ y) : zcmp x y ≠ 0 := by unfold zcmp; split <;> simp [h]
theorem rFAdd_any (w : World) (va vb : Value) (n d m e : Int) (Ha : RF w va n d) (Hb : RF w vb m e) (E : Nat) (hE : E ≤ 400000) (l1 : n.natAbs < D ^ E) (l2 : d.natAbs < D ^ E) (l3 : m.natAbs < D ^ E) (l4 : e.natAbs < D ^ E) :
    Calls Tryz.prog 57 #[va, vb] w (fun x w' => ∃ v, x = .returned v ∧ RF w' v (if d = e then n + m else n * e + m * d) (if d = e then d else d * e) ∧ w.grownBy w' none) := by
  by_cases h1 : d = e
  · skip
    rw [if_pos h1, if_pos h1]
    refine exec_calls mixed Tryz.func57 [sRF n d, sRF m e] [sV (.int .i64 0), sR (n + m)] (.cons Ha (.cons Hb .nil)) (rs := [cl 2 55 [.v true [.an 0 2, .an 0 3], .v true [.an 1 2, .an 1 3]], cl 3 102 [ag 2 0, ag 2 1]]) (out := .v true [.an 3 0, .an 3 1, .an 0 2, .an 0 3]) (nc := 4) (by kernel_rfl)
        ⟨fun σ W g h hb => toV (rZCmp_any W _ _ _ _ (rd (h 0 rfl)) (rd (h 1 rfl)) (dp6 l2 (by omega)) (dp6 l4 (by omega))) (by rw [zcmp_same h1]),
        fun σ W g h hb => rZAdd_any W _ _ _ _ (rn (h 0 rfl)) (rn (h 1 rfl)) (dp6 l1 (by omega)) (dp6 l3 (by omega)),
        trivial⟩ fun τ W g h => ⟨_, rfl, mkrf (h 3 rfl) (rd (h 0 rfl)), g⟩
  · skip
    rw [if_neg h1, if_neg h1]
    refine exec_calls mixed Tryz.func57 [sRF n d, sRF m e] [sZ (zcmp d e), sV (.bool false), sR (n * e), sR (m * d), sR (n * e + m * d), sR (d * e)] (.cons Ha (.cons Hb .nil)) (rs := [cl 2 55 [.v true [.an 0 2, .an 0 3], .v true [.an 1 2, .an 1 3]], co 3 (.binOp .eql 3 (.tmp 9) (.const (.int .i64 0)) 3) 4 [on 2, .v false [.lit (.int .i64 0)]] [0, 1, 2] [], cl 4 103 [ag 2 0, .v true [.an 1 2, .an 1 3]], cl 5 103 [ag 2 1, .v true [.an 0 2, .an 0 3]], cl 6 102 [ag 2 4, ag 2 5], cl 7 103 [.v true [.an 0 2, .an 0 3], .v true [.an 1 2, .an 1 3]]]) (out := .v true [.an 6 0, .an 6 1, .an 7 0, .an 7 1]) (nc := 8) (by kernel_rfl)
        ⟨fun σ W g h hb => toZ (rZCmp_any W _ _ _ _ (rd (h 0 rfl)) (rd (h 1 rfl)) (dp6 l2 (by omega)) (dp6 l4 (by omega))) rfl,
        fun σ W g h hb => fun ρ o ho _ hv => ⟨_, bin_told ho ((two_vals hv).1.trans (h 2 rfl)) (two_vals hv).2 rfl, congrArg Value.bool (beq_eq_false_iff_ne.2 (zcmp_ne h1))⟩,
        fun σ W g h hb => rZMul_any W _ _ _ _ (rn (h 0 rfl)) (rd (h 1 rfl)) (dp6 l1 (by omega)) (dp6 l4 (by omega)),
        fun σ W g h hb => rZMul_any W _ _ _ _ (rn (h 1 rfl)) (rd (h 0 rfl)) (dp6 l3 (by omega)) (dp6 l2 (by omega)),
        fun σ W g h hb => rZAdd_any W _ _ _ _ (h 4 rfl) (h 5 rfl) (dp6 (dmul_bd l1 l4) (by omega)) (dp6 (dmul_bd l3 l2) (by omega)),
        fun σ W g h hb => rZMul_any W _ _ _ _ (rd (h 0 rfl)) (rd (h 1 rfl)) (dp6 l2 (by omega)) (dp6 l4 (by omega)),
        trivial⟩ fun τ W g h => ⟨_, rfl, mkrf (h 6 rfl) (h 7 rfl), g⟩
end Go.Proofs.YtoaepibannfbdaaGreatDoor
namespace Go.Proofs.YtoaepibannfbdaaGreatDoor
open Go.RowKit Mat Ex PM
set_option linter.unusedVariables false
set_option linter.unusedSimpArgs false
theorem h31 {W : World} {a b c d e f : Value} {p : H3} : HV W (.agg #[a, b, c, d, e, f]) p → RIntV W (.agg #[a, b]) p.x := by rintro ⟨_, _, _, _, _, _, q, h1, h2, h3⟩; cases q; exact h1
theorem h32 {W : World} {a b c d e f : Value} {p : H3} : HV W (.agg #[a, b, c, d, e, f]) p → RIntV W (.agg #[c, d]) p.y := by rintro ⟨_, _, _, _, _, _, q, h1, h2, h3⟩; cases q; exact h2
theorem h33 {W : World} {a b c d e f : Value} {p : H3} : HV W (.agg #[a, b, c, d, e, f]) p → RIntV W (.agg #[e, f]) p.z := by rintro ⟨_, _, _, _, _, _, q, h1, h2, h3⟩; cases q; exact h3
def sHs (p q : H3) : Sp := .of (.agg 12) (fun v W => HsV W v p q) (fun v W h => by
  obtain ⟨a, b, c, d, e, f, a', b', c', d', e', f', rfl, h1, h2⟩ := h
  refine ⟨cellf [a, b, c, d, e, f, a', b', c', d', e', f'], cellf_one (fun x hx => ?_), rfl⟩
  rcases List.mem_append.1 (show x ∈ [a, b, c, d, e, f] ++ [a', b', c', d', e', f'] from hx) with hx | hx
  · exact h1.one x hx
  · exact h2.one x hx) (fun v W W' k h => h.keeps k)
section
variable {P : Program} {ρ : Operand → Value} {o : Oper} {W : World}
end
theorem hdn_pos {a b c : H3} (ha : 0 < a.z) (hb : 0 < b.z) (hc : 0 < c.z) : 0 < hdn a b c := Int.mul_pos (Int.mul_pos ha ha) (Int.mul_pos hb hc)
theorem rp_dot {a b c : H3} (ha : 0 < a.z) (hb : 0 < b.z) (hc : 0 < c.z) : Rat.divInt (hdt a b c) (hdn a b c) = pdot (rp a) (rp b) (rp c) := by
  have h1 := hz ha; have h2 := hz hb; have h3 := hz hc
  unfold hdt hdn hlx hly pdot rp
  simp only [q_of, Rat.intCast_mul, Rat.intCast_sub, Rat.intCast_add]
  generalize (a.z : Rat) = az at *; generalize (b.z : Rat) = bz at *; generalize (c.z : Rat) = cz at *
  generalize (a.x : Rat) = ax; generalize (b.x : Rat) = bx; generalize (c.x : Rat) = cx
  generalize (a.y : Rat) = ay; generalize (b.y : Rat) = byy; generalize (c.y : Rat) = cy
  grind
end Go.Proofs.YtoaepibannfbdaaGreatDoor
namespace Go.Proofs.YtoaepibannfbdaaGreatDoor
open Go.RowKit Mat
set_option maxRecDepth 100000
set_option linter.unusedVariables false
set_option linter.unusedSimpArgs false
set_option maxHeartbeats 8000000 in
theorem rZSub_any (w : World) (va vb : Value) (x y : Int) (Ha : RIntV w va x) (Hb : RIntV w vb y) (la' : x.natAbs < D ^ 1000000) (lb' : y.natAbs < D ^ 1000000) :
    Calls Tryz.prog 139 #[va, vb] w (RetRInt w (x - y)) := by
  have Hla := Lib.hid la'
  have Hlb := Lib.hid lb'
  clear la' lb'
  obtain ⟨ga, sa, la, ca, rfl, ha, ma⟩ := Ha
  obtain ⟨gb, sb, lb, cb, rfl, hb, mb⟩ := Hb
  have hG : w.grownBy (((w.alloc (.cells #[.int .i64 ga, .slice sa la ca] 41)).alloc (.cells #[.int .i64 gb, .slice sb lb cb] 41)).alloc (.cells #[.int .i64 0, .slice none 0 0] 41)) none := (grown_alloc (grown_alloc (World.grownBy_alloc _ _ _) _) _)
  have Ba := heap_kept (grown_alloc (World.grownBy_alloc _ (.cells #[.int .i64 gb, .slice sb lb cb] 41) none) (.cells #[.int .i64 0, .slice none 0 0] 41)) (heap_new w (.cells #[.int .i64 ga, .slice sa la ca] 41) (w.heap.size) rfl)
  have Bb := heap_kept (World.grownBy_alloc _ (.cells #[.int .i64 0, .slice none 0 0] 41) none) (heap_new (w.alloc (.cells #[.int .i64 ga, .slice sa la ca] 41)) (.cells #[.int .i64 gb, .slice sb lb cb] 41) (w.heap.size + 1) (by simp))
  have Bq := (heap_new ((w.alloc (.cells #[.int .i64 ga, .slice sa la ca] 41)).alloc (.cells #[.int .i64 gb, .slice sb lb cb] 41)) (.cells #[.int .i64 0, .slice none 0 0] 41) (w.heap.size + 1 + 1) (by simp))
  have ra : RIntV (((w.alloc (.cells #[.int .i64 ga, .slice sa la ca] 41)).alloc (.cells #[.int .i64 gb, .slice sb lb cb] 41)).alloc (.cells #[.int .i64 0, .slice none 0 0] 41)) (.agg #[.int .i64 ga, .slice sa la ca]) (x) := ⟨ga, sa, la, ca, rfl, ha, ma.kept hG⟩
  have rb : RIntV (((w.alloc (.cells #[.int .i64 ga, .slice sa la ca] 41)).alloc (.cells #[.int .i64 gb, .slice sb lb cb] 41)).alloc (.cells #[.int .i64 0, .slice none 0 0] 41)) (.agg #[.int .i64 gb, .slice sb lb cb]) (y) := ⟨gb, sb, lb, cb, rfl, hb, mb.kept hG⟩
  have oa : RIntV w (.agg #[.int .i64 ga, .slice sa la ca]) (x) := ⟨ga, sa, la, ca, rfl, ha, ma⟩
  clear ma
  have ob : RIntV w (.agg #[.int .i64 gb, .slice sb lb cb]) (y) := ⟨gb, sb, lb, cb, rfl, hb, mb⟩
  clear mb
  go_enter Tryz.func139, Tryz.ntmps139
  have HN : Hid ((-y).natAbs < D ^ 1000000) := Lib.hid (neg_lt Hlb.out)
  have HE : Hid (x + -y = x - y) := by show _ = _; omega
  obtain ⟨Ca0, Ca1, Fa0, Fa1⟩ := box_cells Ba
  obtain ⟨Cb0, Cb1, Fb0, Fb1⟩ := box_cells Bb
  obtain ⟨Cq0, Cq1, Fq0, Fq1⟩ := box_cells Bq
  go_wp2_with fail
  generalize (((w.alloc (.cells #[.int .i64 ga, .slice sa la ca] 41)).alloc (.cells #[.int .i64 gb, .slice sb lb cb] 41)).alloc (.cells #[.int .i64 0, .slice none 0 0] 41)) = w0 at *
  go_region_held3 (fun w' => w'.cell? ⟨w.heap.size, 0, none⟩ = some (.int .i64 ga) ∧ w'.cell? ⟨w.heap.size, 1, none⟩ = some (.slice sa la ca) ∧ w'.cell? ⟨w.heap.size + 1, 0, none⟩ = some (.int .i64 gb) ∧ w'.cell? ⟨w.heap.size + 1, 1, none⟩ = some (.slice sb lb cb))
    (first | assumption | exact ⟨Ca0, Ca1, Cb0, Cb1⟩ | exact HSw1_20 | go_keep)
    (first
      | (go_at_call 115; (with_reducible refine (rNeg_any w0.drew _ y (rb.kept (grown_drew (grown_refl _ _)))).mono ?_); rintro e w1_1 ⟨vp, rfl, rp, gw1_1⟩; have hGw1_1 := grown_pre w0 gw1_1 rfl rfl rfl rfl; have hSw1_1 := (And.intro (hGw1_1.cell Ca0 (by simp)) (And.intro (hGw1_1.cell Ca1 (by simp)) (And.intro (hGw1_1.cell Cb0 (by simp)) (hGw1_1.cell Cb1 (by simp))))); clear gw1_1)
      | (go_at_call 102; (with_reducible refine (rZAdd_any w1_1 _ _ x (-y) (ra.kept hGw1_1) rp Hla.out HN.out).mono ?_); rintro e w1_2 ⟨_, rfl, ⟨gd, sd, ld, cd, rfl, hd, md⟩, gw1_2⟩; have hGw1_2 := grown_trans hGw1_1 gw1_2; replace rp := rp.kept gw1_2; have rd : RIntV w1_2 (.agg #[.int .i64 gd, .slice sd ld cd]) (x + -y) := ⟨gd, sd, ld, cd, rfl, hd, md⟩; have hSw1_2 := (And.intro (hGw1_2.cell Ca0 (by simp)) (And.intro (hGw1_2.cell Ca1 (by simp)) (And.intro (hGw1_2.cell Cb0 (by simp)) (hGw1_2.cell Cb1 (by simp))))); clear gw1_2; clear md; (obtain ⟨dq0, dq1, dq2, dq3⟩ := box_cells (heap_kept hGw1_2 Bq)); have HSw1_20 := (And.intro ((box_cells (heap_unset2 (heap_kept hGw1_2 Ba) (show w.heap.size ≠ w.heap.size + 1 + 1 by omega) (.int .i64 gd) (.slice sd ld cd))).1) (And.intro ((box_cells (heap_unset2 (heap_kept hGw1_2 Ba) (show w.heap.size ≠ w.heap.size + 1 + 1 by omega) (.int .i64 gd) (.slice sd ld cd))).2.1) (And.intro ((box_cells (heap_unset2 (heap_kept hGw1_2 Bb) (show w.heap.size + 1 ≠ w.heap.size + 1 + 1 by omega) (.int .i64 gd) (.slice sd ld cd))).1) ((box_cells (heap_unset2 (heap_kept hGw1_2 Bb) (show w.heap.size + 1 ≠ w.heap.size + 1 + 1 by omega) (.int .i64 gd) (.slice sd ld cd))).2.1))))))
  replace Ba := heap_kept hGw1_2 Ba
  replace Bb := heap_kept hGw1_2 Bb
  replace Bq := heap_kept hGw1_2 Bq
  replace ra := ra.kept hGw1_2
  replace rb := rb.kept hGw1_2
  replace hG := grown_trans hG hGw1_2
  clear Ca0 Fa0 Ca1 Fa1 Cb0 Fb0 Cb1 Fb1 Cq0 Fq0 Cq1 Fq1
  rw [← HE.out]
  obtain ⟨k90, k91, k92, k93⟩ := box_cells Bq
  obtain ⟨q90, q91, q92, q93⟩ := box_cells (heap_set2 Bq (.int .i64 gd) (.slice sd ld cd))
  have hF : Hid (RetRInt w (x + -y) (.returned (.agg #[.int .i64 gd, .slice sd ld cd])) ((w1_2.setCell ⟨w.heap.size + 1 + 1, 0, none⟩ (.int .i64 gd)).setCell ⟨w.heap.size + 1 + 1, 1, none⟩ (.slice sd ld cd))) := ret_rintv hG Bq (by omega) rd
  clear ra rb rp rd
  go_wp2_with fail
  exact bodyPost_ret (v := .agg #[.int .i64 gd, .slice sd ld cd]) (by simp [results, Tryz.results139, go_sem, q90, q91]) rfl hF.out
end Go.Proofs.YtoaepibannfbdaaGreatDoor
namespace Go.Proofs.YtoaepibannfbdaaGreatDoor
open Go.RowKit Mat Ex PM
set_option linter.unusedVariables false
set_option linter.unusedSimpArgs false
set_option maxRecDepth 100000
def RetRR (w : World) (n m : Int) (e : Ending) (w' : World) : Prop := ∃ v u, e = .returned (.tuple #[v, u]) ∧ RIntV w' v n ∧ RIntV w' u m ∧ w.grownBy w' none
theorem rHmul_any (w : World) (va vb : Value) (x y : Int) (E : Nat) (Ha : RIntV w va x) (Hb : RIntV w vb y) (hE : E ≤ 1000000) (l1 : x.natAbs < D ^ E) (l2 : y.natAbs < D ^ E) :
    Calls Tryz.prog 106 #[va, vb] w (RetRInt w (x * y)) := by
  refine exec_calls mixed Tryz.func106 [sR x, sR y] [sR (x * y)] (.cons Ha (.cons Hb .nil)) (rs := [cl 2 103 [ag 2 0, ag 2 1]]) (out := ag 2 2) (nc := 3) (by kernel_rfl)
      ⟨fun σ W g h hb => rZMul_any W _ _ _ _ (h 0 rfl) (h 1 rfl) (dp6 l1 hE) (dp6 l2 hE),
      trivial⟩ fun τ W g h => ⟨_, rfl, h 2 rfl, g⟩
theorem rHsub_any (w : World) (va vb : Value) (x y : Int) (E : Nat) (Ha : RIntV w va x) (Hb : RIntV w vb y) (hE : E ≤ 1000000) (l1 : x.natAbs < D ^ E) (l2 : y.natAbs < D ^ E) :
    Calls Tryz.prog 105 #[va, vb] w (RetRInt w (x - y)) := by
  refine exec_calls mixed Tryz.func105 [sR x, sR y] [sR (x - y)] (.cons Ha (.cons Hb .nil)) (rs := [cl 2 139 [ag 2 0, ag 2 1]]) (out := ag 2 2) (nc := 3) (by kernel_rfl)
      ⟨fun σ W g h hb => rZSub_any W _ _ _ _ (h 0 rfl) (h 1 rfl) (dp6 l1 hE) (dp6 l2 hE),
      trivial⟩ fun τ W g h => ⟨_, rfl, h 2 rfl, g⟩
theorem rHadd_any (w : World) (va vb : Value) (x y : Int) (E : Nat) (Ha : RIntV w va x) (Hb : RIntV w vb y) (hE : E ≤ 1000000) (l1 : x.natAbs < D ^ E) (l2 : y.natAbs < D ^ E) :
    Calls Tryz.prog 108 #[va, vb] w (RetRInt w (x + y)) := by
  refine exec_calls mixed Tryz.func108 [sR x, sR y] [sR (x + y)] (.cons Ha (.cons Hb .nil)) (rs := [cl 2 102 [ag 2 0, ag 2 1]]) (out := ag 2 2) (nc := 3) (by kernel_rfl)
      ⟨fun σ W g h hb => rZAdd_any W _ _ _ _ (h 0 rfl) (h 1 rfl) (dp6 l1 hE) (dp6 l2 hE),
      trivial⟩ fun τ W g h => ⟨_, rfl, h 2 rfl, g⟩
theorem rHless_any (w : World) (va vb : Value) (a b : H3) (E : Nat) (Ha : HV w va a) (Hb : HV w vb b) (hE : E ≤ 10000) (ba : HB E a) (bb : HB E b) :
    Calls Tryz.prog 104 #[va, vb] w (RetRR w (hlx a b) (hly a b)) := by
  refine exec_calls mixed Tryz.func104 [sH a, sH b] [sR (b.x * a.z), sR (a.x * b.z), sR (hlx a b), sR (b.y * a.z), sR (a.y * b.z), sR (hly a b)] (.cons Ha (.cons Hb .nil)) (rs := [cl 2 106 [ag 2 1, .v true [.an 0 4, .an 0 5]], cl 3 106 [ag 2 0, .v true [.an 1 4, .an 1 5]], cl 4 105 [ag 2 2, ag 2 3], cl 5 106 [.v true [.an 1 2, .an 1 3], .v true [.an 0 4, .an 0 5]], cl 6 106 [.v true [.an 0 2, .an 0 3], .v true [.an 1 4, .an 1 5]], cl 7 105 [ag 2 5, ag 2 6]]) (out := .tup [(true, [.an 4 0, .an 4 1]), (true, [.an 7 0, .an 7 1])]) (nc := 8) (by kernel_rfl)
      ⟨fun σ W g h hb => rHmul_any W _ _ _ _ E (h31 (h 1 rfl)) (h33 (h 0 rfl)) (by omega) bb.1 ba.2.2,
      fun σ W g h hb => rHmul_any W _ _ _ _ E (h31 (h 0 rfl)) (h33 (h 1 rfl)) (by omega) ba.1 bb.2.2,
      fun σ W g h hb => rHsub_any W _ _ _ _ (E + E) (h 2 rfl) (h 3 rfl) (by omega) (dmul_bd bb.1 ba.2.2) (dmul_bd ba.1 bb.2.2),
      fun σ W g h hb => rHmul_any W _ _ _ _ E (h32 (h 1 rfl)) (h33 (h 0 rfl)) (by omega) bb.2.1 ba.2.2,
      fun σ W g h hb => rHmul_any W _ _ _ _ E (h32 (h 0 rfl)) (h33 (h 1 rfl)) (by omega) ba.2.1 bb.2.2,
      fun σ W g h hb => rHsub_any W _ _ _ _ (E + E) (h 5 rfl) (h 6 rfl) (by omega) (dmul_bd bb.2.1 ba.2.2) (dmul_bd ba.2.1 bb.2.2),
      trivial⟩ fun τ W g h => ⟨_, _, rfl, h 4 rfl, h 7 rfl, g⟩
theorem rHTimes_any (w : World) (va vb vc : Value) (a b c : H3) (E : Nat) (Ha : HV w va a) (Hb : HV w vb b) (Hc : HV w vc c) (hE : E ≤ 10000) (ba : HB E a) (bb : HB E b) (bc : HB E c) :
    Calls Tryz.prog 63 #[va, vb, vc] w (RetRF w (hdt a b c) (hdn a b c)) := by
  have l1 := ba.less bb
  have l2 := ba.less bc
  refine exec_calls mixed Tryz.func63 [sH a, sH b, sH c] [sRR (hlx a b) (hly a b), sRR (hlx a c) (hly a c), sR (hlx a b * hlx a c), sR (hly a b * hly a c), sR (hdt a b c), sR (a.z * a.z), sR (b.z * c.z), sR (hdn a b c)] (.cons Ha (.cons Hb (.cons Hc .nil))) (rs := [cl 3 104 [ag 6 0, ag 6 1], cl 4 104 [ag 6 0, ag 6 2], cl 5 106 [ag 2 3, ag 2 4], cl 6 106 [.v true [.an 3 2, .an 3 3], .v true [.an 4 2, .an 4 3]], cl 7 108 [ag 2 5, ag 2 6], cl 8 106 [.v true [.an 0 4, .an 0 5], .v true [.an 0 4, .an 0 5]], cl 9 106 [.v true [.an 1 4, .an 1 5], .v true [.an 2 4, .an 2 5]], cl 10 106 [ag 2 8, ag 2 9]]) (out := .v true [.an 7 0, .an 7 1, .an 10 0, .an 10 1]) (nc := 11) (by kernel_rfl)
      ⟨fun σ W g h hb => toRR (rHless_any W _ _ a b E (h 0 rfl) (h 1 rfl) hE ba bb),
      fun σ W g h hb => toRR (rHless_any W _ _ a c E (h 0 rfl) (h 2 rfl) hE ba bc),
      fun σ W g h hb => rHmul_any W _ _ _ _ (E + E + 1) (rr1 (h 3 rfl)) (rr1 (h 4 rfl)) (by omega) l1.1 l2.1,
      fun σ W g h hb => rHmul_any W _ _ _ _ (E + E + 1) (rr2 (h 3 rfl)) (rr2 (h 4 rfl)) (by omega) l1.2 l2.2,
      fun σ W g h hb => rHadd_any W _ _ _ _ (E + E + 1 + (E + E + 1)) (h 5 rfl) (h 6 rfl) (by omega) (dmul_bd l1.1 l2.1) (dmul_bd l1.2 l2.2),
      fun σ W g h hb => rHmul_any W _ _ _ _ E (h33 (h 0 rfl)) (h33 (h 0 rfl)) (by omega) ba.2.2 ba.2.2,
      fun σ W g h hb => rHmul_any W _ _ _ _ E (h33 (h 1 rfl)) (h33 (h 2 rfl)) (by omega) bb.2.2 bc.2.2,
      fun σ W g h hb => rHmul_any W _ _ _ _ (E + E) (h 8 rfl) (h 9 rfl) (by omega) (dmul_bd ba.2.2 ba.2.2) (dmul_bd bb.2.2 bc.2.2),
      trivial⟩ fun τ W g h => ⟨_, rfl, mkrf (h 7 rfl) (h 10 rfl), g⟩
end Go.Proofs.YtoaepibannfbdaaGreatDoor
namespace Go.Proofs.YtoaepibannfbdaaGreatDoor
open Go.RowKit Mat Ex PM
set_option linter.unusedVariables false
set_option linter.unusedSimpArgs false
set_option maxRecDepth 100000
def sRQ (r : Rat) (E : Nat) : Sp := .of (.agg 4) (fun v W => RQ W v r E) (fun v W h => by
  obtain ⟨g, s, l, c, g', s', l', c', n, d, rfl, _⟩ := h
  exact ⟨cellf [.int .i64 g, .slice s l c, .int .i64 g', .slice s' l' c'], cellf_one (by simp [Value.oneCell']), rfl⟩) (fun v W W' k h => h.keeps k)
theorem rQMul_any (w : World) (va vb : Value) (r t : Rat) (m e : Int) (E F : Nat) (Ha : RQ w va r E) (Hb : RF w vb m e) (he : 0 < e) (ht : Rat.divInt m e = t) (hE : E + F ≤ 400000) (l3 : m.natAbs < D ^ F) (l4 : e.natAbs < D ^ F) :
    Calls Tryz.prog 59 #[va, vb] w (RetRQ w (r * t) (E + F)) := by
  obtain ⟨n, d, HA, hd, hr, ln, ld⟩ := Ha.rf
  refine (rFMul_any w va vb n d m e HA Hb (E + F) hE (dpw ln (by omega)) (dpw ld (by omega)) (dpw l3 (by omega)) (dpw l4 (by omega))).mono fun x w' ⟨v, e1, h, g⟩ => ⟨v, e1, ?_, g⟩
  exact h.rq (Int.mul_pos hd he) (rq_mul hr ht) (dmul_bd ln l3) (dmul_bd ld l4)
end Go.Proofs.YtoaepibannfbdaaGreatDoor
namespace Go.Proofs.YtoaepibannfbdaaGreatDoor
open Go.RowKit Mat Ex PM
set_option linter.unusedVariables false
set_option linter.unusedSimpArgs false
theorem hz4 {a b c d : H3} (za : 0 < a.z) (zb : 0 < b.z) (zc : 0 < c.z) (zd : 0 < d.z) : (a.z : Rat) * b.z * c.z * d.z ≠ 0 := by
  have h1 := hz za; have h2 := hz zb; have h3 := hz zc; have h4 := hz zd
  intro e
  rcases Rat.mul_eq_zero.1 e with e | e
  · rcases Rat.mul_eq_zero.1 e with e | e
    · rcases Rat.mul_eq_zero.1 e with e | e
      · exact h1 e
      · exact h2 e
    · exact h3 e
  · exact h4 e
end Go.Proofs.YtoaepibannfbdaaGreatDoor
namespace Go.Proofs.YtoaepibannfbdaaGreatDoor
open Go.RowKit Mat Ex PM
set_option linter.unusedVariables false
set_option linter.unusedSimpArgs false
set_option maxRecDepth 100000
theorem sgn_lt {z : Int} : z.sign < 0 ↔ z < 0 := by rcases zsign z with ⟨h, e⟩ | ⟨h, e⟩ | ⟨h, e⟩ <;> omega
end Go.Proofs.YtoaepibannfbdaaGreatDoor
