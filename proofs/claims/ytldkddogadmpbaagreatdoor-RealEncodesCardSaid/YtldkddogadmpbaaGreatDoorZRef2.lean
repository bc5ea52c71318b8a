/- The document's whole numbers below 0 too: of ints, texts, sums, products. -/
import Derived.Test.YtldkddogadmpbaaGreatDoorZRef
import Derived.Test.YtldkddogadmpbaaGreatDoorRefAdd
import Derived.Test.YtldkddogadmpbaaGreatDoorRefOf
import Derived.Deep.RegionHeld3
namespace Go.Proofs.YtldkddogadmpbaaGreatDoor
open Go.RowKit Mat
set_option maxRecDepth 100000
set_option linter.unusedVariables false
set_option linter.unusedSimpArgs false

theorem rof_1 (w : World) : Calls Tryz.prog 34 #[.int .u64 1] w (RetRef w 1) := rOf_any w 1 (by decide)
theorem neg_lt {y : Int} {E : Nat} (h : y.natAbs < E) : (-y).natAbs < E := by rw [Int.natAbs_neg]; exact h
theorem lt_DE {m E : Nat} (h : m < B) (hE : 5 ≤ E) : m < D ^ E :=
  Nat.lt_of_lt_of_le h (Nat.le_trans (show B ≤ D ^ 5 by unfold B D; decide) (Nat.pow_le_pow_right D_pos hE))
theorem lt_D1 {m : Nat} (h : m < B) : m < D ^ 1000000 := by
  obtain ⟨E, hE⟩ : ∃ E, E = 1000000 := ⟨_, rfl⟩
  rw [← hE]; exact lt_DE h (by omega)
theorem radd_same {x y : Int} (h : x.sign = y.sign) : (x + y).natAbs = x.natAbs + y.natAbs ∧ (x + y).sign = x.sign := by
  rcases zsign x with ⟨h1, e1⟩ | ⟨h1, e1⟩ | ⟨h1, e1⟩ <;> rcases zsign y with ⟨h2, e2⟩ | ⟨h2, e2⟩ | ⟨h2, e2⟩ <;> rcases zsign (x + y) with ⟨h3, e3⟩ | ⟨h3, e3⟩ | ⟨h3, e3⟩ <;> omega
theorem radd_ge {x y : Int} (h : x.sign ≠ y.sign) (h0 : x ≠ 0) (h9 : y ≠ 0) (hle : y.natAbs ≤ x.natAbs) : (x + y).natAbs = x.natAbs - y.natAbs ∧ (x.natAbs - y.natAbs = 0 ∨ (x + y).sign = x.sign) := by
  rcases zsign x with ⟨h1, e1⟩ | ⟨h1, e1⟩ | ⟨h1, e1⟩ <;> rcases zsign y with ⟨h2, e2⟩ | ⟨h2, e2⟩ | ⟨h2, e2⟩ <;> rcases zsign (x + y) with ⟨h3, e3⟩ | ⟨h3, e3⟩ | ⟨h3, e3⟩ <;> omega
theorem dlen {l : List Nat} {n E : Nat} (h : DecL l) (hv : dval l = n) (hn : n < D ^ E) (hE : 1 ≤ E) : l.length ≤ 4 * E :=
  dec_len h (by rw [hv, Nat.pow_mul]; exact hn) (by omega)
set_option maxHeartbeats 8000000 in
theorem rZMul_any (w : World) (va vb : Value) (x y : Int) (Ha : RIntV w va x) (Hb : RIntV w vb y) (la' : x.natAbs < D ^ 1000000) (lb' : y.natAbs < D ^ 1000000) :
    Calls Tryz.prog 63 #[va, vb] w (RetRInt w (x * y)) := by
  have Hla := Lib.hid la'
  have Hlb := Lib.hid lb'
  clear la' lb'
  obtain ⟨ga, sa, la, ca, rfl, ha, ma⟩ := Ha
  obtain ⟨gb, sb, lb, cb, rfl, hb, mb⟩ := Hb
  have hG : w.grownBy (((w.alloc (.cells #[.int .i64 ga, .slice sa la ca] 36)).alloc (.cells #[.int .i64 gb, .slice sb lb cb] 36)).alloc (.cells #[.int .i64 0, .slice none 0 0] 36)) none := (grown_alloc (grown_alloc (World.grownBy_alloc _ _ _) _) _)
  have Ba := heap_kept (grown_alloc (World.grownBy_alloc _ (.cells #[.int .i64 gb, .slice sb lb cb] 36) none) (.cells #[.int .i64 0, .slice none 0 0] 36)) (heap_new w (.cells #[.int .i64 ga, .slice sa la ca] 36) (w.heap.size) rfl)
  have Bb := heap_kept (World.grownBy_alloc _ (.cells #[.int .i64 0, .slice none 0 0] 36) none) (heap_new (w.alloc (.cells #[.int .i64 ga, .slice sa la ca] 36)) (.cells #[.int .i64 gb, .slice sb lb cb] 36) (w.heap.size + 1) (by simp))
  have Bq := (heap_new ((w.alloc (.cells #[.int .i64 ga, .slice sa la ca] 36)).alloc (.cells #[.int .i64 gb, .slice sb lb cb] 36)) (.cells #[.int .i64 0, .slice none 0 0] 36) (w.heap.size + 1 + 1) (by simp))
  have ra : RIntV (((w.alloc (.cells #[.int .i64 ga, .slice sa la ca] 36)).alloc (.cells #[.int .i64 gb, .slice sb lb cb] 36)).alloc (.cells #[.int .i64 0, .slice none 0 0] 36)) (.agg #[.int .i64 ga, .slice sa la ca]) (x) := ⟨ga, sa, la, ca, rfl, ha, ma.kept hG⟩
  have ma' : RefV (((w.alloc (.cells #[.int .i64 ga, .slice sa la ca] 36)).alloc (.cells #[.int .i64 gb, .slice sb lb cb] 36)).alloc (.cells #[.int .i64 0, .slice none 0 0] 36)) (.agg #[.slice sa la ca]) (x).natAbs := ma.kept hG
  have rb : RIntV (((w.alloc (.cells #[.int .i64 ga, .slice sa la ca] 36)).alloc (.cells #[.int .i64 gb, .slice sb lb cb] 36)).alloc (.cells #[.int .i64 0, .slice none 0 0] 36)) (.agg #[.int .i64 gb, .slice sb lb cb]) (y) := ⟨gb, sb, lb, cb, rfl, hb, mb.kept hG⟩
  have mb' : RefV (((w.alloc (.cells #[.int .i64 ga, .slice sa la ca] 36)).alloc (.cells #[.int .i64 gb, .slice sb lb cb] 36)).alloc (.cells #[.int .i64 0, .slice none 0 0] 36)) (.agg #[.slice sb lb cb]) (y).natAbs := mb.kept hG
  have oa : RIntV w (.agg #[.int .i64 ga, .slice sa la ca]) (x) := ⟨ga, sa, la, ca, rfl, ha, ma⟩
  clear ma
  have ob : RIntV w (.agg #[.int .i64 gb, .slice sb lb cb]) (y) := ⟨gb, sb, lb, cb, rfl, hb, mb⟩
  clear mb
  go_enter Tryz.func63, Tryz.ntmps63
  obtain ⟨P, hP⟩ : ∃ P, (x * y).sign = P := ⟨_, rfl⟩
  have HP : Hid ((x * y).sign = P) := hP
  have HN : Hid ((x * y).natAbs = x.natAbs * y.natAbs) := Int.natAbs_mul x y
  have hw : IntKind.i64.wrap (ga * gb) = P := by
    rw [ha.out, hb.out, ← Int.sign_mul, hP, IntKind.wrap_i64]
    have := sign_bd (x * y); rw [hP] at this; omega
  clear hP
  obtain ⟨Ca0, Ca1, Fa0, Fa1⟩ := box_cells Ba
  obtain ⟨Cb0, Cb1, Fb0, Fb1⟩ := box_cells Bb
  obtain ⟨Cq0, Cq1, Fq0, Fq1⟩ := box_cells Bq
  go_wp2_with fail
  generalize (((w.alloc (.cells #[.int .i64 ga, .slice sa la ca] 36)).alloc (.cells #[.int .i64 gb, .slice sb lb cb] 36)).alloc (.cells #[.int .i64 0, .slice none 0 0] 36)) = w0 at *
  go_region_held3 (fun w' => w'.cell? ⟨w.heap.size, 0, none⟩ = some (.int .i64 ga) ∧ w'.cell? ⟨w.heap.size, 1, none⟩ = some (.slice sa la ca) ∧ w'.cell? ⟨w.heap.size + 1, 0, none⟩ = some (.int .i64 gb) ∧ w'.cell? ⟨w.heap.size + 1, 1, none⟩ = some (.slice sb lb cb))
    (first | assumption | exact ⟨Ca0, Ca1, Cb0, Cb1⟩ | exact HSw1_20 | go_keep)
    (first
      | (go_at_call 66; (with_reducible refine (rMul_any w0.drew _ _ x.natAbs y.natAbs (ma'.kept (grown_drew (grown_refl _ _))) (mb'.kept (grown_drew (grown_refl _ _))) Hla.out Hlb.out).mono ?_); rintro e w1_1 ⟨vp, rfl, mp, gw1_1⟩; have hGw1_1 := grown_pre w0 gw1_1 rfl rfl rfl rfl; have hSw1_1 := (And.intro (hGw1_1.cell Ca0 (by simp)) (And.intro (hGw1_1.cell Ca1 (by simp)) (And.intro (hGw1_1.cell Cb0 (by simp)) (hGw1_1.cell Cb1 (by simp))))); clear gw1_1)
      | (go_at_call 21; (with_reducible refine (rMade_any w1_1 _ P (x.natAbs * y.natAbs) (x * y) mp HN.out (Or.inr HP.out)).mono ?_); rintro e w1_2 ⟨_, rfl, ⟨gd, sd, ld, cd, rfl, hd, md⟩, gw1_2⟩; have hGw1_2 := grown_trans hGw1_1 gw1_2; replace mp := mp.kept gw1_2; have rd : RIntV w1_2 (.agg #[.int .i64 gd, .slice sd ld cd]) (x * y) := ⟨gd, sd, ld, cd, rfl, hd, md⟩; have hSw1_2 := (And.intro (hGw1_2.cell Ca0 (by simp)) (And.intro (hGw1_2.cell Ca1 (by simp)) (And.intro (hGw1_2.cell Cb0 (by simp)) (hGw1_2.cell Cb1 (by simp))))); clear gw1_2; clear md; (obtain ⟨dq0, dq1, dq2, dq3⟩ := box_cells (heap_kept hGw1_2 Bq)); have HSw1_20 := (And.intro ((box_cells (heap_unset2 (heap_kept hGw1_2 Ba) (show w.heap.size ≠ w.heap.size + 1 + 1 by omega) (.int .i64 gd) (.slice sd ld cd))).1) (And.intro ((box_cells (heap_unset2 (heap_kept hGw1_2 Ba) (show w.heap.size ≠ w.heap.size + 1 + 1 by omega) (.int .i64 gd) (.slice sd ld cd))).2.1) (And.intro ((box_cells (heap_unset2 (heap_kept hGw1_2 Bb) (show w.heap.size + 1 ≠ w.heap.size + 1 + 1 by omega) (.int .i64 gd) (.slice sd ld cd))).1) ((box_cells (heap_unset2 (heap_kept hGw1_2 Bb) (show w.heap.size + 1 ≠ w.heap.size + 1 + 1 by omega) (.int .i64 gd) (.slice sd ld cd))).2.1))))))
  replace Ba := heap_kept hGw1_2 Ba
  replace Bb := heap_kept hGw1_2 Bb
  replace Bq := heap_kept hGw1_2 Bq
  replace ra := ra.kept hGw1_2
  replace ma' := ma'.kept hGw1_2
  replace rb := rb.kept hGw1_2
  replace mb' := mb'.kept hGw1_2
  replace hG := grown_trans hG hGw1_2
  clear Ca0 Fa0 Ca1 Fa1 Cb0 Fb0 Cb1 Fb1 Cq0 Fq0 Cq1 Fq1
  obtain ⟨k90, k91, k92, k93⟩ := box_cells Bq
  obtain ⟨q90, q91, q92, q93⟩ := box_cells (heap_set2 Bq (.int .i64 gd) (.slice sd ld cd))
  have hF : Hid (RetRInt w (x * y) (.returned (.agg #[.int .i64 gd, .slice sd ld cd])) ((w1_2.setCell ⟨w.heap.size + 1 + 1, 0, none⟩ (.int .i64 gd)).setCell ⟨w.heap.size + 1 + 1, 1, none⟩ (.slice sd ld cd))) := ret_rintv hG Bq (by omega) rd
  clear ra ma' rb mb' mp rd
  go_wp2_with fail
  exact bodyPost_ret (v := .agg #[.int .i64 gd, .slice sd ld cd]) (by simp [results, Tryz.results63, go_sem, q90, q91]) rfl hF.out
set_option maxHeartbeats 4000000 in
theorem rZOf_any (w : World) (n : Int) (h1 : -9223372036854775808 ≤ n) (h2 : n ≤ 9223372036854775807) :
    Calls Tryz.prog 19 #[.int .i64 n] w (RetRInt w n) := by
  by_cases hn : n < 0
  · skip
    have f1 : decide (n < 0) = true := decide_eq_true hn
    obtain ⟨m, hm⟩ : ∃ m : Nat, n = -(m : Int) - 1 := ⟨(-(n + 1)).toNat, by omega⟩
    obtain ⟨k1, hk1⟩ : ∃ k, IntKind.i64.wrap (n + 1) = k := ⟨_, rfl⟩
    obtain ⟨k2, hk2⟩ : ∃ k, IntKind.i64.wrap (-k1) = k := ⟨_, rfl⟩
    have hk3 : IntKind.u64.wrap k2 = (m : Int) := by rw [IntKind.wrap_i64] at hk1 hk2; rw [IntKind.wrap_u64]; omega
    have HM : Hid (m < B) := by show m < B; unfold B; omega
    have HB1 : Hid (m < D ^ 1000000) := Lib.hid (lt_D1 HM.out)
    have HB2 : Hid (1 < D ^ 1000000) := Lib.hid (lt_D1 (show 1 < B by unfold B; omega))
    have HN : Hid (n.natAbs = m + 1) := by show _ = _; omega
    have HSG : Hid (n.sign = -1) := Int.sign_eq_neg_one_of_neg hn
    clear hm h1 h2 hn
    have hG : w.grownBy (w.alloc (.cells #[.int .i64 0, .slice none 0 0] 36)) none := (World.grownBy_alloc _ _ _)
    have Bq := (heap_new w (.cells #[.int .i64 0, .slice none 0 0] 36) (w.heap.size) rfl)
    go_enter Tryz.func19, Tryz.ntmps19
    obtain ⟨Cq0, Cq1, Fq0, Fq1⟩ := box_cells Bq
    go_wp2_with fail
    generalize (w.alloc (.cells #[.int .i64 0, .slice none 0 0] 36)) = w0 at *
    clear Cq0 Fq0 Cq1 Fq1
    refine (rOf_any w0 m HM.out).mono ?_
    rintro e w1 ⟨vp, rfl, mp, gw1⟩
    replace Bq := heap_kept gw1 Bq
    replace hG := grown_trans hG gw1
    clear gw1
    obtain ⟨Cq0, Cq1, Fq0, Fq1⟩ := box_cells Bq
    go_wp2_with fail
    clear Cq0 Fq0 Cq1 Fq1
    refine (rof_1 w1).mono ?_
    rintro e w2 ⟨vo, rfl, mo, gw2⟩
    replace Bq := heap_kept gw2 Bq
    replace mp := mp.kept gw2
    replace hG := grown_trans hG gw2
    clear gw2
    obtain ⟨Cq0, Cq1, Fq0, Fq1⟩ := box_cells Bq
    go_wp2_with fail
    clear Cq0 Fq0 Cq1 Fq1
    refine (rAdd_any w2 _ _ m 1 mp mo HB1.out HB2.out).mono ?_
    rintro e w3 ⟨vs, rfl, ms, gw3⟩
    replace Bq := heap_kept gw3 Bq
    replace mp := mp.kept gw3
    replace mo := mo.kept gw3
    replace hG := grown_trans hG gw3
    clear gw3
    obtain ⟨Cq0, Cq1, Fq0, Fq1⟩ := box_cells Bq
    go_wp2_with fail
    clear Cq0 Fq0 Cq1 Fq1
    refine (rMade_any w3 _ (-1) (m + 1) n ms HN.out (Or.inr HSG.out)).mono ?_
    rintro e w4 ⟨_, rfl, ⟨gd, sd, ld, cd, rfl, hd, md⟩, gw4⟩
    have rd : RIntV w4 (.agg #[.int .i64 gd, .slice sd ld cd]) (n) := ⟨gd, sd, ld, cd, rfl, hd, md⟩
    replace Bq := heap_kept gw4 Bq
    replace mp := mp.kept gw4
    replace mo := mo.kept gw4
    replace ms := ms.kept gw4
    replace hG := grown_trans hG gw4
    clear gw4
    clear md
    obtain ⟨Cq0, Cq1, Fq0, Fq1⟩ := box_cells Bq
    clear Cq0 Fq0 Cq1 Fq1
    obtain ⟨k90, k91, k92, k93⟩ := box_cells Bq
    obtain ⟨q90, q91, q92, q93⟩ := box_cells (heap_set2 Bq (.int .i64 gd) (.slice sd ld cd))
    have hF : Hid (RetRInt w (n) (.returned (.agg #[.int .i64 gd, .slice sd ld cd])) ((w4.setCell ⟨w.heap.size, 0, none⟩ (.int .i64 gd)).setCell ⟨w.heap.size, 1, none⟩ (.slice sd ld cd))) := ret_rintv hG Bq (by omega) rd
    clear mp mo ms rd
    go_wp2_with fail
    exact bodyPost_ret (v := .agg #[.int .i64 gd, .slice sd ld cd]) (by simp [results, Tryz.results19, go_sem, q90, q91]) rfl hF.out
  · skip
    have f1 : decide (n < 0) = false := decide_eq_false hn
    obtain ⟨m, hm⟩ : ∃ m : Nat, n = (m : Int) := ⟨n.toNat, by omega⟩
    have hk3 : IntKind.u64.wrap n = (m : Int) := by rw [IntKind.wrap_u64]; omega
    have HM : Hid (m < B) := by show m < B; unfold B; omega
    have HN : Hid (n.natAbs = m) := by show _ = _; omega
    have HSG : Hid (m = 0 ∨ n.sign = 1) := by
      show _ ∨ _
      rcases zsign n with ⟨h, e⟩ | ⟨h, e⟩ | ⟨h, e⟩
      · omega
      · left; omega
      · right; exact e
    clear hm h1 h2 hn
    have hG : w.grownBy (w.alloc (.cells #[.int .i64 0, .slice none 0 0] 36)) none := (World.grownBy_alloc _ _ _)
    have Bq := (heap_new w (.cells #[.int .i64 0, .slice none 0 0] 36) (w.heap.size) rfl)
    go_enter Tryz.func19, Tryz.ntmps19
    obtain ⟨Cq0, Cq1, Fq0, Fq1⟩ := box_cells Bq
    go_wp2_with fail
    generalize (w.alloc (.cells #[.int .i64 0, .slice none 0 0] 36)) = w0 at *
    clear Cq0 Fq0 Cq1 Fq1
    refine (rOf_any w0 m HM.out).mono ?_
    rintro e w1 ⟨vp, rfl, mp, gw1⟩
    replace Bq := heap_kept gw1 Bq
    replace hG := grown_trans hG gw1
    clear gw1
    obtain ⟨Cq0, Cq1, Fq0, Fq1⟩ := box_cells Bq
    go_wp2_with fail
    clear Cq0 Fq0 Cq1 Fq1
    refine (rMade_any w1 _ 1 m n mp HN.out HSG.out).mono ?_
    rintro e w2 ⟨_, rfl, ⟨gd, sd, ld, cd, rfl, hd, md⟩, gw2⟩
    have rd : RIntV w2 (.agg #[.int .i64 gd, .slice sd ld cd]) (n) := ⟨gd, sd, ld, cd, rfl, hd, md⟩
    replace Bq := heap_kept gw2 Bq
    replace mp := mp.kept gw2
    replace hG := grown_trans hG gw2
    clear gw2
    clear md
    obtain ⟨Cq0, Cq1, Fq0, Fq1⟩ := box_cells Bq
    clear Cq0 Fq0 Cq1 Fq1
    obtain ⟨k90, k91, k92, k93⟩ := box_cells Bq
    obtain ⟨q90, q91, q92, q93⟩ := box_cells (heap_set2 Bq (.int .i64 gd) (.slice sd ld cd))
    have hF : Hid (RetRInt w (n) (.returned (.agg #[.int .i64 gd, .slice sd ld cd])) ((w2.setCell ⟨w.heap.size, 0, none⟩ (.int .i64 gd)).setCell ⟨w.heap.size, 1, none⟩ (.slice sd ld cd))) := ret_rintv hG Bq (by omega) rd
    clear mp rd
    go_wp2_with fail
    exact bodyPost_ret (v := .agg #[.int .i64 gd, .slice sd ld cd]) (by simp [results, Tryz.results19, go_sem, q90, q91]) rfl hF.out
def RetZText (w : World) (z : Int) (e : Ending) (w' : World) : Prop := ∃ s, e = .returned (.string s) ∧ ZTextOf s z ∧ w.grownBy w' none
end Go.Proofs.YtldkddogadmpbaaGreatDoor
