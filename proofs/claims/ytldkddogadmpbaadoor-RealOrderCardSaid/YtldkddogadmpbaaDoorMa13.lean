/- What the laws lean on, part 13. -/
import Derived.Deep.RegionHeld3
import Derived.Test.YtldkddogadmpbaaDoorRows
import Derived.WalkKit
import Derived.ProofKit
import Derived.OpenShut
import Derived.Deep.DeepHandedRow
import Derived.Shelf.Spec.TrailingZeros
import Derived.Test.YtldkddogadmpbaaDoorMa12
import Derived.Test.YtldkddogadmpbaaDoorMa9
import Derived.Test.YtldkddogadmpbaaDoorMa8
import Derived.Test.YtldkddogadmpbaaDoorMa5
import Derived.Test.YtldkddogadmpbaaDoorMa11
namespace Go.Proofs.YtldkddogadmpbaaDoor
open Go.RowKit Mat
set_option maxRecDepth 100000
set_option linter.unusedVariables false
set_option linter.unusedSimpArgs false
theorem rtext_any (w : World) (va : Value) (a : Nat) (ha : RefV w va a) (ba : a < D ^ 1000000) :
    Calls Tryd.prog 60 #[va] w (RetText w a) := by
  rcases Nat.eq_zero_or_pos a with h | h
  · subst h; exact rText_zero w va ha
  · exact rText_some w va a ha h ba
theorem rof_1 (w : World) : Calls Tryd.prog 28 #[.int .u64 1] w (RetRef w 1) := rOf_any w 1 (by decide)
theorem neg_lt {y : Int} {E : Nat} (h : y.natAbs < E) : (-y).natAbs < E := by rw [Int.natAbs_neg]; exact h
theorem lt_DE {m E : Nat} (h : m < B) (hE : 5 ≤ E) : m < D ^ E :=
  Nat.lt_of_lt_of_le h (Nat.le_trans (show B ≤ D ^ 5 by unfold B D; decide) (Nat.pow_le_pow_right D_pos hE))
theorem lt_D1 {m : Nat} (h : m < B) : m < D ^ 1000000 := by
  obtain ⟨E, hE⟩ : ∃ E, E = 1000000 := ⟨_, rfl⟩
  rw [← hE]; exact lt_DE h (by omega)
theorem radd_same {x y : Int} (h : x.sign = y.sign) : (x + y).natAbs = x.natAbs + y.natAbs ∧ (x + y).sign = x.sign := by
  rcases zsign x with ⟨h1, e1⟩ | ⟨h1, e1⟩ | ⟨h1, e1⟩ <;> rcases zsign y with ⟨h2, e2⟩ | ⟨h2, e2⟩ | ⟨h2, e2⟩ <;> rcases zsign (x + y) with ⟨h3, e3⟩ | ⟨h3, e3⟩ | ⟨h3, e3⟩ <;> omega
theorem radd_ge {x y : Int} (h : x.sign ≠ y.sign) (h0 : x ≠ 0) (h9 : y ≠ 0) (hle : y.natAbs ≤ x.natAbs) : (x + y).natAbs = x.natAbs - y.natAbs ∧ (x.natAbs - y.natAbs = 0 ∨ (x + y).sign = x.sign) := by
  rcases zsign x with ⟨h1, e1⟩ | ⟨h1, e1⟩ | ⟨h1, e1⟩ <;> rcases zsign y with ⟨h2, e2⟩ | ⟨h2, e2⟩ | ⟨h2, e2⟩ <;> rcases zsign (x + y) with ⟨h3, e3⟩ | ⟨h3, e3⟩ | ⟨h3, e3⟩ <;> omega
theorem dlen {l : List Nat} {n E : Nat} (h : DecL l) (hv : dval l = n) (hn : n < D ^ E) (hE : 1 ≤ E) : l.length ≤ 4 * E :=
  dec_len h (by rw [hv, Nat.pow_mul]; exact hn) (by omega)
set_option maxHeartbeats 8000000 in
theorem rZMul_any (w : World) (va vb : Value) (x y : Int) (Ha : RIntV w va x) (Hb : RIntV w vb y) (la' : x.natAbs < D ^ 1000000) (lb' : y.natAbs < D ^ 1000000) :
    Calls Tryd.prog 44 #[va, vb] w (RetRInt w (x * y)) := by
  have Hla := Lib.hid la'
  have Hlb := Lib.hid lb'
  clear la' lb'
  obtain ⟨ga, sa, la, ca, rfl, ha, ma⟩ := Ha
  obtain ⟨gb, sb, lb, cb, rfl, hb, mb⟩ := Hb
  have hG : w.grownBy (((w.alloc (.cells #[.int .i64 ga, .slice sa la ca] 38)).alloc (.cells #[.int .i64 gb, .slice sb lb cb] 38)).alloc (.cells #[.int .i64 0, .slice none 0 0] 38)) none := (grown_alloc (grown_alloc (World.grownBy_alloc _ _ _) _) _)
  have Ba := heap_kept (grown_alloc (World.grownBy_alloc _ (.cells #[.int .i64 gb, .slice sb lb cb] 38) none) (.cells #[.int .i64 0, .slice none 0 0] 38)) (heap_new w (.cells #[.int .i64 ga, .slice sa la ca] 38) (w.heap.size) rfl)
  have Bb := heap_kept (World.grownBy_alloc _ (.cells #[.int .i64 0, .slice none 0 0] 38) none) (heap_new (w.alloc (.cells #[.int .i64 ga, .slice sa la ca] 38)) (.cells #[.int .i64 gb, .slice sb lb cb] 38) (w.heap.size + 1) (by simp))
  have Bq := (heap_new ((w.alloc (.cells #[.int .i64 ga, .slice sa la ca] 38)).alloc (.cells #[.int .i64 gb, .slice sb lb cb] 38)) (.cells #[.int .i64 0, .slice none 0 0] 38) (w.heap.size + 1 + 1) (by simp))
  have ra : RIntV (((w.alloc (.cells #[.int .i64 ga, .slice sa la ca] 38)).alloc (.cells #[.int .i64 gb, .slice sb lb cb] 38)).alloc (.cells #[.int .i64 0, .slice none 0 0] 38)) (.agg #[.int .i64 ga, .slice sa la ca]) (x) := ⟨ga, sa, la, ca, rfl, ha, ma.kept hG⟩
  have ma' : RefV (((w.alloc (.cells #[.int .i64 ga, .slice sa la ca] 38)).alloc (.cells #[.int .i64 gb, .slice sb lb cb] 38)).alloc (.cells #[.int .i64 0, .slice none 0 0] 38)) (.agg #[.slice sa la ca]) (x).natAbs := ma.kept hG
  have rb : RIntV (((w.alloc (.cells #[.int .i64 ga, .slice sa la ca] 38)).alloc (.cells #[.int .i64 gb, .slice sb lb cb] 38)).alloc (.cells #[.int .i64 0, .slice none 0 0] 38)) (.agg #[.int .i64 gb, .slice sb lb cb]) (y) := ⟨gb, sb, lb, cb, rfl, hb, mb.kept hG⟩
  have mb' : RefV (((w.alloc (.cells #[.int .i64 ga, .slice sa la ca] 38)).alloc (.cells #[.int .i64 gb, .slice sb lb cb] 38)).alloc (.cells #[.int .i64 0, .slice none 0 0] 38)) (.agg #[.slice sb lb cb]) (y).natAbs := mb.kept hG
  have oa : RIntV w (.agg #[.int .i64 ga, .slice sa la ca]) (x) := ⟨ga, sa, la, ca, rfl, ha, ma⟩
  clear ma
  have ob : RIntV w (.agg #[.int .i64 gb, .slice sb lb cb]) (y) := ⟨gb, sb, lb, cb, rfl, hb, mb⟩
  clear mb
  go_enter Tryd.func44, Tryd.ntmps44
  obtain ⟨P, hP⟩ : ∃ P, (x * y).sign = P := ⟨_, rfl⟩
  have HP : Hid ((x * y).sign = P) := hP
  have HN : Hid ((x * y).natAbs = x.natAbs * y.natAbs) := Int.natAbs_mul x y
  have hw : IntKind.i64.wrap (ga * gb) = P := by
    rw [ha.out, hb.out, ← Int.sign_mul, hP, IntKind.wrap_i64]
    have := sign_bd (x * y); rw [hP] at this; omega
  clear hP
  obtain ⟨Ca0, Ca1, Fa0, Fa1⟩ := box_cells Ba
  obtain ⟨Cb0, Cb1, Fb0, Fb1⟩ := box_cells Bb
  obtain ⟨Cq0, Cq1, Fq0, Fq1⟩ := box_cells Bq
  go_wp2_with fail
  generalize (((w.alloc (.cells #[.int .i64 ga, .slice sa la ca] 38)).alloc (.cells #[.int .i64 gb, .slice sb lb cb] 38)).alloc (.cells #[.int .i64 0, .slice none 0 0] 38)) = w0 at *
  go_region_held3 (fun w' => w'.cell? ⟨w.heap.size, 0, none⟩ = some (.int .i64 ga) ∧ w'.cell? ⟨w.heap.size, 1, none⟩ = some (.slice sa la ca) ∧ w'.cell? ⟨w.heap.size + 1, 0, none⟩ = some (.int .i64 gb) ∧ w'.cell? ⟨w.heap.size + 1, 1, none⟩ = some (.slice sb lb cb))
    (first | assumption | exact ⟨Ca0, Ca1, Cb0, Cb1⟩ | exact HSw1_20 | go_keep)
    (first
      | (go_at_call 70; (with_reducible refine (rMul_any w0.drew _ _ x.natAbs y.natAbs (ma'.kept (grown_drew (grown_refl _ _))) (mb'.kept (grown_drew (grown_refl _ _))) Hla.out Hlb.out).mono ?_); rintro e w1_1 ⟨vp, rfl, mp, gw1_1⟩; have hGw1_1 := grown_pre w0 gw1_1 rfl rfl rfl rfl; have hSw1_1 := (And.intro (hGw1_1.cell Ca0 (by simp)) (And.intro (hGw1_1.cell Ca1 (by simp)) (And.intro (hGw1_1.cell Cb0 (by simp)) (hGw1_1.cell Cb1 (by simp))))); clear gw1_1)
      | (go_at_call 27; (with_reducible refine (rMade_any w1_1 _ P (x.natAbs * y.natAbs) (x * y) mp HN.out (Or.inr HP.out)).mono ?_); rintro e w1_2 ⟨_, rfl, ⟨gd, sd, ld, cd, rfl, hd, md⟩, gw1_2⟩; have hGw1_2 := grown_trans hGw1_1 gw1_2; replace mp := mp.kept gw1_2; have rd : RIntV w1_2 (.agg #[.int .i64 gd, .slice sd ld cd]) (x * y) := ⟨gd, sd, ld, cd, rfl, hd, md⟩; have hSw1_2 := (And.intro (hGw1_2.cell Ca0 (by simp)) (And.intro (hGw1_2.cell Ca1 (by simp)) (And.intro (hGw1_2.cell Cb0 (by simp)) (hGw1_2.cell Cb1 (by simp))))); clear gw1_2; clear md; (obtain ⟨dq0, dq1, dq2, dq3⟩ := box_cells (heap_kept hGw1_2 Bq)); have HSw1_20 := (And.intro ((box_cells (heap_unset2 (heap_kept hGw1_2 Ba) (show w.heap.size ≠ w.heap.size + 1 + 1 by omega) (.int .i64 gd) (.slice sd ld cd))).1) (And.intro ((box_cells (heap_unset2 (heap_kept hGw1_2 Ba) (show w.heap.size ≠ w.heap.size + 1 + 1 by omega) (.int .i64 gd) (.slice sd ld cd))).2.1) (And.intro ((box_cells (heap_unset2 (heap_kept hGw1_2 Bb) (show w.heap.size + 1 ≠ w.heap.size + 1 + 1 by omega) (.int .i64 gd) (.slice sd ld cd))).1) ((box_cells (heap_unset2 (heap_kept hGw1_2 Bb) (show w.heap.size + 1 ≠ w.heap.size + 1 + 1 by omega) (.int .i64 gd) (.slice sd ld cd))).2.1))))))
  replace Ba := heap_kept hGw1_2 Ba
  replace Bb := heap_kept hGw1_2 Bb
  replace Bq := heap_kept hGw1_2 Bq
  replace ra := ra.kept hGw1_2
  replace ma' := ma'.kept hGw1_2
  replace rb := rb.kept hGw1_2
  replace mb' := mb'.kept hGw1_2
  replace hG := grown_trans hG hGw1_2
  clear Ca0 Fa0 Ca1 Fa1 Cb0 Fb0 Cb1 Fb1 Cq0 Fq0 Cq1 Fq1
  obtain ⟨k90, k91, k92, k93⟩ := box_cells Bq
  obtain ⟨q90, q91, q92, q93⟩ := box_cells (heap_set2 Bq (.int .i64 gd) (.slice sd ld cd))
  have hF : Hid (RetRInt w (x * y) (.returned (.agg #[.int .i64 gd, .slice sd ld cd])) ((w1_2.setCell ⟨w.heap.size + 1 + 1, 0, none⟩ (.int .i64 gd)).setCell ⟨w.heap.size + 1 + 1, 1, none⟩ (.slice sd ld cd))) := ret_rintv hG Bq (by omega) rd
  clear ra ma' rb mb' mp rd
  go_wp2_with fail
  exact bodyPost_ret (v := .agg #[.int .i64 gd, .slice sd ld cd]) (by simp [results, Tryd.results44, go_sem, q90, q91]) rfl hF.out
set_option maxHeartbeats 4000000 in
theorem rZOf_any (w : World) (n : Int) (h1 : -9223372036854775808 ≤ n) (h2 : n ≤ 9223372036854775807) :
    Calls Tryd.prog 29 #[.int .i64 n] w (RetRInt w n) := by
  by_cases hn : n < 0
  · skip
    have f1 : decide (n < 0) = true := decide_eq_true hn
    obtain ⟨m, hm⟩ : ∃ m : Nat, n = -(m : Int) - 1 := ⟨(-(n + 1)).toNat, by omega⟩
    obtain ⟨k1, hk1⟩ : ∃ k, IntKind.i64.wrap (n + 1) = k := ⟨_, rfl⟩
    obtain ⟨k2, hk2⟩ : ∃ k, IntKind.i64.wrap (-k1) = k := ⟨_, rfl⟩
    have hk3 : IntKind.u64.wrap k2 = (m : Int) := by rw [IntKind.wrap_i64] at hk1 hk2; rw [IntKind.wrap_u64]; omega
    have HM : Hid (m < B) := by show m < B; unfold B; omega
    have HB1 : Hid (m < D ^ 1000000) := Lib.hid (lt_D1 HM.out)
    have HB2 : Hid (1 < D ^ 1000000) := Lib.hid (lt_D1 (show 1 < B by unfold B; omega))
    have HN : Hid (n.natAbs = m + 1) := by show _ = _; omega
    have HSG : Hid (n.sign = -1) := Int.sign_eq_neg_one_of_neg hn
    clear hm h1 h2 hn
    have hG : w.grownBy (w.alloc (.cells #[.int .i64 0, .slice none 0 0] 38)) none := (World.grownBy_alloc _ _ _)
    have Bq := (heap_new w (.cells #[.int .i64 0, .slice none 0 0] 38) (w.heap.size) rfl)
    go_enter Tryd.func29, Tryd.ntmps29
    obtain ⟨Cq0, Cq1, Fq0, Fq1⟩ := box_cells Bq
    go_wp2_with fail
    generalize (w.alloc (.cells #[.int .i64 0, .slice none 0 0] 38)) = w0 at *
    clear Cq0 Fq0 Cq1 Fq1
    refine (rOf_any w0 m HM.out).mono ?_
    rintro e w1 ⟨vp, rfl, mp, gw1⟩
    replace Bq := heap_kept gw1 Bq
    replace hG := grown_trans hG gw1
    clear gw1
    obtain ⟨Cq0, Cq1, Fq0, Fq1⟩ := box_cells Bq
    go_wp2_with fail
    clear Cq0 Fq0 Cq1 Fq1
    refine (rof_1 w1).mono ?_
    rintro e w2 ⟨vo, rfl, mo, gw2⟩
    replace Bq := heap_kept gw2 Bq
    replace mp := mp.kept gw2
    replace hG := grown_trans hG gw2
    clear gw2
    obtain ⟨Cq0, Cq1, Fq0, Fq1⟩ := box_cells Bq
    go_wp2_with fail
    clear Cq0 Fq0 Cq1 Fq1
    refine (rAdd_any w2 _ _ m 1 mp mo HB1.out HB2.out).mono ?_
    rintro e w3 ⟨vs, rfl, ms, gw3⟩
    replace Bq := heap_kept gw3 Bq
    replace mp := mp.kept gw3
    replace mo := mo.kept gw3
    replace hG := grown_trans hG gw3
    clear gw3
    obtain ⟨Cq0, Cq1, Fq0, Fq1⟩ := box_cells Bq
    go_wp2_with fail
    clear Cq0 Fq0 Cq1 Fq1
    refine (rMade_any w3 _ (-1) (m + 1) n ms HN.out (Or.inr HSG.out)).mono ?_
    rintro e w4 ⟨_, rfl, ⟨gd, sd, ld, cd, rfl, hd, md⟩, gw4⟩
    have rd : RIntV w4 (.agg #[.int .i64 gd, .slice sd ld cd]) (n) := ⟨gd, sd, ld, cd, rfl, hd, md⟩
    replace Bq := heap_kept gw4 Bq
    replace mp := mp.kept gw4
    replace mo := mo.kept gw4
    replace ms := ms.kept gw4
    replace hG := grown_trans hG gw4
    clear gw4
    clear md
    obtain ⟨Cq0, Cq1, Fq0, Fq1⟩ := box_cells Bq
    clear Cq0 Fq0 Cq1 Fq1
    obtain ⟨k90, k91, k92, k93⟩ := box_cells Bq
    obtain ⟨q90, q91, q92, q93⟩ := box_cells (heap_set2 Bq (.int .i64 gd) (.slice sd ld cd))
    have hF : Hid (RetRInt w (n) (.returned (.agg #[.int .i64 gd, .slice sd ld cd])) ((w4.setCell ⟨w.heap.size, 0, none⟩ (.int .i64 gd)).setCell ⟨w.heap.size, 1, none⟩ (.slice sd ld cd))) := ret_rintv hG Bq (by omega) rd
    clear mp mo ms rd
    go_wp2_with fail
    exact bodyPost_ret (v := .agg #[.int .i64 gd, .slice sd ld cd]) (by simp [results, Tryd.results29, go_sem, q90, q91]) rfl hF.out
  · skip
    have f1 : decide (n < 0) = false := decide_eq_false hn
    obtain ⟨m, hm⟩ : ∃ m : Nat, n = (m : Int) := ⟨n.toNat, by omega⟩
    have hk3 : IntKind.u64.wrap n = (m : Int) := by rw [IntKind.wrap_u64]; omega
    have HM : Hid (m < B) := by show m < B; unfold B; omega
    have HN : Hid (n.natAbs = m) := by show _ = _; omega
    have HSG : Hid (m = 0 ∨ n.sign = 1) := by
      show _ ∨ _
      rcases zsign n with ⟨h, e⟩ | ⟨h, e⟩ | ⟨h, e⟩
      · omega
      · left; omega
      · right; exact e
    clear hm h1 h2 hn
    have hG : w.grownBy (w.alloc (.cells #[.int .i64 0, .slice none 0 0] 38)) none := (World.grownBy_alloc _ _ _)
    have Bq := (heap_new w (.cells #[.int .i64 0, .slice none 0 0] 38) (w.heap.size) rfl)
    go_enter Tryd.func29, Tryd.ntmps29
    obtain ⟨Cq0, Cq1, Fq0, Fq1⟩ := box_cells Bq
    go_wp2_with fail
    generalize (w.alloc (.cells #[.int .i64 0, .slice none 0 0] 38)) = w0 at *
    clear Cq0 Fq0 Cq1 Fq1
    refine (rOf_any w0 m HM.out).mono ?_
    rintro e w1 ⟨vp, rfl, mp, gw1⟩
    replace Bq := heap_kept gw1 Bq
    replace hG := grown_trans hG gw1
    clear gw1
    obtain ⟨Cq0, Cq1, Fq0, Fq1⟩ := box_cells Bq
    go_wp2_with fail
    clear Cq0 Fq0 Cq1 Fq1
    refine (rMade_any w1 _ 1 m n mp HN.out HSG.out).mono ?_
    rintro e w2 ⟨_, rfl, ⟨gd, sd, ld, cd, rfl, hd, md⟩, gw2⟩
    have rd : RIntV w2 (.agg #[.int .i64 gd, .slice sd ld cd]) (n) := ⟨gd, sd, ld, cd, rfl, hd, md⟩
    replace Bq := heap_kept gw2 Bq
    replace mp := mp.kept gw2
    replace hG := grown_trans hG gw2
    clear gw2
    clear md
    obtain ⟨Cq0, Cq1, Fq0, Fq1⟩ := box_cells Bq
    clear Cq0 Fq0 Cq1 Fq1
    obtain ⟨k90, k91, k92, k93⟩ := box_cells Bq
    obtain ⟨q90, q91, q92, q93⟩ := box_cells (heap_set2 Bq (.int .i64 gd) (.slice sd ld cd))
    have hF : Hid (RetRInt w (n) (.returned (.agg #[.int .i64 gd, .slice sd ld cd])) ((w2.setCell ⟨w.heap.size, 0, none⟩ (.int .i64 gd)).setCell ⟨w.heap.size, 1, none⟩ (.slice sd ld cd))) := ret_rintv hG Bq (by omega) rd
    clear mp rd
    go_wp2_with fail
    exact bodyPost_ret (v := .agg #[.int .i64 gd, .slice sd ld cd]) (by simp [results, Tryd.results29, go_sem, q90, q91]) rfl hF.out
def RetZText (w : World) (z : Int) (e : Ending) (w' : World) : Prop := ∃ s, e = .returned (.string s) ∧ ZTextOf s z ∧ w.grownBy w' none
set_option maxHeartbeats 4000000 in
theorem rZText_any (w : World) (va : Value) (x : Int) (Ha : RIntV w va x) (la' : x.natAbs < D ^ 1000000) :
    Calls Tryd.prog 35 #[va] w (RetZText w x) := by
  have Hla := Lib.hid la'
  clear la'
  obtain ⟨ga, sa, la, ca, rfl, ha, ma⟩ := Ha
  have hG : w.grownBy (w.alloc (.cells #[.int .i64 ga, .slice sa la ca] 38)) none := (World.grownBy_alloc _ _ _)
  have Ba := (heap_new w (.cells #[.int .i64 ga, .slice sa la ca] 38) (w.heap.size) rfl)
  have ra : RIntV (w.alloc (.cells #[.int .i64 ga, .slice sa la ca] 38)) (.agg #[.int .i64 ga, .slice sa la ca]) (x) := ⟨ga, sa, la, ca, rfl, ha, ma.kept hG⟩
  have ma' : RefV (w.alloc (.cells #[.int .i64 ga, .slice sa la ca] 38)) (.agg #[.slice sa la ca]) (x).natAbs := ma.kept hG
  have oa : RIntV w (.agg #[.int .i64 ga, .slice sa la ca]) (x) := ⟨ga, sa, la, ca, rfl, ha, ma⟩
  clear ma
  go_enter Tryd.func35, Tryd.ntmps35
  have hc : (decide (ga < 0) = true ∧ Hid (x < 0)) ∨ (decide (ga < 0) = false ∧ Hid (¬ x < 0)) := by
    have ea := ha.out
    rcases zsign x with ⟨h, e⟩ | ⟨h, e⟩ | ⟨h, e⟩
    · left; exact ⟨decide_eq_true (by omega), h⟩
    · right; exact ⟨decide_eq_false (by omega), by show ¬ _; omega⟩
    · right; exact ⟨decide_eq_false (by omega), by show ¬ _; omega⟩
  rcases hc with ⟨f1, HZ⟩ | ⟨f1, HZ⟩
  · skip
    obtain ⟨Ca0, Ca1, Fa0, Fa1⟩ := box_cells Ba
    go_wp2_with fail
    generalize (w.alloc (.cells #[.int .i64 ga, .slice sa la ca] 38)) = w0 at *
    clear Ca0 Fa0 Ca1 Fa1
    refine (rtext_any w0 _ x.natAbs ma' Hla.out).mono ?_
    rintro e w1 ⟨s, rfl, hd, hdv, gw1⟩
    replace Ba := heap_kept gw1 Ba
    replace ra := ra.kept gw1
    replace ma' := ma'.kept gw1
    replace hG := grown_trans hG gw1
    clear gw1
    obtain ⟨Ca0, Ca1, Fa0, Fa1⟩ := box_cells Ba
    have hsz : s.size ≤ 4000000 := by
      rw [← bts_len]
      exact dlen hd hdv Hla.out (by omega)
    have hF : Hid (ZTextOf ({ data := #[45] } ++ s) x) := ⟨bts s, hd, hdv, by rw [bts_app, if_pos HZ.out]; rfl⟩
    clear hd hdv
    go_wp2_with fail
    go_ret
    exact ⟨_, rfl, hF.out, hG⟩
  · skip
    obtain ⟨Ca0, Ca1, Fa0, Fa1⟩ := box_cells Ba
    go_wp2_with fail
    generalize (w.alloc (.cells #[.int .i64 ga, .slice sa la ca] 38)) = w0 at *
    clear Ca0 Fa0 Ca1 Fa1
    refine (rtext_any w0 _ x.natAbs ma' Hla.out).mono ?_
    rintro e w1 ⟨s, rfl, hd, hdv, gw1⟩
    replace Ba := heap_kept gw1 Ba
    replace ra := ra.kept gw1
    replace ma' := ma'.kept gw1
    replace hG := grown_trans hG gw1
    clear gw1
    obtain ⟨Ca0, Ca1, Fa0, Fa1⟩ := box_cells Ba
    have hF : Hid (ZTextOf s x) := ⟨bts s, hd, hdv, by rw [if_neg (by have := HZ.out; omega)]⟩
    clear hd hdv
    go_wp2_with fail
    go_ret
    exact ⟨_, rfl, hF.out, hG⟩
end Go.Proofs.YtldkddogadmpbaaDoor
namespace Go.Proofs.YtldkddogadmpbaaDoor
open Go.ChangeShapes Go.WideShapes Go.ChangeAt Go.RowKit Go.ChangeMaps Mat
set_option maxRecDepth 100000
set_option linter.unusedVariables false
set_option linter.unusedSimpArgs false
theorem law_own : ownKnob Tryd.prog.godebug = none := by kernel_rfl
theorem zadd_bd {x y : Int} {k : Nat} (h1 : x.natAbs < B ^ k) (h2 : y.natAbs < B ^ k) : (x + y).natAbs < B ^ (k + 1) := Nat.lt_of_le_of_lt (Int.natAbs_add_le x y) (badd h1 h2)
theorem zneg_bd {x : Int} {k : Nat} (h1 : x.natAbs < B ^ k) : (-x).natAbs < B ^ k := by rw [Int.natAbs_neg]; exact h1
theorem zsub_bd {x y : Int} {k : Nat} (h1 : x.natAbs < B ^ k) (h2 : y.natAbs < B ^ k) : (x - y).natAbs < B ^ (k + 1) := by
  rw [Int.sub_eq_add_neg]; exact zadd_bd h1 (zneg_bd h2)
theorem zmul_bd {x y : Int} {k m : Nat} (h1 : x.natAbs < B ^ k) (h2 : y.natAbs < B ^ m) : (x * y).natAbs < B ^ (k + m) := by
  rw [Int.natAbs_mul]; exact bmul h1 h2
theorem zval_bd (s : ByteArray) {n k : Nat} (h : s.size ≤ n) (hk : n ≤ 19 * k) : (zval s).natAbs < B ^ k := by
  unfold zval
  split
  · next hc =>
    have hok : zok (bts s) = true := by
      cases e : zok (bts s)
      · unfold zcod at hc
        rw [e] at hc
        split at hc
        · cases hc
        · simp at hc
      · rfl
    have hd := ((zok_iff _).1 hok).1
    have hl : (zdig (bts s)).length ≤ n := by
      unfold zdig
      split
      · rw [List.length_tail, bts_len]; omega
      · rw [bts_len]; exact h
    have hb := dval_bdE hd (Nat.le_trans hl hk)
    unfold znum
    split
    · rw [Int.natAbs_neg, Int.natAbs_natCast]; exact hb
    · rw [Int.natAbs_natCast]; exact hb
  · exact Nat.pow_pos B_pos
theorem zcmp_eq {x y : Int} (h : x = y) : zcmp x y = 0 := by unfold zcmp; rw [if_neg (by omega), if_pos h]
theorem zcmp_add (x y c : Int) : zcmp (x + c) (y + c) = zcmp x y := by
  unfold zcmp
  rcases Int.lt_trichotomy x y with h | h | h
  · rw [if_pos (by omega), if_pos h]
  · rw [if_neg (by omega), if_pos (by omega), if_neg (by omega), if_pos h]
  · rw [if_neg (by omega), if_neg (by omega), if_neg (by omega), if_neg (by omega)]
theorem zcmp_sub (x y : Int) : (x - y).sign = zcmp x y := by
  unfold zcmp
  rcases Int.lt_trichotomy x y with h | h | h
  · rw [if_pos h]; exact Int.sign_eq_neg_one_of_neg (by omega)
  · rw [if_neg (by omega), if_pos h, show x - y = 0 by omega]; rfl
  · rw [if_neg (by omega), if_neg (by omega)]; exact Int.sign_eq_one_of_pos (by omega)
theorem zcmp_swap (x y : Int) : zcmp y x = -zcmp x y := by
  rw [← zcmp_sub, ← zcmp_sub, ← Int.sign_neg, Int.neg_sub]
theorem zcmp_mul (x y c : Int) : zcmp (x * c) (y * c) = zcmp x y * c.sign := by
  rw [← zcmp_sub, ← zcmp_sub, ← Int.sub_mul, Int.sign_mul]
theorem zcmp_bd (x y : Int) : -1 ≤ zcmp x y ∧ zcmp x y ≤ 1 := by rw [← zcmp_sub]; exact sign_bd _
theorem kept_of_grown {W W' : World} (h : W.grownBy W' none) : W.keptBut W' (fun _ => False) := by
  refine ⟨h.os, h.output, fun i hi => ?_⟩
  rw [h.block i hi (by simp)]
  cases W.heap[i]? with
  | none => rfl
  | some o => cases o <;> simp
theorem post_plain {H : Type} {enc : TypeId × Value → H} {P : Program} {f : Func} {s : ChangeSpec} {apart fresh handsOn again : Bool} {W W' : World} {args : Array Value} {v : Value} {ds gs : List (DataW H)}
    (hW : DataW.Whole enc P f.params.toList s.vars apart W args.toList ds gs [])
    (hres : ∀ (b : Nat) (sp : Nat → Bool) (hd : Bool), DataW.TrodAll enc P W' b sp hd f.resultTypes.toList (v.resultList f.resultTypes.size) (s.fn H (ds ++ gs)).results [])
    (hargs : ∀ sp : Nat → Bool, DataW.TrodAll enc P W' 0 sp true f.params.toList args.toList (s.fn H (ds ++ gs)).args [])
    (hvars : ∀ sp : Nat → Bool, DataW.TrodVars enc P W' sp s.vars (s.fn H (ds ++ gs)).vars [])
    (hg : W.grownBy W' none)
    (hok : ∀ (j : Nat) (t : TypeId) (r : Value), f.resultTypes[j]? = some t → (v.resultList f.resultTypes.size)[j]? = some r → Value.okWide P W' .any 0 t r) :
    s.post enc P f apart fresh handsOn again W args v W' := by
  refine ⟨ds, gs, [], [], [], [], hW, hres _ _ _, hargs _, hvars _, World.keptBut_mono (fun p hp => hp.elim) (kept_of_grown hg), fun _ => ?_⟩
  refine ⟨hok, _, _, [], ⟨[], [], trodAll_append (hargs _) (hres _ _ _), hvars _, rfl, ?_, ?_⟩, ?_⟩
  · intro b off hp; simp at hp
  · intro _; simp
  · intro p hp; simp at hp
end Go.Proofs.YtldkddogadmpbaaDoor
namespace Go.Proofs.YtldkddogadmpbaaDoor
open Go.RowKit Mat
set_option maxRecDepth 100000
set_option linter.unusedVariables false
set_option linter.unusedSimpArgs false
theorem run_field (v : Value) (W : World) : (Instr.field 26 (.agg #[v]) 0).run Tryd.prog W = .ok v W := by kernel_rfl
def Tab (w : World) : Prop := TabAt 2 Lib.deBruijn64tab w
theorem Tab.kept {w w' : World} {row : Option Nat} (h : Tab w) (hg : w.grownBy w' row) (hr : some 2 ≠ row) : Tab w' := fun j hj => hg.cell (h j hj) hr
theorem Tab.size {w : World} (h : Tab w) : 2 < w.heap.size := by
  have := h 0 (by decide)
  unfold World.cell? at this
  rcases Nat.lt_or_ge 2 w.heap.size with h1 | h1
  · exact h1
  · rw [Array.getElem?_eq_none h1] at this; simp at this
set_option maxHeartbeats 1000000 in
theorem tz_core (x k idx : Nat) (w : World) (hx0 : ((x : Int) == 0) = false)
    (key : IntKind.u64.wrap (bits BinOp.and IntKind.u64 (x : Int) (IntKind.u64.wrap (-(x : Int))) * 285870213051353865) / 288230376151711744 = (idx : Int))
    (hi : idx < 64) (hk : k < 64) (hcell : w.cell? ⟨2, idx, none⟩ = some (.int .u8 k)) :
    Calls Tryd.prog 99 #[.int .u64 x] w fun e w' => e = .returned (.int .i64 k) ∧ w' = w := by
  go_enter Tryd.func99, Tryd.ntmps99
  go_wp2_with (simp only [key])
  go_ret
  exact ⟨rfl, rfl⟩
theorem tz_any (x : Nat) (hx : x < B) (h0 : x ≠ 0) (w : World) (hT : Tab w) :
    Calls Tryd.prog 99 #[.int .u64 x] w fun e w' => e = .returned (.int .i64 (Lib.ctz 64 x)) ∧ w' = w := by
  have hx' : x < 18446744073709551616 := hx
  obtain ⟨hlow, hk⟩ := Lib.lowest_bit 64 x h0 hx'
  obtain ⟨hi, htab⟩ := Lib.deBruijn64_at _ hk
  have hcell := hT _ hi
  rw [htab] at hcell
  exact tz_core x _ _ w (by simp; omega) (tz64_key x _ hx' h0 hlow) hi hk hcell
theorem ctz_spec (x : Nat) (hx : x < B) (h0 : x ≠ 0) : ∃ m, x = 2 ^ Lib.ctz 64 x * (2 * m + 1) ∧ Lib.ctz 64 x < 64 := by
  have hx' : x < 2 ^ 64 := hx
  have := Lib.ctzFrom_spec 64 x (by omega) hx'
  unfold Lib.ctz
  rw [if_neg h0]
  exact this
theorem twos_spec {xs : List Nat} (dx : Dig B xs) (k x : Nat) (hk : k < xs.length) (ex : xs[k] = x) (h0 : val B (xs.take k) = 0) (hx : x ≠ 0) : ∃ m, val B xs = 2 ^ (k * 64 + Lib.ctz 64 x) * (2 * m + 1) ∧ Lib.ctz 64 x < 64 := by
  have hxB : x < B := ex ▸ dx.get k _
  obtain ⟨m, hm, ht⟩ := ctz_spec x hxB hx
  generalize Lib.ctz 64 x = t at *
  have h1 := val_split B xs k (by omega)
  rw [h0, Nat.zero_add, List.drop_eq_getElem_cons hk, ex] at h1
  have h2 : val B (x :: xs.drop (k + 1)) = x + B * val B (xs.drop (k + 1)) := rfl
  rw [h2] at h1
  obtain ⟨d, hd⟩ : ∃ d, 64 = t + (d + 1) := ⟨63 - t, by omega⟩
  have hB : B = 2 ^ t * (2 ^ d * 2) := by rw [← Nat.pow_succ, ← Nat.pow_add, ← hd, ← B_pow]
  have hBk : B ^ k = 2 ^ (k * 64) := by rw [B_pow, ← Nat.pow_mul, Nat.mul_comm]
  refine ⟨m + 2 ^ d * val B (xs.drop (k + 1)), ?_, ht⟩
  rw [h1, hBk, Nat.pow_add, Nat.mul_assoc]
  congr 1
  rw [hB]
  generalize val B (xs.drop (k + 1)) = r
  rw [hm]
  generalize 2 ^ t = a
  generalize 2 ^ d = b
  grind
def TwosOf (w : World) (v : Nat) (n : Nat) (e : Ending) (w' : World) : Prop := ∃ t m : Nat, e = .returned (.int .i64 (t : Int)) ∧ v = 2 ^ t * (2 * m + 1) ∧ t < 64 * n ∧ w = w'
set_option maxHeartbeats 1000000 in
theorem twos_any (w : World) (sa : Option Addr) (n cap : Nat) (xs : List Nat) (hn : xs.length = n) (hx : Rdo w sa xs) (dx : Dig B xs) (h0 : 0 < val B xs) (bn : n ≤ 1073741824) (hT : Tab w) :
    Calls Tryd.prog 90 #[.slice sa n cap] w (TwosOf w (val B xs) n) := by
  have Hn := Lib.hid hn
  have H0 := Lib.hid h0
  have HT := Lib.hid hT
  have hn0 : 0 < n := by
    rw [← hn]
    rcases Nat.eq_zero_or_pos xs.length with h | h
    · rw [List.length_eq_zero_iff.1 h] at h0; simp [val] at h0
    · exact h
  clear hn h0 hT
  go_enter Tryd.func90, Tryd.ntmps90
  go_wp2_with fail
  go_loopw [3] (fun i wr => ∃ (k : Nat), k < n ∧ i = .int .i64 k ∧ w = wr ∧ Hid (val B (xs.take k) = 0)) (fun i _ => n - (intOf i).toNat)
  case atStart => exact ⟨0, hn0, rfl, rfl, by show _ = _; rw [List.take_zero]; rfl⟩
  case round =>
    obtain ⟨k, hk, rfl, rfl, hv⟩ := hrel
    obtain ⟨b1, o1, rfl, c1⟩ := hx.cell (by rw [Hn.out]; omega)
    have c1 := c1 k (by rw [Hn.out]; omega)
    obtain ⟨x, ex⟩ : ∃ x, xs[k]'(by rw [Hn.out]; omega) = x := ⟨_, rfl⟩
    rw [ex] at c1
    have hxB : x < B := ex ▸ dx.get k _
    have EX := Lib.hid ex
    clear ex
    by_cases hz : x = 0
    · subst hz
      have hv2 : val B (xs.take (k + 1)) = 0 := by rw [val_take_succ B xs k (by rw [Hn.out]; omega), EX.out, hv.out]; omega
      have hk2 : k + 1 < n := by
        rcases Nat.lt_or_ge (k + 1) n with h | h
        · exact h
        · have := H0.out
          rw [List.take_of_length_le (by rw [Hn.out]; omega)] at hv2
          omega
      have HV2 := Lib.hid hv2
      clear hv2
      go_wp2_with fail
      go_roundw
      case rel => exact ⟨k + 1, by omega, by go_num, by trivial, HV2⟩
      case measure => simp [intOf]; omega
    · have t : ((x : Int) == 0) = false := beq_eq_false_iff_ne.2 (by omega)
      obtain ⟨m, hm, ht⟩ := twos_spec dx k x (by rw [Hn.out]; omega) EX.out hv.out hz
      obtain ⟨q, hq⟩ : ∃ q, Lib.ctz 64 x = q := ⟨_, rfl⟩
      have hC := tz_any x hxB hz w HT.out
      rw [hq] at hm ht hC
      have HC := Lib.hid hC
      have HM := Lib.hid hm
      clear hC hm hq hxB hz
      go_wp2_with fail
      refine HC.out.mono ?_
      rintro e w' ⟨rfl, rfl⟩
      go_wp2_with fail
      go_ret
      exact ⟨k * 64 + q, m, congrArg Ending.returned (congrArg (Value.int IntKind.i64) (by omega)), HM.out, by omega, rfl⟩
theorem odd_step {x y t m : Nat} (hy : y % 2 = 1) (hxy : y < x) (h : x - y = 2 ^ t * (2 * m + 1)) : Nat.gcd (2 * m + 1) y = Nat.gcd x y := by
  have h1 : Nat.gcd x y = Nat.gcd (x - y) y := (Nat.gcd_sub_self_left (Nat.le_of_lt hxy)).symm
  rw [h1, h]
  have hc : Nat.Coprime (2 ^ t) y := by
    apply Nat.Coprime.pow_left
    rw [Nat.coprime_comm]
    unfold Nat.Coprime
    rw [Nat.gcd_comm, Nat.gcd_rec, hy]
    rfl
  rw [Nat.Coprime.gcd_mul_left_cancel _ hc]
set_option maxHeartbeats 1000000 in
theorem oddWordGcd_any (w : World) (x0 y0 : Nat) (hx : x0 < B) (hy : y0 < B) (ox : x0 % 2 = 1) (oy : y0 % 2 = 1) (hT : Tab w) :
    Calls Tryd.prog 101 #[.int .u64 x0, .int .u64 y0] w fun e w' => e = .returned (.int .u64 (Nat.gcd x0 y0 : Int)) ∧ w = w' := by
  have HT := Lib.hid hT
  clear hT
  obtain ⟨g, hg⟩ : ∃ g, Nat.gcd x0 y0 = g := ⟨_, rfl⟩
  rw [hg]
  have HG := Lib.hid hg
  clear hg
  go_enter Tryd.func101, Tryd.ntmps101
  go_wp2_with fail
  go_loopw [0, 1] (fun a b wr => ∃ (x y : Nat), a = .int .u64 x ∧ b = .int .u64 y ∧ x < B ∧ y < B ∧ x % 2 = 1 ∧ y % 2 = 1 ∧ w = wr ∧ Hid (Nat.gcd x y = g)) (fun a b _ => (intOf a).toNat + (intOf b).toNat)
  case atStart => exact ⟨x0, y0, rfl, rfl, hx, hy, ox, oy, rfl, HG⟩
  case round =>
    obtain ⟨x, y, rfl, rfl, hxB, hyB, ox, oy, rfl, hg⟩ := hrel
    rcases Nat.lt_trichotomy y x with h | h | h
    · have f1 : ((x : Int) == (y : Int)) = false := beq_eq_false_iff_ne.2 (by omega)
      have f2 : decide (x < y) = false := decide_eq_false (by omega)
      have f3 : IntKind.u64.wrap ((x : Int) - (y : Int)) = ((x - y : Nat) : Int) := by rw [IntKind.wrap_u64]; unfold B at *; omega
      obtain ⟨d, hd⟩ : ∃ d, x - y = d := ⟨_, rfl⟩
      rw [hd] at f3
      have hC := tz_any d (by omega) (by omega) w HT.out
      obtain ⟨m, hm, hq64⟩ := ctz_spec d (by omega) (by omega)
      obtain ⟨q, hq⟩ : ∃ q, Lib.ctz 64 d = q := ⟨_, rfl⟩
      rw [hq] at hm hC hq64
      have HC := Lib.hid hC
      have HM := Lib.hid hm
      have HD := Lib.hid hd
      have HX := Lib.hid h
      clear hC hm hd h
      go_wp2_with fail
      refine HC.out.mono ?_
      rintro e w' ⟨rfl, rfl⟩
      go_wp2_with fail
      have hgc : Hid (Nat.gcd (2 * m + 1) y = g) := by show _ = _; rw [odd_step oy HX.out (HD.out.trans HM.out)]; exact hg.out
      have hdv : d / 2 ^ q = 2 * m + 1 := by rw [HM.out]; exact Nat.mul_div_cancel_left _ (Nat.two_pow_pos q)
      have hle : 2 * m + 1 ≤ d := by rw [HM.out]; exact Nat.le_mul_of_pos_left _ (Nat.two_pow_pos q)
      have hdx : d < x := by have := HD.out; omega
      have hdi : (d : Int) / 2 ^ q = ((2 * m + 1 : Nat) : Int) := by rw [← hdv]; norm_cast
      go_roundw
      case rel =>
        refine ⟨2 * m + 1, y, ?_, rfl, by omega, hyB, by omega, oy, by trivial, hgc⟩
        rw [hdi]
      case measure =>
        rw [hdi]
        simp only [intOf]
        omega
    · subst h
      have f1 : ((y : Int) == (y : Int)) = true := beq_self_eq_true _
      rw [Nat.gcd_self] at hg
      have HG2 := hg.out
      subst HG2
      go_wp2_with fail
      go_ret
      exact ⟨rfl, rfl⟩
    · have f1 : ((x : Int) == (y : Int)) = false := beq_eq_false_iff_ne.2 (by omega)
      have f2 : decide (x < y) = true := decide_eq_true (by omega)
      have f3 : IntKind.u64.wrap ((y : Int) - (x : Int)) = ((y - x : Nat) : Int) := by rw [IntKind.wrap_u64]; unfold B at *; omega
      obtain ⟨d, hd⟩ : ∃ d, y - x = d := ⟨_, rfl⟩
      rw [hd] at f3
      have hC := tz_any d (by omega) (by omega) w HT.out
      obtain ⟨m, hm, hq64⟩ := ctz_spec d (by omega) (by omega)
      obtain ⟨q, hq⟩ : ∃ q, Lib.ctz 64 d = q := ⟨_, rfl⟩
      rw [hq] at hm hC hq64
      have HC := Lib.hid hC
      have HM := Lib.hid hm
      have HD := Lib.hid hd
      have HX := Lib.hid h
      clear hC hm hd h
      go_wp2_with fail
      refine HC.out.mono ?_
      rintro e w' ⟨rfl, rfl⟩
      go_wp2_with fail
      have hgc : Hid (Nat.gcd (2 * m + 1) x = g) := by show _ = _; rw [odd_step ox HX.out (HD.out.trans HM.out), Nat.gcd_comm]; exact hg.out
      have hdv : d / 2 ^ q = 2 * m + 1 := by rw [HM.out]; exact Nat.mul_div_cancel_left _ (Nat.two_pow_pos q)
      have hle : 2 * m + 1 ≤ d := by rw [HM.out]; exact Nat.le_mul_of_pos_left _ (Nat.two_pow_pos q)
      have hdx : d < y := by have := HD.out; omega
      have hdi : (d : Int) / 2 ^ q = ((2 * m + 1 : Nat) : Int) := by rw [← hdv]; norm_cast
      go_roundw
      case rel =>
        refine ⟨2 * m + 1, x, ?_, rfl, by omega, hxB, by omega, ox, by trivial, hgc⟩
        rw [hdi]
      case measure =>
        rw [hdi]
        simp only [intOf]
        omega
end Go.Proofs.YtldkddogadmpbaaDoor
namespace Go.Proofs.YtldkddogadmpbaaDoor
open Go.RowKit Mat
set_option maxRecDepth 100000
set_option linter.unusedVariables false
set_option linter.unusedSimpArgs false
structure OddIn (N : Nat) (w : World) (b n : Nat) (xs : List Nat) (cs : Array Value) : Prop where
  lo : N ≤ b
  blk : Blk w b cs
  lies : At cs 0 xs
  len : Hid (xs.length = n)
  top : Top xs
  dig : Dig B xs
  odd : Hid (val B xs % 2 = 1)
  bnd : n ≤ 1073741824
theorem OddIn.lm {N : Nat} {w : World} {b n : Nat} {xs : List Nat} {cs : Array Value} (h : OddIn N w b n xs cs) : Lm w (some ⟨b, 0, none⟩) xs :=
  ⟨Rdo.of h.blk h.lies, by intro e; have := h.odd.out; rw [e] at this; simp [val] at this, h.top, h.dig⟩
theorem OddIn.pos {N : Nat} {w : World} {b n : Nat} {xs : List Nat} {cs : Array Value} (h : OddIn N w b n xs cs) : 0 < n := by
  have := h.odd.out
  rw [← h.len.out]
  rcases Nat.eq_zero_or_pos xs.length with e | e
  · rw [List.length_eq_zero_iff.1 e] at this; simp [val] at this
  · exact e
theorem OddIn.kept {N : Nat} {w w' : World} {b n : Nat} {xs : List Nat} {cs : Array Value} {row : Option Nat} (h : OddIn N w b n xs cs) (hg : w.grownBy w' row) (hr : some b ≠ row) : OddIn N w' b n xs cs :=
  ⟨h.lo, h.blk.kept hg hr, h.lies, h.len, h.top, h.dig, h.odd, h.bnd⟩
theorem OddIn.size {N : Nat} {w : World} {b n : Nat} {xs : List Nat} {cs : Array Value} (h : OddIn N w b n xs cs) : N ≤ w.heap.size := Nat.le_trans h.lo (Nat.le_of_lt h.blk.lt)
theorem Tab.below {N : Nat} {w w' : World} (h : Tab w) (hb : Below N w w') (hN : 2 < N) : Tab w' := by
  intro j hj
  have := h j hj
  unfold World.cell? at *
  rw [hb.block 2 hN]
  exact this
theorem OddIn.one {N : Nat} {w : World} {b : Nat} {xs : List Nat} {cs : Array Value} (h : OddIn N w b 1 xs cs) : ∃ x, val B xs = x ∧ w.cell? ⟨b, 0, none⟩ = some (.int .u64 (x : Int)) ∧ x < B ∧ x % 2 = 1 := by
  obtain ⟨x, rfl⟩ := List.length_eq_one_iff.1 h.len.out
  have e : val B [x] = x := by simp [val]
  refine ⟨x, e, ?_, h.dig x (by simp), by have := h.odd.out; rw [e] at this; exact this⟩
  have := h.blk.at h.lies 0 (by simp)
  simpa using this
theorem pos_take {zs : List Nat} {k : Nat} {v : Nat} (h : val B (zs.take k) = v) (h0 : 0 < v) : 0 < k := by
  rcases Nat.eq_zero_or_pos k with e | e
  · rw [e, List.take_zero] at h; simp [val] at h; omega
  · exact e
theorem one_lies (g : Nat) : At #[.int .u64 (g : Int)] 0 [g] := fun i hi => by
  obtain rfl : i = 0 := by simpa using hi
  rfl
def RetOdd (N : Nat) (w : World) (g n : Nat) (e : Ending) (w' : World) : Prop :=
  ∃ (s : Option Addr) (k : Nat) (zs : List Nat), e = .returned (.slice s k k) ∧ zs.length = k ∧ k ≤ n ∧ Rdo w' s zs ∧ Dig B zs ∧ val B zs = g ∧ Below N w w'
set_option maxHeartbeats 4000000 in
theorem oddGcd_any (w : World) (N px nx : Nat) (xs : List Nat) (cx : Array Value) (py ny : Nat) (ys : List Nat) (cy : Array Value) (hx : OddIn N w px nx xs cx) (hy : OddIn N w py ny ys cy) (hne : px ≠ py) (hN : 2 < N) (hT : Tab w) (M : Nat) (hMx : nx ≤ M) (hMy : ny ≤ M) :
    Calls Tryd.prog 91 #[.slice (some ⟨px, 0, none⟩) nx nx, .slice (some ⟨py, 0, none⟩) ny ny] w (RetOdd N w (Nat.gcd (val B xs) (val B ys)) M) := by
  have HT := Lib.hid hT
  obtain ⟨g, hg⟩ : ∃ g, Nat.gcd (val B xs) (val B ys) = g := ⟨_, rfl⟩
  rw [hg]
  have HG := Lib.hid hg
  have hNs := hx.size
  clear hg hT
  go_enter Tryd.func91, Tryd.ntmps91
  go_wp2_with fail
  go_loopg [0, 1] (val B xs + val B ys) (fun gh a b wr => ∃ (px nx : Nat) (xs : List Nat) (cx : Array Value) (py ny : Nat) (ys : List Nat) (cy : Array Value), a = .slice (some ⟨px, 0, none⟩) nx nx ∧ b = .slice (some ⟨py, 0, none⟩) ny ny ∧ OddIn N wr px nx xs cx ∧ OddIn N wr py ny ys cy ∧ px ≠ py ∧ nx ≤ M ∧ ny ≤ M ∧ Hid (Nat.gcd (val B xs) (val B ys) = g) ∧ Below N w wr ∧ Hid (val B xs + val B ys ≤ gh))
  case atStart => exact ⟨px, nx, xs, cx, py, ny, ys, cy, rfl, rfl, hx, hy, hne, hMx, hMy, HG, Below.refl _ _, Nat.le_refl _⟩
  case round =>
    clear hx hy hne HG hMx hMy
    obtain ⟨px, nx, xs, cx, py, ny, ys, cy, rfl, rfl, hx, hy, hne, hMx, hMy, hg, hb, hgh⟩ := hrel
    have hxp := hx.pos
    have hyp := hy.pos
    by_cases h1 : nx = 1 ∧ ny = 1
    · obtain ⟨rfl, rfl⟩ := h1
      obtain ⟨x, e1, c1, hxB, ox⟩ := hx.one
      obtain ⟨y, e2, c2, hyB, oy⟩ := hy.one
      rw [e1, e2] at hg
      have hTW : Hid (∀ W, wr.grownBy W none → Tab W) := fun W hW => (HT.out.below hb hN).kept hW (by simp)
      have hBW : Hid (∀ W, wr.grownBy W none → Below N w W) := fun W hW => hb.trans (below_none hW hx.size)
      clear hx hy hb
      go_wp2_with fail
      go_region_held3 (fun w' => w'.cell? ⟨px, 0, none⟩ = some (.int .u64 (x : Int)) ∧ w'.cell? ⟨py, 0, none⟩ = some (.int .u64 (y : Int)))
        (first | go_keep)
        (first | (go_at_call 101; (with_reducible refine (oddWordGcd_any wr.drew x y hxB hyB ox oy (hTW.out _ (grown_drew (grown_refl _ _)))).mono ?_); rintro e w' ⟨rfl, rfl⟩))
      go_wp2_with fail
      go_ret
      have hox : 0 < x := by omega
      have hgxB : Nat.gcd x y < B := Nat.lt_of_le_of_lt (Nat.gcd_le_left y hox) hxB
      exact ⟨_, 1, [Nat.gcd x y], rfl, rfl, hMx, Rdo.of (Blk.drew (blk_alloc _ _)) (one_lies _), Dig.cons hgxB (Dig.nil _), by simp [val]; exact hg.out, hBW.out _ (grown_drew (World.grownBy_alloc _ _ _))⟩
    · have hh : decide ((1 : Int) < (nx : Int)) = true ∨ (decide ((1 : Int) < (nx : Int)) = false ∧ decide ((1 : Int) < (ny : Int)) = true) := by
        by_cases h2 : 1 < nx
        · exact Or.inl (decide_eq_true (by omega))
        · exact Or.inr ⟨decide_eq_false (by omega), decide_eq_true (by omega)⟩
      clear h1
      rcases hh with f1 | ⟨f1, f2⟩
      all_goals
        rcases Nat.lt_trichotomy (val B ys) (val B xs) with h | h | h
        · have hmin : val B ys < val B xs := h
          have t2 : cmpInt (val B xs) (val B ys) = 1 := cmpInt_gt hmin
          have T2 := Lib.hid t2
          have HM := Lib.hid hmin
          have hyl : ny ≤ nx := by have := len_le_of hy.lm hx.lm (Nat.le_of_lt hmin); rw [hy.len.out, hx.len.out] at this; exact this
          clear t2 hmin h
          go_wp2_with fail
          refine (compare_at _ _ _ nx ny xs ys hx.len.out hy.len.out hx.lm hy.lm (by have := hx.bnd; omega) (by have := hy.bnd; omega)).mono ?_
          rintro e w' ⟨rfl, q, rfl⟩
          rw [T2.out]
          have hx1 := hx.kept (grown_drewN wr q none) (by simp)
          have hy1 := hy.kept (grown_drewN wr q none) (by simp)
          have hb1 := hb.trans (below_none (grown_drewN wr q none) (Nat.le_trans hNs hb.size))
          generalize wr.drewN q = w1 at *
          clear hx hy hb
          go_wp2_with fail
          refine (takeFrom_at w1 px 0 nx nx xs cx (some ⟨py, 0, none⟩) ny ny ys hx1.len.out hy1.len.out hx1.blk hx1.lies (Or.inr ⟨py, 0, cy, rfl, Ne.symm hne, hy1.blk, hy1.lies⟩) hyl (by have := hx1.bnd; omega) hx1.dig hy1.dig (Nat.le_of_lt HM.out)).mono ?_
          rintro e w2 ⟨zs, cs2, rfl, hk2, hw2, hg2, hl2, hd2, hv2⟩
          have hy2 := hy1.kept hg2 (by simp; omega)
          have hb2 := hb1.trans (below_row hg2 hx1.lo hx1.size)
          have hlo := hx1.lo
          have hbx := hx1.bnd
          have hsz2 := hy2.size
          have hln2 : zs.length = nx := hl2.trans hx1.len.out
          have HL2 := Lib.hid hln2
          have hev : Hid (val B zs % 2 = 0 ∧ 0 < val B zs ∧ val B zs = val B xs - val B ys) := by
            have h3 := hx1.odd.out; have h4 := hy1.odd.out; have h5 := HM.out
            refine ⟨?_, ?_, ?_⟩ <;> omega
          have HOY := hy1.odd
          clear hg2 hl2 hln2 hv2 hb1 hx1 hy1
          go_wp2_with fail
          refine (cut_at w2 (some ⟨px, 0, none⟩) nx nx zs HL2.out (Rdo.of hk2 hw2.lies) (by omega) (Nat.le_refl _)).mono ?_
          rintro e w3 ⟨k, hk, rfl, ht3, hv3, rfl⟩
          have hkp : 0 < k := pos_take hv3 hev.out.2.1
          rw [Sa_pos hkp]
          have hlk : (zs.take k).length = k := by rw [List.length_take]; omega
          have HLK := Lib.hid hlk
          have hkn : k ≤ nx := by rw [HL2.out] at hk; exact hk
          have hat3 := hw2.lies.take k
          have hd3 := hd2.take k
          have HV3 := Lib.hid hv3
          have hT2 := HT.out.below hb2 hN
          clear hv3 hk hlk
          go_wp2_with fail
          refine (twos_any w2 _ k k (zs.take k) HLK.out (Rdo.of hk2 hat3) hd3 (by rw [HV3.out]; exact hev.out.2.1) (by omega) hT2).mono ?_
          rintro e w3 ⟨tt, mm, rfl, hf3, htt, rfl⟩
          have HF3 := Lib.hid hf3
          clear hf3
          go_wp2_with fail
          refine (lower_any w2 px 0 k k (zs.take k) cs2 tt HLK.out hk2 hat3 hd3 (Nat.le_refl _) (by omega) (by omega)).mono ?_
          rintro e w4 ⟨s4, m4, cap4, cs4, zs4, rfl, hm4, hl4, hlx4, hd4, hv4, hs4, _, hk4, hat4, hg4⟩
          have hv4' : val B zs4 = 2 * mm + 1 := by rw [hv4, HF3.out]; exact Nat.mul_div_cancel_left _ (Nat.two_pow_pos tt)
          have hp4 : 0 < m4 := by
            rcases Nat.eq_zero_or_pos m4 with e | e
            · rw [List.length_eq_zero_iff.1 (hl4.trans e)] at hv4'; simp [val] at hv4'
            · exact e
          obtain rfl := hs4 hp4
          have hy4 := hy2.kept hg4 (by simp; omega)
          have hb4 := hb2.trans (below_row hg4 hlo hsz2)
          have hm4k : m4 ≤ k := by rw [HLK.out] at hlx4; exact hlx4
          have HL4 := Lib.hid hl4
          have HV4 := Lib.hid hv4'
          clear hv4 hv4' hl4 hs4 hg4 hy2 hb2 hlx4 hk2 hw2 hd2 hat3 hd3 hT2
          go_wp2_with fail
          refine (cut_at w4 (some ⟨px, 0, none⟩) m4 cap4 zs4 HL4.out (Rdo.of hk4 hat4) (by omega) hm4).mono ?_
          rintro e w5 ⟨k5, hk5, rfl, ht5, hv5, rfl⟩
          have hkp5 : 0 < k5 := pos_take hv5 (by rw [HV4.out]; omega)
          rw [Sa_pos hkp5]
          have hk5m : k5 ≤ m4 := by rw [HL4.out] at hk5; exact hk5
          have hlk5 : (zs4.take k5).length = k5 := by rw [List.length_take]; omega
          have hnew : OddIn N w4 px k5 (zs4.take k5) cs4 := ⟨hlo, hk4, hat4.take k5, hlk5, ht5, hd4.take k5, by show _ = _; rw [hv5, HV4.out]; omega, by omega⟩
          have hgn : Hid (Nat.gcd (val B (zs4.take k5)) (val B ys) = g) := by
            show _ = _
            have h6 := hev.out.2.2
            rw [← HV3.out, HF3.out] at h6
            rw [hv5, HV4.out, odd_step HOY.out HM.out h6.symm]; exact hg.out
          have hms : Hid (val B (zs4.take k5) + val B ys < gk) := by
            show _ < _
            have h6 := hev.out.2.2
            have h7 := HV3.out
            have h8 : 2 * mm + 1 ≤ 2 ^ tt * (2 * mm + 1) := Nat.le_mul_of_pos_left _ (Nat.two_pow_pos tt)
            have h9 := HF3.out
            have h10 := HM.out
            have h11 : val B ys % 2 = 1 := HOY.out
            have h12 := hgh.out
            rw [hv5, HV4.out]; omega
          clear hv5 hlk5 hk5 ht5 hk4 hat4 hd4
          go_wp2_with fail
          go_roundg (val B (zs4.take k5) + val B ys)
          case measure => exact hms.out
          case rel => exact ⟨px, k5, zs4.take k5, cs4, py, ny, ys, cy, rfl, rfl, hnew, hy4, hne, by omega, hMy, hgn, hb4, Nat.le_refl _⟩
        · have t2 : cmpInt (val B xs) (val B ys) = 0 := cmpInt_eq h.symm
          have T2 := Lib.hid t2
          have hgx : val B xs = g := by rw [← hg.out, ← h, Nat.gcd_self]
          have HGX := Lib.hid hgx
          clear t2 h hgx
          go_wp2_with fail
          refine (compare_at _ _ _ nx ny xs ys hx.len.out hy.len.out hx.lm hy.lm (by have := hx.bnd; omega) (by have := hy.bnd; omega)).mono ?_
          rintro e w' ⟨rfl, q, rfl⟩
          rw [T2.out]
          have hF : Hid (RetOdd N w g M (.returned (.slice (some ⟨px, 0, none⟩) nx nx)) (wr.drewN q)) := ⟨_, nx, xs, rfl, hx.len.out, hMx, (Rdo.of hx.blk hx.lies).kept (grown_drewN _ _ _), hx.dig, HGX.out, hb.trans (below_none (grown_drewN wr q none) (Nat.le_trans hNs hb.size))⟩
          go_wp2_with fail
          go_ret
          exact hF
        · have hmin : val B xs < val B ys := h
          have t2 : cmpInt (val B xs) (val B ys) = -1 := cmpInt_lt hmin
          have T2 := Lib.hid t2
          have HM := Lib.hid hmin
          have hyl : nx ≤ ny := by have := len_le_of hx.lm hy.lm (Nat.le_of_lt hmin); rw [hx.len.out, hy.len.out] at this; exact this
          clear t2 hmin h
          go_wp2_with fail
          refine (compare_at _ _ _ nx ny xs ys hx.len.out hy.len.out hx.lm hy.lm (by have := hx.bnd; omega) (by have := hy.bnd; omega)).mono ?_
          rintro e w' ⟨rfl, q, rfl⟩
          rw [T2.out]
          have hx1 := hx.kept (grown_drewN wr q none) (by simp)
          have hy1 := hy.kept (grown_drewN wr q none) (by simp)
          have hb1 := hb.trans (below_none (grown_drewN wr q none) (Nat.le_trans hNs hb.size))
          generalize wr.drewN q = w1 at *
          clear hx hy hb
          go_wp2_with fail
          refine (takeFrom_at w1 py 0 ny ny ys cy (some ⟨px, 0, none⟩) nx nx xs hy1.len.out hx1.len.out hy1.blk hy1.lies (Or.inr ⟨px, 0, cx, rfl, hne, hx1.blk, hx1.lies⟩) hyl (by have := hy1.bnd; omega) hy1.dig hx1.dig (Nat.le_of_lt HM.out)).mono ?_
          rintro e w2 ⟨zs, cs2, rfl, hk2, hw2, hg2, hl2, hd2, hv2⟩
          have hy2 := hx1.kept hg2 (by simp; omega)
          have hb2 := hb1.trans (below_row hg2 hy1.lo hy1.size)
          have hlo := hy1.lo
          have hbx := hy1.bnd
          have hsz2 := hy2.size
          have hln2 : zs.length = ny := hl2.trans hy1.len.out
          have HL2 := Lib.hid hln2
          have hev : Hid (val B zs % 2 = 0 ∧ 0 < val B zs ∧ val B zs = val B ys - val B xs) := by
            have h3 := hy1.odd.out; have h4 := hx1.odd.out; have h5 := HM.out
            refine ⟨?_, ?_, ?_⟩ <;> omega
          have HOY := hx1.odd
          clear hg2 hl2 hln2 hv2 hb1 hx1 hy1
          go_wp2_with fail
          refine (cut_at w2 (some ⟨py, 0, none⟩) ny ny zs HL2.out (Rdo.of hk2 hw2.lies) (by omega) (Nat.le_refl _)).mono ?_
          rintro e w3 ⟨k, hk, rfl, ht3, hv3, rfl⟩
          have hkp : 0 < k := pos_take hv3 hev.out.2.1
          rw [Sa_pos hkp]
          have hlk : (zs.take k).length = k := by rw [List.length_take]; omega
          have HLK := Lib.hid hlk
          have hkn : k ≤ ny := by rw [HL2.out] at hk; exact hk
          have hat3 := hw2.lies.take k
          have hd3 := hd2.take k
          have HV3 := Lib.hid hv3
          have hT2 := HT.out.below hb2 hN
          clear hv3 hk hlk
          go_wp2_with fail
          refine (twos_any w2 _ k k (zs.take k) HLK.out (Rdo.of hk2 hat3) hd3 (by rw [HV3.out]; exact hev.out.2.1) (by omega) hT2).mono ?_
          rintro e w3 ⟨tt, mm, rfl, hf3, htt, rfl⟩
          have HF3 := Lib.hid hf3
          clear hf3
          go_wp2_with fail
          refine (lower_any w2 py 0 k k (zs.take k) cs2 tt HLK.out hk2 hat3 hd3 (Nat.le_refl _) (by omega) (by omega)).mono ?_
          rintro e w4 ⟨s4, m4, cap4, cs4, zs4, rfl, hm4, hl4, hlx4, hd4, hv4, hs4, _, hk4, hat4, hg4⟩
          have hv4' : val B zs4 = 2 * mm + 1 := by rw [hv4, HF3.out]; exact Nat.mul_div_cancel_left _ (Nat.two_pow_pos tt)
          have hp4 : 0 < m4 := by
            rcases Nat.eq_zero_or_pos m4 with e | e
            · rw [List.length_eq_zero_iff.1 (hl4.trans e)] at hv4'; simp [val] at hv4'
            · exact e
          obtain rfl := hs4 hp4
          have hy4 := hy2.kept hg4 (by simp; omega)
          have hb4 := hb2.trans (below_row hg4 hlo hsz2)
          have hm4k : m4 ≤ k := by rw [HLK.out] at hlx4; exact hlx4
          have HL4 := Lib.hid hl4
          have HV4 := Lib.hid hv4'
          clear hv4 hv4' hl4 hs4 hg4 hy2 hb2 hlx4 hk2 hw2 hd2 hat3 hd3 hT2
          go_wp2_with fail
          refine (cut_at w4 (some ⟨py, 0, none⟩) m4 cap4 zs4 HL4.out (Rdo.of hk4 hat4) (by omega) hm4).mono ?_
          rintro e w5 ⟨k5, hk5, rfl, ht5, hv5, rfl⟩
          have hkp5 : 0 < k5 := pos_take hv5 (by rw [HV4.out]; omega)
          rw [Sa_pos hkp5]
          have hk5m : k5 ≤ m4 := by rw [HL4.out] at hk5; exact hk5
          have hlk5 : (zs4.take k5).length = k5 := by rw [List.length_take]; omega
          have hnew : OddIn N w4 py k5 (zs4.take k5) cs4 := ⟨hlo, hk4, hat4.take k5, hlk5, ht5, hd4.take k5, by show _ = _; rw [hv5, HV4.out]; omega, by omega⟩
          have hgn : Hid (Nat.gcd (val B (zs4.take k5)) (val B xs) = g) := by
            show _ = _
            have h6 := hev.out.2.2
            rw [← HV3.out, HF3.out] at h6
            rw [hv5, HV4.out, odd_step HOY.out HM.out h6.symm, Nat.gcd_comm]; exact hg.out
          have hms : Hid (val B (zs4.take k5) + val B xs < gk) := by
            show _ < _
            have h6 := hev.out.2.2
            have h7 := HV3.out
            have h8 : 2 * mm + 1 ≤ 2 ^ tt * (2 * mm + 1) := Nat.le_mul_of_pos_left _ (Nat.two_pow_pos tt)
            have h9 := HF3.out
            have h10 := HM.out
            have h11 : val B xs % 2 = 1 := HOY.out
            have h12 := hgh.out
            rw [hv5, HV4.out]; omega
          clear hv5 hlk5 hk5 ht5 hk4 hat4 hd4
          go_wp2_with fail
          go_roundg (val B (zs4.take k5) + val B xs)
          case measure => exact hms.out
          case rel => exact ⟨py, k5, zs4.take k5, cs4, px, nx, xs, cx, rfl, rfl, hnew, hy4, Ne.symm hne, by omega, hMx, hgn, hb4, Nat.le_refl _⟩
end Go.Proofs.YtldkddogadmpbaaDoor
