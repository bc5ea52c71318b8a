/- What the laws lean on, part 17. -/
import Derived.Deep.RegionHeld3
import Derived.Test.YthbhgcaemcobeaaGreatDoorMp9
import Derived.Test.YthbhgcaemcobeaaGreatDoorMp16
import Derived.Test.YthbhgcaemcobeaaGreatDoorMp8
namespace Go.Proofs.YthbhgcaemcobeaaGreatDoor
open Go.RowKit Mat
set_option maxRecDepth 100000
set_option linter.unusedVariables false
set_option linter.unusedSimpArgs false
def RIntV (w : World) (v : Value) (z : Int) : Prop := ∃ (g : Int) (s : Option Addr) (l c : Nat), v = .agg #[.int .i64 g, .slice s l c] ∧ Hid (g = z.sign) ∧ RefV w (.agg #[.slice s l c]) z.natAbs
theorem RIntV.kept {w w' : World} {v : Value} {z : Int} (h : RIntV w v z) (hg : w.grownBy w' none) : RIntV w' v z := by
  obtain ⟨g, s, l, c, e, h1, h2⟩ := h
  exact ⟨g, s, l, c, e, h1, h2.kept hg⟩
theorem RIntV.zero (w : World) : RIntV w (.agg #[.int .i64 0, .slice none 0 0]) 0 := ⟨0, none, 0, 0, rfl, rfl, RefV.zero w⟩
def RetRInt (w : World) (z : Int) (e : Ending) (w' : World) : Prop := ∃ v, e = .returned v ∧ RIntV w' v z ∧ w.grownBy w' none
theorem RIntV.set_other {w : World} {v : Value} {n : Int} {g : Nat} {c : Array Value} {t : TypeId} (h : RIntV w v n) (hbox : w.heap[g]? = some (.cells c t (0, 0))) (ht : t ≠ 3) (o : Nat) (u : Value) : RIntV (w.setCell ⟨g, o, none⟩ u) v n := by
  obtain ⟨s, a, l, k, e, h1, h2⟩ := h
  exact ⟨s, a, l, k, e, h1, h2.set_other hbox ht o u⟩
theorem heap_setfst {w : World} {g : Nat} {a0 a1 : Value} {t : TypeId} (h : w.heap[g]? = some (.cells #[a0, a1] t (0, 0))) (v0 : Value) : (w.setCell ⟨g, 0, none⟩ v0).heap[g]? = some (.cells #[v0, a1] t (0, 0)) := by
  simp [World.setCell, Array.getElem?_modify, h]
theorem grown_two {w w' : World} {g : Nat} (hg : w.grownBy w' none) (hl : w.heap.size ≤ g) (v0 v1 : Value) : w.grownBy ((w'.setCell ⟨g, 0, none⟩ v0).setCell ⟨g, 1, none⟩ v1) none :=
  grown_new (grown_new hg (grown_set (grown_refl _ _) _ _) hl) (grown_set (grown_refl _ _) _ _) hl
theorem ret_rintv {w w' : World} {z : Int} {g : Nat} {a0 a1 v0 v1 : Value} (hg : w.grownBy w' none) (hbox : w'.heap[g]? = some (.cells #[a0, a1] 40 (0, 0))) (hl : w.heap.size ≤ g) (h : RIntV w' (.agg #[v0, v1]) z) :
    RetRInt w z (.returned (.agg #[v0, v1])) ((w'.setCell ⟨g, 0, none⟩ v0).setCell ⟨g, 1, none⟩ v1) :=
  ⟨_, rfl, (h.set_other hbox (by decide) 0 v0).set_other (heap_setfst hbox v0) (by decide) 1 v1, grown_two hg hl v0 v1⟩
theorem rv_len {w : World} {s : Option Addr} {l c n : Nat} (h : RefV w (.agg #[.slice s l c]) n) : (n = 0 → l = 0) ∧ (0 < n → 0 < l) := by
  obtain ⟨s', l', c', xs, e, hl, -, -, ht, -, hv⟩ := h
  cases e
  refine ⟨fun h0 => ?_, fun h0 => ?_⟩
  · have := (val_zero_iff D D_pos xs ht).1 (hv.trans h0)
    rw [← hl, this]; rfl
  · rcases Nat.eq_zero_or_pos l with h1 | h1
    · rw [h1] at hl
      rw [List.length_eq_zero_iff.1 hl] at hv
      simp [val] at hv; omega
    · exact h1
set_option maxHeartbeats 4000000 in
theorem rMade_any (w : World) (va : Value) (s : Int) (n : Nat) (z : Int) (Ha : RefV w va n) (hz : z.natAbs = n) (hs : n = 0 ∨ z.sign = s) :
    Calls Tryz.prog 82 #[.int .i64 s, va] w (RetRInt w z) := by
  have HS : Hid (n = 0 ∨ z.sign = s) := hs
  have HZ := Lib.hid hz
  clear hz hs
  have HL := Lib.hid Ha
  rcases Nat.eq_zero_or_pos n with h0 | h0
  · skip
    obtain rfl : z = 0 := by have := HZ.out; omega
    subst h0
    obtain ⟨sa, la, ca, ya, rfl, ha⟩ := Ha
    obtain rfl : la = 0 := (rv_len HL.out).1 rfl
    have Ha : RefV w (.agg #[.slice sa 0 ca]) 0 := HL.out
    clear HL ha HS HZ
    have hG : w.grownBy ((w.alloc (.cells #[.slice sa 0 ca] 38)).alloc (.cells #[.int .i64 0, .slice none 0 0] 40)) none := grown_alloc (World.grownBy_alloc _ _ _) _
    have Ba := heap_kept (World.grownBy_alloc _ (.cells #[.int .i64 0, .slice none 0 0] 40) none) (heap_new w (.cells #[.slice sa 0 ca] 38) w.heap.size rfl)
    have Bq := heap_new (w.alloc (.cells #[.slice sa 0 ca] 38)) (.cells #[.int .i64 0, .slice none 0 0] 40) (w.heap.size + 1) (by simp)
    have ma := Ha.kept hG
    go_enter Tryz.func82, Tryz.ntmps82
    obtain ⟨Ca0, Fa0⟩ := box_cell Ba
    obtain ⟨Cq0, Cq1, Fq0, Fq1⟩ := box_cells Bq
    have hG' : w.grownBy ((w.alloc (.cells #[.slice sa 0 ca] 38)).alloc (.cells #[.int .i64 0, .slice none 0 0] 40)) none := (grown_alloc (World.grownBy_alloc _ _ _) _)
    have hF : Hid (RetRInt w (0) (.returned (.agg #[.int .i64 0, .slice none 0 0])) ((w.alloc (.cells #[.slice sa 0 ca] 38)).alloc (.cells #[.int .i64 0, .slice none 0 0] 40))) := ⟨_, rfl, RIntV.zero _, hG'⟩
    clear hG' ma
    go_wp2_with fail
    exact bodyPost_ret (v := .agg #[.int .i64 0, .slice none 0 0]) (by simp [results, Tryz.results82, go_sem]) rfl hF.out
  · skip
    obtain hs : z.sign = s := HS.out.resolve_left (by omega)
    obtain ⟨sa, la, ca, ya, rfl, ha⟩ := Ha
    have hl := (rv_len HL.out).2 h0
    have f1 : ((la : Int) == 0) = false := beq_eq_false_iff_ne.2 (by omega)
    have Ha : RefV w (.agg #[.slice sa la ca]) n := HL.out
    have HS2 := Lib.hid hs
    clear HL ha HS hs hl
    have hG : w.grownBy ((w.alloc (.cells #[.slice sa la ca] 38)).alloc (.cells #[.int .i64 0, .slice none 0 0] 40)) none := grown_alloc (World.grownBy_alloc _ _ _) _
    have Ba := heap_kept (World.grownBy_alloc _ (.cells #[.int .i64 0, .slice none 0 0] 40) none) (heap_new w (.cells #[.slice sa la ca] 38) w.heap.size rfl)
    have Bq := heap_new (w.alloc (.cells #[.slice sa la ca] 38)) (.cells #[.int .i64 0, .slice none 0 0] 40) (w.heap.size + 1) (by simp)
    have ma := Ha.kept hG
    go_enter Tryz.func82, Tryz.ntmps82
    obtain ⟨Ca0, Fa0⟩ := box_cell Ba
    obtain ⟨Cq0, Cq1, Fq0, Fq1⟩ := box_cells Bq
    have hG' : w.grownBy ((w.alloc (.cells #[.slice sa la ca] 38)).alloc (.cells #[.int .i64 s, .slice sa la ca] 40)) none := (grown_alloc (World.grownBy_alloc _ _ _) _)
    have hF : Hid (RetRInt w (z) (.returned (.agg #[.int .i64 s, .slice sa la ca])) ((w.alloc (.cells #[.slice sa la ca] 38)).alloc (.cells #[.int .i64 s, .slice sa la ca] 40))) := ⟨_, rfl, ⟨s, sa, la, ca, rfl, HS2.out.symm, by rw [HZ.out]; exact Ha.kept hG'⟩, hG'⟩
    clear hG' ma
    go_wp2_with fail
    exact bodyPost_ret (v := .agg #[.int .i64 s, .slice sa la ca]) (by simp [results, Tryz.results82, go_sem]) rfl hF.out
theorem sign_bd (z : Int) : -1 ≤ z.sign ∧ z.sign ≤ 1 := by
  rcases zsign z with ⟨_, e⟩ | ⟨_, e⟩ | ⟨_, e⟩ <;> omega
set_option maxHeartbeats 4000000 in
theorem rNeg_any (w : World) (va : Value) (x : Int) (Ha : RIntV w va x) :
    Calls Tryz.prog 100 #[va] w (RetRInt w (-x)) := by
  obtain ⟨ga, sa, la, ca, rfl, ha, ma⟩ := Ha
  have hG : w.grownBy ((w.alloc (.cells #[.int .i64 ga, .slice sa la ca] 40)).alloc (.cells #[.int .i64 0, .slice none 0 0] 40)) none := (grown_alloc (World.grownBy_alloc _ _ _) _)
  have Ba := heap_kept (World.grownBy_alloc _ (.cells #[.int .i64 0, .slice none 0 0] 40) none) (heap_new w (.cells #[.int .i64 ga, .slice sa la ca] 40) (w.heap.size) rfl)
  have Bq := (heap_new (w.alloc (.cells #[.int .i64 ga, .slice sa la ca] 40)) (.cells #[.int .i64 0, .slice none 0 0] 40) (w.heap.size + 1) (by simp))
  have ra : RIntV ((w.alloc (.cells #[.int .i64 ga, .slice sa la ca] 40)).alloc (.cells #[.int .i64 0, .slice none 0 0] 40)) (.agg #[.int .i64 ga, .slice sa la ca]) (x) := ⟨ga, sa, la, ca, rfl, ha, ma.kept hG⟩
  have ma' : RefV ((w.alloc (.cells #[.int .i64 ga, .slice sa la ca] 40)).alloc (.cells #[.int .i64 0, .slice none 0 0] 40)) (.agg #[.slice sa la ca]) (x).natAbs := ma.kept hG
  have oa : RIntV w (.agg #[.int .i64 ga, .slice sa la ca]) (x) := ⟨ga, sa, la, ca, rfl, ha, ma⟩
  clear ma
  go_enter Tryz.func100, Tryz.ntmps100
  have hb := sign_bd x
  rw [← ha.out] at hb
  obtain ⟨hb1, hb2⟩ := hb
  obtain ⟨Ca0, Ca1, Fa0, Fa1⟩ := box_cells Ba
  obtain ⟨Cq0, Cq1, Fq0, Fq1⟩ := box_cells Bq
  go_wp2_with fail
  generalize ((w.alloc (.cells #[.int .i64 ga, .slice sa la ca] 40)).alloc (.cells #[.int .i64 0, .slice none 0 0] 40)) = w0 at *
  clear Ca0 Fa0 Ca1 Fa1 Cq0 Fq0 Cq1 Fq1
  refine (rMade_any w0 _ (-ga) x.natAbs (-x) ma' (by omega) (Or.inr (by rw [Int.sign_neg, ha.out]))).mono ?_
  rintro e w1 ⟨_, rfl, ⟨gd, sd, ld, cd, rfl, hd, md⟩, gw1⟩
  have rd : RIntV w1 (.agg #[.int .i64 gd, .slice sd ld cd]) (-x) := ⟨gd, sd, ld, cd, rfl, hd, md⟩
  replace Ba := heap_kept gw1 Ba
  replace Bq := heap_kept gw1 Bq
  replace ra := ra.kept gw1
  replace ma' := ma'.kept gw1
  replace hG := grown_trans hG gw1
  clear gw1
  clear md
  obtain ⟨Ca0, Ca1, Fa0, Fa1⟩ := box_cells Ba
  obtain ⟨Cq0, Cq1, Fq0, Fq1⟩ := box_cells Bq
  clear Ca0 Fa0 Ca1 Fa1 Cq0 Fq0 Cq1 Fq1
  obtain ⟨k90, k91, k92, k93⟩ := box_cells Bq
  obtain ⟨q90, q91, q92, q93⟩ := box_cells (heap_set2 Bq (.int .i64 gd) (.slice sd ld cd))
  have hF : Hid (RetRInt w (-x) (.returned (.agg #[.int .i64 gd, .slice sd ld cd])) ((w1.setCell ⟨w.heap.size + 1, 0, none⟩ (.int .i64 gd)).setCell ⟨w.heap.size + 1, 1, none⟩ (.slice sd ld cd))) := ret_rintv hG Bq (by omega) rd
  clear ra ma' rd
  go_wp2_with fail
  exact bodyPost_ret (v := .agg #[.int .i64 gd, .slice sd ld cd]) (by simp [results, Tryz.results100, go_sem, q90, q91]) rfl hF.out
theorem cmp_bd (a b : Nat) : cmpInt a b = -1 ∨ cmpInt a b = 0 ∨ cmpInt a b = 1 := by
  unfold cmpInt; split
  · left; rfl
  · split
    · right; left; rfl
    · right; right; rfl
theorem rcmp_mul {x y : Int} (h : x.sign = y.sign) : x.sign * cmpInt x.natAbs y.natAbs = zcmp x y := by
  rcases zsign x with ⟨h1, e1⟩ | ⟨h1, e1⟩ | ⟨h1, e1⟩ <;> rcases zsign y with ⟨h2, e2⟩ | ⟨h2, e2⟩ | ⟨h2, e2⟩ <;> rw [e1, e2] at h <;> first | omega | skip
  · rw [e1]; unfold cmpInt zcmp
    rcases Int.lt_trichotomy x y with h3 | h3 | h3
    · rw [if_neg (by omega), if_neg (by omega), if_pos h3]; rfl
    · rw [if_neg (by omega), if_pos (by omega), if_neg (by omega), if_pos h3]; rfl
    · rw [if_pos (by omega), if_neg (by omega), if_neg (by omega)]; rfl
  · rw [e1, h1, h2]; rfl
  · rw [e1, zcmp_pos (by omega) (by omega)]; omega
def RetZ (w : World) (k : Int) (e : Ending) (w' : World) : Prop := e = .returned (.int .i64 k) ∧ w.grownBy w' none
set_option maxHeartbeats 8000000 in
theorem rZCmp_any (w : World) (va vb : Value) (x y : Int) (Ha : RIntV w va x) (Hb : RIntV w vb y) (la' : x.natAbs < D ^ 1000000) (lb' : y.natAbs < D ^ 1000000) :
    Calls Tryz.prog 47 #[va, vb] w (RetZ w (zcmp x y)) := by
  have Hla := Lib.hid la'
  have Hlb := Lib.hid lb'
  clear la' lb'
  obtain ⟨ga, sa, la, ca, rfl, ha, ma⟩ := Ha
  obtain ⟨gb, sb, lb, cb, rfl, hb, mb⟩ := Hb
  have hG : w.grownBy ((w.alloc (.cells #[.int .i64 ga, .slice sa la ca] 40)).alloc (.cells #[.int .i64 gb, .slice sb lb cb] 40)) none := (grown_alloc (World.grownBy_alloc _ _ _) _)
  have Ba := heap_kept (World.grownBy_alloc _ (.cells #[.int .i64 gb, .slice sb lb cb] 40) none) (heap_new w (.cells #[.int .i64 ga, .slice sa la ca] 40) (w.heap.size) rfl)
  have Bb := (heap_new (w.alloc (.cells #[.int .i64 ga, .slice sa la ca] 40)) (.cells #[.int .i64 gb, .slice sb lb cb] 40) (w.heap.size + 1) (by simp))
  have ra : RIntV ((w.alloc (.cells #[.int .i64 ga, .slice sa la ca] 40)).alloc (.cells #[.int .i64 gb, .slice sb lb cb] 40)) (.agg #[.int .i64 ga, .slice sa la ca]) (x) := ⟨ga, sa, la, ca, rfl, ha, ma.kept hG⟩
  have ma' : RefV ((w.alloc (.cells #[.int .i64 ga, .slice sa la ca] 40)).alloc (.cells #[.int .i64 gb, .slice sb lb cb] 40)) (.agg #[.slice sa la ca]) (x).natAbs := ma.kept hG
  have rb : RIntV ((w.alloc (.cells #[.int .i64 ga, .slice sa la ca] 40)).alloc (.cells #[.int .i64 gb, .slice sb lb cb] 40)) (.agg #[.int .i64 gb, .slice sb lb cb]) (y) := ⟨gb, sb, lb, cb, rfl, hb, mb.kept hG⟩
  have mb' : RefV ((w.alloc (.cells #[.int .i64 ga, .slice sa la ca] 40)).alloc (.cells #[.int .i64 gb, .slice sb lb cb] 40)) (.agg #[.slice sb lb cb]) (y).natAbs := mb.kept hG
  have oa : RIntV w (.agg #[.int .i64 ga, .slice sa la ca]) (x) := ⟨ga, sa, la, ca, rfl, ha, ma⟩
  clear ma
  have ob : RIntV w (.agg #[.int .i64 gb, .slice sb lb cb]) (y) := ⟨gb, sb, lb, cb, rfl, hb, mb⟩
  clear mb
  go_enter Tryz.func47, Tryz.ntmps47
  have hc := zcmp_cases x y
  rw [← ha.out, ← hb.out] at hc
  have hc4 : (decide (ga < gb) = true ∧ Hid (zcmp x y = -1)) ∨ (decide (ga < gb) = false ∧ decide (gb < ga) = true ∧ Hid (zcmp x y = 1)) ∨ (decide (ga < gb) = false ∧ decide (gb < ga) = false ∧ Hid (ga * cmpInt x.natAbs y.natAbs = zcmp x y)) := by
    have key : ga = gb → ga * cmpInt x.natAbs y.natAbs = zcmp x y := fun h => by rw [ha.out]; exact rcmp_mul (by rw [← ha.out, ← hb.out, h])
    rcases hc with ⟨q, r⟩ | ⟨q, r⟩ | ⟨q, r, t, u⟩ | ⟨q, r, t, u⟩
    · left; exact ⟨decide_eq_true q, r⟩
    · right; left; exact ⟨decide_eq_false (by omega), decide_eq_true q, r⟩
    · right; right; exact ⟨decide_eq_false (by omega), decide_eq_false (by omega), key q⟩
    · right; right; exact ⟨decide_eq_false (by omega), decide_eq_false (by omega), key q⟩
  clear hc
  have hbd := sign_bd x
  rw [← ha.out] at hbd
  have hcb := cmp_bd x.natAbs y.natAbs
  obtain ⟨cc, hcc⟩ : ∃ cc, cmpInt x.natAbs y.natAbs = cc := ⟨_, rfl⟩
  rw [hcc] at hc4 hcb
  have HCC := Lib.hid hcc
  obtain ⟨zz, hzz⟩ : ∃ zz, zcmp x y = zz := ⟨_, rfl⟩
  rw [hzz] at hc4 ⊢
  clear hcc hzz
  rcases hc4 with ⟨f1, hz⟩ | ⟨f1, f2, hz⟩ | ⟨f1, f2, hz⟩
  · skip
    obtain ⟨Ca0, Ca1, Fa0, Fa1⟩ := box_cells Ba
    obtain ⟨Cb0, Cb1, Fb0, Fb1⟩ := box_cells Bb
    go_wp2_with fail
    go_ret
    exact ⟨by rw [hz.out]; rfl, hG⟩
  · skip
    obtain ⟨Ca0, Ca1, Fa0, Fa1⟩ := box_cells Ba
    obtain ⟨Cb0, Cb1, Fb0, Fb1⟩ := box_cells Bb
    go_wp2_with fail
    go_ret
    exact ⟨by rw [hz.out]; rfl, hG⟩
  · skip
    have hw : IntKind.i64.wrap (ga * cc) = zz := by rw [← hz.out, IntKind.wrap_i64]; obtain ⟨u1, u2⟩ := hbd; rcases hcb with h | h | h <;> rw [h] <;> omega
    clear hz hbd hcb
    obtain ⟨Ca0, Ca1, Fa0, Fa1⟩ := box_cells Ba
    obtain ⟨Cb0, Cb1, Fb0, Fb1⟩ := box_cells Bb
    go_wp2_with fail
    generalize ((w.alloc (.cells #[.int .i64 ga, .slice sa la ca] 40)).alloc (.cells #[.int .i64 gb, .slice sb lb cb] 40)) = w0 at *
    go_region_held3 (fun w' => w'.cell? ⟨w.heap.size, 0, none⟩ = some (.int .i64 ga) ∧ w'.cell? ⟨w.heap.size, 1, none⟩ = some (.slice sa la ca) ∧ w'.cell? ⟨w.heap.size + 1, 0, none⟩ = some (.int .i64 gb) ∧ w'.cell? ⟨w.heap.size + 1, 1, none⟩ = some (.slice sb lb cb))
      (first | assumption | exact ⟨Ca0, Ca1, Cb0, Cb1⟩ | go_keep)
      (first
        | (go_at_call 87; (with_reducible refine (rCmp_any w0.drew _ _ x.natAbs y.natAbs (ma'.kept (grown_drew (grown_refl _ _))) (mb'.kept (grown_drew (grown_refl _ _))) Hla.out Hlb.out).mono ?_); rintro e w1_1 ⟨rfl, gw1_1⟩; rw [HCC.out]; have hGw1_1 := grown_pre w0 gw1_1 rfl rfl rfl rfl; have hSw1_1 := (And.intro (hGw1_1.cell Ca0 (by simp)) (And.intro (hGw1_1.cell Ca1 (by simp)) (And.intro (hGw1_1.cell Cb0 (by simp)) (hGw1_1.cell Cb1 (by simp))))); clear gw1_1))
    replace Ba := heap_kept hGw1_1 Ba
    replace Bb := heap_kept hGw1_1 Bb
    replace ra := ra.kept hGw1_1
    replace ma' := ma'.kept hGw1_1
    replace rb := rb.kept hGw1_1
    replace mb' := mb'.kept hGw1_1
    replace hG := grown_trans hG hGw1_1
    clear Ca0 Fa0 Ca1 Fa1 Cb0 Fb0 Cb1 Fb1
    obtain ⟨Ca0, Ca1, Fa0, Fa1⟩ := box_cells Ba
    obtain ⟨Cb0, Cb1, Fb0, Fb1⟩ := box_cells Bb
    go_wp2_with fail
    go_ret
    exact ⟨by first | rfl | (rw [hw]; rfl), hG⟩
end Go.Proofs.YthbhgcaemcobeaaGreatDoor
namespace Go.Proofs.YthbhgcaemcobeaaGreatDoor
open Go.RowKit Mat
set_option maxRecDepth 100000
set_option linter.unusedVariables false
set_option linter.unusedSimpArgs false
theorem rtext_any (w : World) (va : Value) (a : Nat) (ha : RefV w va a) (ba : a < D ^ 1000000) :
    Calls Tryz.prog 93 #[va] w (RetText w a) := by
  rcases Nat.eq_zero_or_pos a with h | h
  · subst h; exact rText_zero w va ha
  · exact rText_some w va a ha h ba
theorem rof_1 (w : World) : Calls Tryz.prog 84 #[.int .u64 1] w (RetRef w 1) := rOf_any w 1 (by decide)
theorem neg_lt {y : Int} {E : Nat} (h : y.natAbs < E) : (-y).natAbs < E := by rw [Int.natAbs_neg]; exact h
theorem lt_DE {m E : Nat} (h : m < B) (hE : 5 ≤ E) : m < D ^ E :=
  Nat.lt_of_lt_of_le h (Nat.le_trans (show B ≤ D ^ 5 by unfold B D; decide) (Nat.pow_le_pow_right D_pos hE))
theorem lt_D1 {m : Nat} (h : m < B) : m < D ^ 1000000 := by
  obtain ⟨E, hE⟩ : ∃ E, E = 1000000 := ⟨_, rfl⟩
  rw [← hE]; exact lt_DE h (by omega)
theorem radd_same {x y : Int} (h : x.sign = y.sign) : (x + y).natAbs = x.natAbs + y.natAbs ∧ (x + y).sign = x.sign := by
  rcases zsign x with ⟨h1, e1⟩ | ⟨h1, e1⟩ | ⟨h1, e1⟩ <;> rcases zsign y with ⟨h2, e2⟩ | ⟨h2, e2⟩ | ⟨h2, e2⟩ <;> rcases zsign (x + y) with ⟨h3, e3⟩ | ⟨h3, e3⟩ | ⟨h3, e3⟩ <;> omega
theorem radd_ge {x y : Int} (h : x.sign ≠ y.sign) (h0 : x ≠ 0) (h9 : y ≠ 0) (hle : y.natAbs ≤ x.natAbs) : (x + y).natAbs = x.natAbs - y.natAbs ∧ (x.natAbs - y.natAbs = 0 ∨ (x + y).sign = x.sign) := by
  rcases zsign x with ⟨h1, e1⟩ | ⟨h1, e1⟩ | ⟨h1, e1⟩ <;> rcases zsign y with ⟨h2, e2⟩ | ⟨h2, e2⟩ | ⟨h2, e2⟩ <;> rcases zsign (x + y) with ⟨h3, e3⟩ | ⟨h3, e3⟩ | ⟨h3, e3⟩ <;> omega
theorem dlen {l : List Nat} {n E : Nat} (h : DecL l) (hv : dval l = n) (hn : n < D ^ E) (hE : 1 ≤ E) : l.length ≤ 4 * E :=
  dec_len h (by rw [hv, Nat.pow_mul]; exact hn) (by omega)
set_option maxHeartbeats 8000000 in
theorem rZMul_any (w : World) (va vb : Value) (x y : Int) (Ha : RIntV w va x) (Hb : RIntV w vb y) (la' : x.natAbs < D ^ 1000000) (lb' : y.natAbs < D ^ 1000000) :
    Calls Tryz.prog 88 #[va, vb] w (RetRInt w (x * y)) := by
  have Hla := Lib.hid la'
  have Hlb := Lib.hid lb'
  clear la' lb'
  obtain ⟨ga, sa, la, ca, rfl, ha, ma⟩ := Ha
  obtain ⟨gb, sb, lb, cb, rfl, hb, mb⟩ := Hb
  have hG : w.grownBy (((w.alloc (.cells #[.int .i64 ga, .slice sa la ca] 40)).alloc (.cells #[.int .i64 gb, .slice sb lb cb] 40)).alloc (.cells #[.int .i64 0, .slice none 0 0] 40)) none := (grown_alloc (grown_alloc (World.grownBy_alloc _ _ _) _) _)
  have Ba := heap_kept (grown_alloc (World.grownBy_alloc _ (.cells #[.int .i64 gb, .slice sb lb cb] 40) none) (.cells #[.int .i64 0, .slice none 0 0] 40)) (heap_new w (.cells #[.int .i64 ga, .slice sa la ca] 40) (w.heap.size) rfl)
  have Bb := heap_kept (World.grownBy_alloc _ (.cells #[.int .i64 0, .slice none 0 0] 40) none) (heap_new (w.alloc (.cells #[.int .i64 ga, .slice sa la ca] 40)) (.cells #[.int .i64 gb, .slice sb lb cb] 40) (w.heap.size + 1) (by simp))
  have Bq := (heap_new ((w.alloc (.cells #[.int .i64 ga, .slice sa la ca] 40)).alloc (.cells #[.int .i64 gb, .slice sb lb cb] 40)) (.cells #[.int .i64 0, .slice none 0 0] 40) (w.heap.size + 1 + 1) (by simp))
  have ra : RIntV (((w.alloc (.cells #[.int .i64 ga, .slice sa la ca] 40)).alloc (.cells #[.int .i64 gb, .slice sb lb cb] 40)).alloc (.cells #[.int .i64 0, .slice none 0 0] 40)) (.agg #[.int .i64 ga, .slice sa la ca]) (x) := ⟨ga, sa, la, ca, rfl, ha, ma.kept hG⟩
  have ma' : RefV (((w.alloc (.cells #[.int .i64 ga, .slice sa la ca] 40)).alloc (.cells #[.int .i64 gb, .slice sb lb cb] 40)).alloc (.cells #[.int .i64 0, .slice none 0 0] 40)) (.agg #[.slice sa la ca]) (x).natAbs := ma.kept hG
  have rb : RIntV (((w.alloc (.cells #[.int .i64 ga, .slice sa la ca] 40)).alloc (.cells #[.int .i64 gb, .slice sb lb cb] 40)).alloc (.cells #[.int .i64 0, .slice none 0 0] 40)) (.agg #[.int .i64 gb, .slice sb lb cb]) (y) := ⟨gb, sb, lb, cb, rfl, hb, mb.kept hG⟩
  have mb' : RefV (((w.alloc (.cells #[.int .i64 ga, .slice sa la ca] 40)).alloc (.cells #[.int .i64 gb, .slice sb lb cb] 40)).alloc (.cells #[.int .i64 0, .slice none 0 0] 40)) (.agg #[.slice sb lb cb]) (y).natAbs := mb.kept hG
  have oa : RIntV w (.agg #[.int .i64 ga, .slice sa la ca]) (x) := ⟨ga, sa, la, ca, rfl, ha, ma⟩
  clear ma
  have ob : RIntV w (.agg #[.int .i64 gb, .slice sb lb cb]) (y) := ⟨gb, sb, lb, cb, rfl, hb, mb⟩
  clear mb
  go_enter Tryz.func88, Tryz.ntmps88
  obtain ⟨P, hP⟩ : ∃ P, (x * y).sign = P := ⟨_, rfl⟩
  have HP : Hid ((x * y).sign = P) := hP
  have HN : Hid ((x * y).natAbs = x.natAbs * y.natAbs) := Int.natAbs_mul x y
  have hw : IntKind.i64.wrap (ga * gb) = P := by
    rw [ha.out, hb.out, ← Int.sign_mul, hP, IntKind.wrap_i64]
    have := sign_bd (x * y); rw [hP] at this; omega
  clear hP
  obtain ⟨Ca0, Ca1, Fa0, Fa1⟩ := box_cells Ba
  obtain ⟨Cb0, Cb1, Fb0, Fb1⟩ := box_cells Bb
  obtain ⟨Cq0, Cq1, Fq0, Fq1⟩ := box_cells Bq
  go_wp2_with fail
  generalize (((w.alloc (.cells #[.int .i64 ga, .slice sa la ca] 40)).alloc (.cells #[.int .i64 gb, .slice sb lb cb] 40)).alloc (.cells #[.int .i64 0, .slice none 0 0] 40)) = w0 at *
  go_region_held3 (fun w' => w'.cell? ⟨w.heap.size, 0, none⟩ = some (.int .i64 ga) ∧ w'.cell? ⟨w.heap.size, 1, none⟩ = some (.slice sa la ca) ∧ w'.cell? ⟨w.heap.size + 1, 0, none⟩ = some (.int .i64 gb) ∧ w'.cell? ⟨w.heap.size + 1, 1, none⟩ = some (.slice sb lb cb))
    (first | assumption | exact ⟨Ca0, Ca1, Cb0, Cb1⟩ | exact HSw1_20 | go_keep)
    (first
      | (go_at_call 112; (with_reducible refine (rMul_any w0.drew _ _ x.natAbs y.natAbs (ma'.kept (grown_drew (grown_refl _ _))) (mb'.kept (grown_drew (grown_refl _ _))) Hla.out Hlb.out).mono ?_); rintro e w1_1 ⟨vp, rfl, mp, gw1_1⟩; have hGw1_1 := grown_pre w0 gw1_1 rfl rfl rfl rfl; have hSw1_1 := (And.intro (hGw1_1.cell Ca0 (by simp)) (And.intro (hGw1_1.cell Ca1 (by simp)) (And.intro (hGw1_1.cell Cb0 (by simp)) (hGw1_1.cell Cb1 (by simp))))); clear gw1_1)
      | (go_at_call 82; (with_reducible refine (rMade_any w1_1 _ P (x.natAbs * y.natAbs) (x * y) mp HN.out (Or.inr HP.out)).mono ?_); rintro e w1_2 ⟨_, rfl, ⟨gd, sd, ld, cd, rfl, hd, md⟩, gw1_2⟩; have hGw1_2 := grown_trans hGw1_1 gw1_2; replace mp := mp.kept gw1_2; have rd : RIntV w1_2 (.agg #[.int .i64 gd, .slice sd ld cd]) (x * y) := ⟨gd, sd, ld, cd, rfl, hd, md⟩; have hSw1_2 := (And.intro (hGw1_2.cell Ca0 (by simp)) (And.intro (hGw1_2.cell Ca1 (by simp)) (And.intro (hGw1_2.cell Cb0 (by simp)) (hGw1_2.cell Cb1 (by simp))))); clear gw1_2; clear md; (obtain ⟨dq0, dq1, dq2, dq3⟩ := box_cells (heap_kept hGw1_2 Bq)); have HSw1_20 := (And.intro ((box_cells (heap_unset2 (heap_kept hGw1_2 Ba) (show w.heap.size ≠ w.heap.size + 1 + 1 by omega) (.int .i64 gd) (.slice sd ld cd))).1) (And.intro ((box_cells (heap_unset2 (heap_kept hGw1_2 Ba) (show w.heap.size ≠ w.heap.size + 1 + 1 by omega) (.int .i64 gd) (.slice sd ld cd))).2.1) (And.intro ((box_cells (heap_unset2 (heap_kept hGw1_2 Bb) (show w.heap.size + 1 ≠ w.heap.size + 1 + 1 by omega) (.int .i64 gd) (.slice sd ld cd))).1) ((box_cells (heap_unset2 (heap_kept hGw1_2 Bb) (show w.heap.size + 1 ≠ w.heap.size + 1 + 1 by omega) (.int .i64 gd) (.slice sd ld cd))).2.1))))))
  replace Ba := heap_kept hGw1_2 Ba
  replace Bb := heap_kept hGw1_2 Bb
  replace Bq := heap_kept hGw1_2 Bq
  replace ra := ra.kept hGw1_2
  replace ma' := ma'.kept hGw1_2
  replace rb := rb.kept hGw1_2
  replace mb' := mb'.kept hGw1_2
  replace hG := grown_trans hG hGw1_2
  clear Ca0 Fa0 Ca1 Fa1 Cb0 Fb0 Cb1 Fb1 Cq0 Fq0 Cq1 Fq1
  obtain ⟨k90, k91, k92, k93⟩ := box_cells Bq
  obtain ⟨q90, q91, q92, q93⟩ := box_cells (heap_set2 Bq (.int .i64 gd) (.slice sd ld cd))
  have hF : Hid (RetRInt w (x * y) (.returned (.agg #[.int .i64 gd, .slice sd ld cd])) ((w1_2.setCell ⟨w.heap.size + 1 + 1, 0, none⟩ (.int .i64 gd)).setCell ⟨w.heap.size + 1 + 1, 1, none⟩ (.slice sd ld cd))) := ret_rintv hG Bq (by omega) rd
  clear ra ma' rb mb' mp rd
  go_wp2_with fail
  exact bodyPost_ret (v := .agg #[.int .i64 gd, .slice sd ld cd]) (by simp [results, Tryz.results88, go_sem, q90, q91]) rfl hF.out
set_option maxHeartbeats 8000000 in
theorem rZAdd_any (w : World) (va vb : Value) (x y : Int) (Ha : RIntV w va x) (Hb : RIntV w vb y) (la' : x.natAbs < D ^ 1000000) (lb' : y.natAbs < D ^ 1000000) :
    Calls Tryz.prog 95 #[va, vb] w (RetRInt w (x + y)) := by
  have Hla := Lib.hid la'
  have Hlb := Lib.hid lb'
  clear la' lb'
  obtain ⟨ga, sa, la, ca, rfl, ha, ma⟩ := Ha
  obtain ⟨gb, sb, lb, cb, rfl, hb, mb⟩ := Hb
  have hG : w.grownBy (((w.alloc (.cells #[.int .i64 ga, .slice sa la ca] 40)).alloc (.cells #[.int .i64 gb, .slice sb lb cb] 40)).alloc (.cells #[.int .i64 0, .slice none 0 0] 40)) none := (grown_alloc (grown_alloc (World.grownBy_alloc _ _ _) _) _)
  have Ba := heap_kept (grown_alloc (World.grownBy_alloc _ (.cells #[.int .i64 gb, .slice sb lb cb] 40) none) (.cells #[.int .i64 0, .slice none 0 0] 40)) (heap_new w (.cells #[.int .i64 ga, .slice sa la ca] 40) (w.heap.size) rfl)
  have Bb := heap_kept (World.grownBy_alloc _ (.cells #[.int .i64 0, .slice none 0 0] 40) none) (heap_new (w.alloc (.cells #[.int .i64 ga, .slice sa la ca] 40)) (.cells #[.int .i64 gb, .slice sb lb cb] 40) (w.heap.size + 1) (by simp))
  have Bq := (heap_new ((w.alloc (.cells #[.int .i64 ga, .slice sa la ca] 40)).alloc (.cells #[.int .i64 gb, .slice sb lb cb] 40)) (.cells #[.int .i64 0, .slice none 0 0] 40) (w.heap.size + 1 + 1) (by simp))
  have ra : RIntV (((w.alloc (.cells #[.int .i64 ga, .slice sa la ca] 40)).alloc (.cells #[.int .i64 gb, .slice sb lb cb] 40)).alloc (.cells #[.int .i64 0, .slice none 0 0] 40)) (.agg #[.int .i64 ga, .slice sa la ca]) (x) := ⟨ga, sa, la, ca, rfl, ha, ma.kept hG⟩
  have ma' : RefV (((w.alloc (.cells #[.int .i64 ga, .slice sa la ca] 40)).alloc (.cells #[.int .i64 gb, .slice sb lb cb] 40)).alloc (.cells #[.int .i64 0, .slice none 0 0] 40)) (.agg #[.slice sa la ca]) (x).natAbs := ma.kept hG
  have rb : RIntV (((w.alloc (.cells #[.int .i64 ga, .slice sa la ca] 40)).alloc (.cells #[.int .i64 gb, .slice sb lb cb] 40)).alloc (.cells #[.int .i64 0, .slice none 0 0] 40)) (.agg #[.int .i64 gb, .slice sb lb cb]) (y) := ⟨gb, sb, lb, cb, rfl, hb, mb.kept hG⟩
  have mb' : RefV (((w.alloc (.cells #[.int .i64 ga, .slice sa la ca] 40)).alloc (.cells #[.int .i64 gb, .slice sb lb cb] 40)).alloc (.cells #[.int .i64 0, .slice none 0 0] 40)) (.agg #[.slice sb lb cb]) (y).natAbs := mb.kept hG
  have oa : RIntV w (.agg #[.int .i64 ga, .slice sa la ca]) (x) := ⟨ga, sa, la, ca, rfl, ha, ma⟩
  clear ma
  have ob : RIntV w (.agg #[.int .i64 gb, .slice sb lb cb]) (y) := ⟨gb, sb, lb, cb, rfl, hb, mb⟩
  clear mb
  go_enter Tryz.func95, Tryz.ntmps95
  obtain ⟨z, hz⟩ : ∃ z, x + y = z := ⟨_, rfl⟩
  obtain ⟨cc, hcc⟩ : ∃ cc, cmpInt x.natAbs y.natAbs = cc := ⟨_, rfl⟩
  have HCC := Lib.hid hcc
  have key : ((ga == 0) = true ∧ Hid (z = y)) ∨ ((ga == 0) = false ∧ (gb == 0) = true ∧ Hid (z = x)) ∨ ((ga == 0) = false ∧ (gb == 0) = false ∧ (ga == gb) = true ∧ Hid (z.natAbs = x.natAbs + y.natAbs ∧ z.sign = ga)) ∨ ((ga == 0) = false ∧ (gb == 0) = false ∧ (ga == gb) = false ∧ decide (0 ≤ cc) = true ∧ y.natAbs ≤ x.natAbs ∧ Hid (z.natAbs = x.natAbs - y.natAbs ∧ (x.natAbs - y.natAbs = 0 ∨ z.sign = ga))) ∨ ((ga == 0) = false ∧ (gb == 0) = false ∧ (ga == gb) = false ∧ decide (0 ≤ cc) = false ∧ x.natAbs ≤ y.natAbs ∧ Hid (z.natAbs = y.natAbs - x.natAbs ∧ (y.natAbs - x.natAbs = 0 ∨ z.sign = gb))) := by
    have ea := ha.out
    have eb := hb.out
    by_cases h1 : x = 0
    · left; subst h1; exact ⟨by rw [ea]; rfl, by show z = y; omega⟩
    · right
      have na : (ga == 0) = false := beq_eq_false_iff_ne.2 (by rw [ea]; intro h; exact h1 (Int.sign_eq_zero_iff_zero.1 h))
      by_cases h2 : y = 0
      · left; subst h2; exact ⟨na, by rw [eb]; rfl, by show z = x; omega⟩
      · right
        have nb : (gb == 0) = false := beq_eq_false_iff_ne.2 (by rw [eb]; intro h; exact h2 (Int.sign_eq_zero_iff_zero.1 h))
        by_cases h3 : x.sign = y.sign
        · left; exact ⟨na, nb, beq_iff_eq.2 (by rw [ea, eb, h3]), by rw [ea, ← hz]; exact radd_same h3⟩
        · right
          have nc : (ga == gb) = false := beq_eq_false_iff_ne.2 (by rw [ea, eb]; exact h3)
          rcases Nat.lt_trichotomy x.natAbs y.natAbs with h4 | h4 | h4
          · right; exact ⟨na, nb, nc, decide_eq_false (by rw [← hcc, cmpInt_lt h4]; omega), by omega, by rw [eb, ← hz, Int.add_comm]; exact radd_ge (Ne.symm h3) h2 h1 (by omega)⟩
          · left; exact ⟨na, nb, nc, decide_eq_true (by rw [← hcc, cmpInt_eq h4]; omega), by omega, by rw [ea, ← hz]; exact radd_ge h3 h1 h2 (by omega)⟩
          · left; exact ⟨na, nb, nc, decide_eq_true (by rw [← hcc, cmpInt_gt h4]; omega), by omega, by rw [ea, ← hz]; exact radd_ge h3 h1 h2 (by omega)⟩
  rw [hz]
  clear hz hcc
  rcases key with ⟨f1, hz⟩ | ⟨f1, f2, hz⟩ | ⟨f1, f2, f3, hz⟩ | ⟨f1, f2, f3, f4, hle, hz⟩ | ⟨f1, f2, f3, f4, hle, hz⟩
  · skip
    obtain ⟨Ca0, Ca1, Fa0, Fa1⟩ := box_cells Ba
    obtain ⟨Cb0, Cb1, Fb0, Fb1⟩ := box_cells Bb
    obtain ⟨Cq0, Cq1, Fq0, Fq1⟩ := box_cells Bq
    obtain rfl : z = y := hz.out
    have hG' : w.grownBy (((w.alloc (.cells #[.int .i64 ga, .slice sa la ca] 40)).alloc (.cells #[.int .i64 gb, .slice sb lb cb] 40)).alloc (.cells #[.int .i64 gb, .slice sb lb cb] 40)) none := (grown_alloc (grown_alloc (World.grownBy_alloc _ _ _) _) _)
    have hF : Hid (RetRInt w (z) (.returned (.agg #[.int .i64 gb, .slice sb lb cb])) (((w.alloc (.cells #[.int .i64 ga, .slice sa la ca] 40)).alloc (.cells #[.int .i64 gb, .slice sb lb cb] 40)).alloc (.cells #[.int .i64 gb, .slice sb lb cb] 40))) := ⟨_, rfl, ob.kept hG', hG'⟩
    clear hG' ra ma' rb mb'
    go_wp2_with fail
    exact bodyPost_ret (v := .agg #[.int .i64 gb, .slice sb lb cb]) (by simp [results, Tryz.results95, go_sem]) rfl hF.out
  · skip
    obtain ⟨Ca0, Ca1, Fa0, Fa1⟩ := box_cells Ba
    obtain ⟨Cb0, Cb1, Fb0, Fb1⟩ := box_cells Bb
    obtain ⟨Cq0, Cq1, Fq0, Fq1⟩ := box_cells Bq
    obtain rfl : z = x := hz.out
    have hG' : w.grownBy (((w.alloc (.cells #[.int .i64 ga, .slice sa la ca] 40)).alloc (.cells #[.int .i64 gb, .slice sb lb cb] 40)).alloc (.cells #[.int .i64 ga, .slice sa la ca] 40)) none := (grown_alloc (grown_alloc (World.grownBy_alloc _ _ _) _) _)
    have hF : Hid (RetRInt w (z) (.returned (.agg #[.int .i64 ga, .slice sa la ca])) (((w.alloc (.cells #[.int .i64 ga, .slice sa la ca] 40)).alloc (.cells #[.int .i64 gb, .slice sb lb cb] 40)).alloc (.cells #[.int .i64 ga, .slice sa la ca] 40))) := ⟨_, rfl, oa.kept hG', hG'⟩
    clear hG' ra ma' rb mb'
    go_wp2_with fail
    exact bodyPost_ret (v := .agg #[.int .i64 ga, .slice sa la ca]) (by simp [results, Tryz.results95, go_sem]) rfl hF.out
  · skip
    obtain ⟨Ca0, Ca1, Fa0, Fa1⟩ := box_cells Ba
    obtain ⟨Cb0, Cb1, Fb0, Fb1⟩ := box_cells Bb
    obtain ⟨Cq0, Cq1, Fq0, Fq1⟩ := box_cells Bq
    go_wp2_with fail
    generalize (((w.alloc (.cells #[.int .i64 ga, .slice sa la ca] 40)).alloc (.cells #[.int .i64 gb, .slice sb lb cb] 40)).alloc (.cells #[.int .i64 0, .slice none 0 0] 40)) = w0 at *
    go_region_held3 (fun w' => w'.cell? ⟨w.heap.size, 0, none⟩ = some (.int .i64 ga) ∧ w'.cell? ⟨w.heap.size, 1, none⟩ = some (.slice sa la ca) ∧ w'.cell? ⟨w.heap.size + 1, 0, none⟩ = some (.int .i64 gb) ∧ w'.cell? ⟨w.heap.size + 1, 1, none⟩ = some (.slice sb lb cb))
      (first | assumption | exact ⟨Ca0, Ca1, Cb0, Cb1⟩ | exact HSw1_20 | go_keep)
      (first
        | (go_at_call 83; (with_reducible refine (rAdd_any w0.drew _ _ x.natAbs y.natAbs (ma'.kept (grown_drew (grown_refl _ _))) (mb'.kept (grown_drew (grown_refl _ _))) Hla.out Hlb.out).mono ?_); rintro e w1_1 ⟨vp, rfl, mp, gw1_1⟩; have hGw1_1 := grown_pre w0 gw1_1 rfl rfl rfl rfl; have hSw1_1 := (And.intro (hGw1_1.cell Ca0 (by simp)) (And.intro (hGw1_1.cell Ca1 (by simp)) (And.intro (hGw1_1.cell Cb0 (by simp)) (hGw1_1.cell Cb1 (by simp))))); clear gw1_1)
        | (go_at_call 82; (with_reducible refine (rMade_any w1_1 _ ga (x.natAbs + y.natAbs) z mp hz.out.1 (Or.inr hz.out.2)).mono ?_); rintro e w1_2 ⟨_, rfl, ⟨gd, sd, ld, cd, rfl, hd, md⟩, gw1_2⟩; have hGw1_2 := grown_trans hGw1_1 gw1_2; replace mp := mp.kept gw1_2; have rd : RIntV w1_2 (.agg #[.int .i64 gd, .slice sd ld cd]) (z) := ⟨gd, sd, ld, cd, rfl, hd, md⟩; have hSw1_2 := (And.intro (hGw1_2.cell Ca0 (by simp)) (And.intro (hGw1_2.cell Ca1 (by simp)) (And.intro (hGw1_2.cell Cb0 (by simp)) (hGw1_2.cell Cb1 (by simp))))); clear gw1_2; clear md; (obtain ⟨dq0, dq1, dq2, dq3⟩ := box_cells (heap_kept hGw1_2 Bq)); have HSw1_20 := (And.intro ((box_cells (heap_unset2 (heap_kept hGw1_2 Ba) (show w.heap.size ≠ w.heap.size + 1 + 1 by omega) (.int .i64 gd) (.slice sd ld cd))).1) (And.intro ((box_cells (heap_unset2 (heap_kept hGw1_2 Ba) (show w.heap.size ≠ w.heap.size + 1 + 1 by omega) (.int .i64 gd) (.slice sd ld cd))).2.1) (And.intro ((box_cells (heap_unset2 (heap_kept hGw1_2 Bb) (show w.heap.size + 1 ≠ w.heap.size + 1 + 1 by omega) (.int .i64 gd) (.slice sd ld cd))).1) ((box_cells (heap_unset2 (heap_kept hGw1_2 Bb) (show w.heap.size + 1 ≠ w.heap.size + 1 + 1 by omega) (.int .i64 gd) (.slice sd ld cd))).2.1))))))
    replace Ba := heap_kept hGw1_2 Ba
    replace Bb := heap_kept hGw1_2 Bb
    replace Bq := heap_kept hGw1_2 Bq
    replace ra := ra.kept hGw1_2
    replace ma' := ma'.kept hGw1_2
    replace rb := rb.kept hGw1_2
    replace mb' := mb'.kept hGw1_2
    replace hG := grown_trans hG hGw1_2
    clear Ca0 Fa0 Ca1 Fa1 Cb0 Fb0 Cb1 Fb1 Cq0 Fq0 Cq1 Fq1
    obtain ⟨k90, k91, k92, k93⟩ := box_cells Bq
    obtain ⟨q90, q91, q92, q93⟩ := box_cells (heap_set2 Bq (.int .i64 gd) (.slice sd ld cd))
    have hF : Hid (RetRInt w (z) (.returned (.agg #[.int .i64 gd, .slice sd ld cd])) ((w1_2.setCell ⟨w.heap.size + 1 + 1, 0, none⟩ (.int .i64 gd)).setCell ⟨w.heap.size + 1 + 1, 1, none⟩ (.slice sd ld cd))) := ret_rintv hG Bq (by omega) rd
    clear ra ma' rb mb' mp rd
    go_wp2_with fail
    exact bodyPost_ret (v := .agg #[.int .i64 gd, .slice sd ld cd]) (by simp [results, Tryz.results95, go_sem, q90, q91]) rfl hF.out
  · skip
    obtain ⟨Ca0, Ca1, Fa0, Fa1⟩ := box_cells Ba
    obtain ⟨Cb0, Cb1, Fb0, Fb1⟩ := box_cells Bb
    obtain ⟨Cq0, Cq1, Fq0, Fq1⟩ := box_cells Bq
    have HLE := Lib.hid hle
    clear hle
    go_wp2_with fail
    generalize (((w.alloc (.cells #[.int .i64 ga, .slice sa la ca] 40)).alloc (.cells #[.int .i64 gb, .slice sb lb cb] 40)).alloc (.cells #[.int .i64 0, .slice none 0 0] 40)) = w0 at *
    clear Ca0 Fa0 Ca1 Fa1 Cb0 Fb0 Cb1 Fb1 Cq0 Fq0 Cq1 Fq1
    refine (rCmp_any w0 _ _ x.natAbs y.natAbs ma' mb' Hla.out Hlb.out).mono ?_
    rintro e w1 ⟨rfl, gw1⟩
    rw [HCC.out]
    replace Ba := heap_kept gw1 Ba
    replace Bb := heap_kept gw1 Bb
    replace Bq := heap_kept gw1 Bq
    replace ra := ra.kept gw1
    replace ma' := ma'.kept gw1
    replace rb := rb.kept gw1
    replace mb' := mb'.kept gw1
    replace hG := grown_trans hG gw1
    clear gw1
    obtain ⟨Ca0, Ca1, Fa0, Fa1⟩ := box_cells Ba
    obtain ⟨Cb0, Cb1, Fb0, Fb1⟩ := box_cells Bb
    obtain ⟨Cq0, Cq1, Fq0, Fq1⟩ := box_cells Bq
    go_wp2_with fail
    go_region_held3 (fun w' => w'.cell? ⟨w.heap.size, 0, none⟩ = some (.int .i64 ga) ∧ w'.cell? ⟨w.heap.size, 1, none⟩ = some (.slice sa la ca) ∧ w'.cell? ⟨w.heap.size + 1, 0, none⟩ = some (.int .i64 gb) ∧ w'.cell? ⟨w.heap.size + 1, 1, none⟩ = some (.slice sb lb cb))
      (first | assumption | exact ⟨Ca0, Ca1, Cb0, Cb1⟩ | exact HSw2_20 | go_keep)
      (first
        | (go_at_call 120; (with_reducible refine (rLess_any w1.drew _ _ x.natAbs y.natAbs (ma'.kept (grown_drew (grown_refl _ _))) (mb'.kept (grown_drew (grown_refl _ _))) HLE.out Hla.out).mono ?_); rintro e w2_1 ⟨vp, rfl, mp, gw2_1⟩; have hGw2_1 := grown_pre w1 gw2_1 rfl rfl rfl rfl; have hSw2_1 := (And.intro (hGw2_1.cell Ca0 (by simp)) (And.intro (hGw2_1.cell Ca1 (by simp)) (And.intro (hGw2_1.cell Cb0 (by simp)) (hGw2_1.cell Cb1 (by simp))))); clear gw2_1)
        | (go_at_call 82; (with_reducible refine (rMade_any w2_1 _ ga (x.natAbs - y.natAbs) z mp hz.out.1 hz.out.2).mono ?_); rintro e w2_2 ⟨_, rfl, ⟨gd, sd, ld, cd, rfl, hd, md⟩, gw2_2⟩; have hGw2_2 := grown_trans hGw2_1 gw2_2; replace mp := mp.kept gw2_2; have rd : RIntV w2_2 (.agg #[.int .i64 gd, .slice sd ld cd]) (z) := ⟨gd, sd, ld, cd, rfl, hd, md⟩; have hSw2_2 := (And.intro (hGw2_2.cell Ca0 (by simp)) (And.intro (hGw2_2.cell Ca1 (by simp)) (And.intro (hGw2_2.cell Cb0 (by simp)) (hGw2_2.cell Cb1 (by simp))))); clear gw2_2; clear md; (obtain ⟨dq0, dq1, dq2, dq3⟩ := box_cells (heap_kept hGw2_2 Bq)); have HSw2_20 := (And.intro ((box_cells (heap_unset2 (heap_kept hGw2_2 Ba) (show w.heap.size ≠ w.heap.size + 1 + 1 by omega) (.int .i64 gd) (.slice sd ld cd))).1) (And.intro ((box_cells (heap_unset2 (heap_kept hGw2_2 Ba) (show w.heap.size ≠ w.heap.size + 1 + 1 by omega) (.int .i64 gd) (.slice sd ld cd))).2.1) (And.intro ((box_cells (heap_unset2 (heap_kept hGw2_2 Bb) (show w.heap.size + 1 ≠ w.heap.size + 1 + 1 by omega) (.int .i64 gd) (.slice sd ld cd))).1) ((box_cells (heap_unset2 (heap_kept hGw2_2 Bb) (show w.heap.size + 1 ≠ w.heap.size + 1 + 1 by omega) (.int .i64 gd) (.slice sd ld cd))).2.1))))))
    replace Ba := heap_kept hGw2_2 Ba
    replace Bb := heap_kept hGw2_2 Bb
    replace Bq := heap_kept hGw2_2 Bq
    replace ra := ra.kept hGw2_2
    replace ma' := ma'.kept hGw2_2
    replace rb := rb.kept hGw2_2
    replace mb' := mb'.kept hGw2_2
    replace hG := grown_trans hG hGw2_2
    clear Ca0 Fa0 Ca1 Fa1 Cb0 Fb0 Cb1 Fb1 Cq0 Fq0 Cq1 Fq1
    obtain ⟨k90, k91, k92, k93⟩ := box_cells Bq
    obtain ⟨q90, q91, q92, q93⟩ := box_cells (heap_set2 Bq (.int .i64 gd) (.slice sd ld cd))
    have hF : Hid (RetRInt w (z) (.returned (.agg #[.int .i64 gd, .slice sd ld cd])) ((w2_2.setCell ⟨w.heap.size + 1 + 1, 0, none⟩ (.int .i64 gd)).setCell ⟨w.heap.size + 1 + 1, 1, none⟩ (.slice sd ld cd))) := ret_rintv hG Bq (by omega) rd
    clear ra ma' rb mb' mp rd
    go_wp2_with fail
    exact bodyPost_ret (v := .agg #[.int .i64 gd, .slice sd ld cd]) (by simp [results, Tryz.results95, go_sem, q90, q91]) rfl hF.out
  · skip
    obtain ⟨Ca0, Ca1, Fa0, Fa1⟩ := box_cells Ba
    obtain ⟨Cb0, Cb1, Fb0, Fb1⟩ := box_cells Bb
    obtain ⟨Cq0, Cq1, Fq0, Fq1⟩ := box_cells Bq
    have HLE := Lib.hid hle
    clear hle
    go_wp2_with fail
    generalize (((w.alloc (.cells #[.int .i64 ga, .slice sa la ca] 40)).alloc (.cells #[.int .i64 gb, .slice sb lb cb] 40)).alloc (.cells #[.int .i64 0, .slice none 0 0] 40)) = w0 at *
    clear Ca0 Fa0 Ca1 Fa1 Cb0 Fb0 Cb1 Fb1 Cq0 Fq0 Cq1 Fq1
    refine (rCmp_any w0 _ _ x.natAbs y.natAbs ma' mb' Hla.out Hlb.out).mono ?_
    rintro e w1 ⟨rfl, gw1⟩
    rw [HCC.out]
    replace Ba := heap_kept gw1 Ba
    replace Bb := heap_kept gw1 Bb
    replace Bq := heap_kept gw1 Bq
    replace ra := ra.kept gw1
    replace ma' := ma'.kept gw1
    replace rb := rb.kept gw1
    replace mb' := mb'.kept gw1
    replace hG := grown_trans hG gw1
    clear gw1
    obtain ⟨Ca0, Ca1, Fa0, Fa1⟩ := box_cells Ba
    obtain ⟨Cb0, Cb1, Fb0, Fb1⟩ := box_cells Bb
    obtain ⟨Cq0, Cq1, Fq0, Fq1⟩ := box_cells Bq
    go_wp2_with fail
    go_region_held3 (fun w' => w'.cell? ⟨w.heap.size, 0, none⟩ = some (.int .i64 ga) ∧ w'.cell? ⟨w.heap.size, 1, none⟩ = some (.slice sa la ca) ∧ w'.cell? ⟨w.heap.size + 1, 0, none⟩ = some (.int .i64 gb) ∧ w'.cell? ⟨w.heap.size + 1, 1, none⟩ = some (.slice sb lb cb))
      (first | assumption | exact ⟨Ca0, Ca1, Cb0, Cb1⟩ | exact HSw2_20 | go_keep)
      (first
        | (go_at_call 120; (with_reducible refine (rLess_any w1.drew _ _ y.natAbs x.natAbs (mb'.kept (grown_drew (grown_refl _ _))) (ma'.kept (grown_drew (grown_refl _ _))) HLE.out Hlb.out).mono ?_); rintro e w2_1 ⟨vp, rfl, mp, gw2_1⟩; have hGw2_1 := grown_pre w1 gw2_1 rfl rfl rfl rfl; have hSw2_1 := (And.intro (hGw2_1.cell Ca0 (by simp)) (And.intro (hGw2_1.cell Ca1 (by simp)) (And.intro (hGw2_1.cell Cb0 (by simp)) (hGw2_1.cell Cb1 (by simp))))); clear gw2_1)
        | (go_at_call 82; (with_reducible refine (rMade_any w2_1 _ gb (y.natAbs - x.natAbs) z mp hz.out.1 hz.out.2).mono ?_); rintro e w2_2 ⟨_, rfl, ⟨gd, sd, ld, cd, rfl, hd, md⟩, gw2_2⟩; have hGw2_2 := grown_trans hGw2_1 gw2_2; replace mp := mp.kept gw2_2; have rd : RIntV w2_2 (.agg #[.int .i64 gd, .slice sd ld cd]) (z) := ⟨gd, sd, ld, cd, rfl, hd, md⟩; have hSw2_2 := (And.intro (hGw2_2.cell Ca0 (by simp)) (And.intro (hGw2_2.cell Ca1 (by simp)) (And.intro (hGw2_2.cell Cb0 (by simp)) (hGw2_2.cell Cb1 (by simp))))); clear gw2_2; clear md; (obtain ⟨dq0, dq1, dq2, dq3⟩ := box_cells (heap_kept hGw2_2 Bq)); have HSw2_20 := (And.intro ((box_cells (heap_unset2 (heap_kept hGw2_2 Ba) (show w.heap.size ≠ w.heap.size + 1 + 1 by omega) (.int .i64 gd) (.slice sd ld cd))).1) (And.intro ((box_cells (heap_unset2 (heap_kept hGw2_2 Ba) (show w.heap.size ≠ w.heap.size + 1 + 1 by omega) (.int .i64 gd) (.slice sd ld cd))).2.1) (And.intro ((box_cells (heap_unset2 (heap_kept hGw2_2 Bb) (show w.heap.size + 1 ≠ w.heap.size + 1 + 1 by omega) (.int .i64 gd) (.slice sd ld cd))).1) ((box_cells (heap_unset2 (heap_kept hGw2_2 Bb) (show w.heap.size + 1 ≠ w.heap.size + 1 + 1 by omega) (.int .i64 gd) (.slice sd ld cd))).2.1))))))
    replace Ba := heap_kept hGw2_2 Ba
    replace Bb := heap_kept hGw2_2 Bb
    replace Bq := heap_kept hGw2_2 Bq
    replace ra := ra.kept hGw2_2
    replace ma' := ma'.kept hGw2_2
    replace rb := rb.kept hGw2_2
    replace mb' := mb'.kept hGw2_2
    replace hG := grown_trans hG hGw2_2
    clear Ca0 Fa0 Ca1 Fa1 Cb0 Fb0 Cb1 Fb1 Cq0 Fq0 Cq1 Fq1
    obtain ⟨k90, k91, k92, k93⟩ := box_cells Bq
    obtain ⟨q90, q91, q92, q93⟩ := box_cells (heap_set2 Bq (.int .i64 gd) (.slice sd ld cd))
    have hF : Hid (RetRInt w (z) (.returned (.agg #[.int .i64 gd, .slice sd ld cd])) ((w2_2.setCell ⟨w.heap.size + 1 + 1, 0, none⟩ (.int .i64 gd)).setCell ⟨w.heap.size + 1 + 1, 1, none⟩ (.slice sd ld cd))) := ret_rintv hG Bq (by omega) rd
    clear ra ma' rb mb' mp rd
    go_wp2_with fail
    exact bodyPost_ret (v := .agg #[.int .i64 gd, .slice sd ld cd]) (by simp [results, Tryz.results95, go_sem, q90, q91]) rfl hF.out
set_option maxHeartbeats 4000000 in
theorem rZOf_any (w : World) (n : Int) (h1 : -9223372036854775808 ≤ n) (h2 : n ≤ 9223372036854775807) :
    Calls Tryz.prog 42 #[.int .i64 n] w (RetRInt w n) := by
  by_cases hn : n < 0
  · skip
    have f1 : decide (n < 0) = true := decide_eq_true hn
    obtain ⟨m, hm⟩ : ∃ m : Nat, n = -(m : Int) - 1 := ⟨(-(n + 1)).toNat, by omega⟩
    obtain ⟨k1, hk1⟩ : ∃ k, IntKind.i64.wrap (n + 1) = k := ⟨_, rfl⟩
    obtain ⟨k2, hk2⟩ : ∃ k, IntKind.i64.wrap (-k1) = k := ⟨_, rfl⟩
    have hk3 : IntKind.u64.wrap k2 = (m : Int) := by rw [IntKind.wrap_i64] at hk1 hk2; rw [IntKind.wrap_u64]; omega
    have HM : Hid (m < B) := by show m < B; unfold B; omega
    have HB1 : Hid (m < D ^ 1000000) := Lib.hid (lt_D1 HM.out)
    have HB2 : Hid (1 < D ^ 1000000) := Lib.hid (lt_D1 (show 1 < B by unfold B; omega))
    have HN : Hid (n.natAbs = m + 1) := by show _ = _; omega
    have HSG : Hid (n.sign = -1) := Int.sign_eq_neg_one_of_neg hn
    clear hm h1 h2 hn
    have hG : w.grownBy (w.alloc (.cells #[.int .i64 0, .slice none 0 0] 40)) none := (World.grownBy_alloc _ _ _)
    have Bq := (heap_new w (.cells #[.int .i64 0, .slice none 0 0] 40) (w.heap.size) rfl)
    go_enter Tryz.func42, Tryz.ntmps42
    obtain ⟨Cq0, Cq1, Fq0, Fq1⟩ := box_cells Bq
    go_wp2_with fail
    generalize (w.alloc (.cells #[.int .i64 0, .slice none 0 0] 40)) = w0 at *
    clear Cq0 Fq0 Cq1 Fq1
    refine (rOf_any w0 m HM.out).mono ?_
    rintro e w1 ⟨vp, rfl, mp, gw1⟩
    replace Bq := heap_kept gw1 Bq
    replace hG := grown_trans hG gw1
    clear gw1
    obtain ⟨Cq0, Cq1, Fq0, Fq1⟩ := box_cells Bq
    go_wp2_with fail
    clear Cq0 Fq0 Cq1 Fq1
    refine (rof_1 w1).mono ?_
    rintro e w2 ⟨vo, rfl, mo, gw2⟩
    replace Bq := heap_kept gw2 Bq
    replace mp := mp.kept gw2
    replace hG := grown_trans hG gw2
    clear gw2
    obtain ⟨Cq0, Cq1, Fq0, Fq1⟩ := box_cells Bq
    go_wp2_with fail
    clear Cq0 Fq0 Cq1 Fq1
    refine (rAdd_any w2 _ _ m 1 mp mo HB1.out HB2.out).mono ?_
    rintro e w3 ⟨vs, rfl, ms, gw3⟩
    replace Bq := heap_kept gw3 Bq
    replace mp := mp.kept gw3
    replace mo := mo.kept gw3
    replace hG := grown_trans hG gw3
    clear gw3
    obtain ⟨Cq0, Cq1, Fq0, Fq1⟩ := box_cells Bq
    go_wp2_with fail
    clear Cq0 Fq0 Cq1 Fq1
    refine (rMade_any w3 _ (-1) (m + 1) n ms HN.out (Or.inr HSG.out)).mono ?_
    rintro e w4 ⟨_, rfl, ⟨gd, sd, ld, cd, rfl, hd, md⟩, gw4⟩
    have rd : RIntV w4 (.agg #[.int .i64 gd, .slice sd ld cd]) (n) := ⟨gd, sd, ld, cd, rfl, hd, md⟩
    replace Bq := heap_kept gw4 Bq
    replace mp := mp.kept gw4
    replace mo := mo.kept gw4
    replace ms := ms.kept gw4
    replace hG := grown_trans hG gw4
    clear gw4
    clear md
    obtain ⟨Cq0, Cq1, Fq0, Fq1⟩ := box_cells Bq
    clear Cq0 Fq0 Cq1 Fq1
    obtain ⟨k90, k91, k92, k93⟩ := box_cells Bq
    obtain ⟨q90, q91, q92, q93⟩ := box_cells (heap_set2 Bq (.int .i64 gd) (.slice sd ld cd))
    have hF : Hid (RetRInt w (n) (.returned (.agg #[.int .i64 gd, .slice sd ld cd])) ((w4.setCell ⟨w.heap.size, 0, none⟩ (.int .i64 gd)).setCell ⟨w.heap.size, 1, none⟩ (.slice sd ld cd))) := ret_rintv hG Bq (by omega) rd
    clear mp mo ms rd
    go_wp2_with fail
    exact bodyPost_ret (v := .agg #[.int .i64 gd, .slice sd ld cd]) (by simp [results, Tryz.results42, go_sem, q90, q91]) rfl hF.out
  · skip
    have f1 : decide (n < 0) = false := decide_eq_false hn
    obtain ⟨m, hm⟩ : ∃ m : Nat, n = (m : Int) := ⟨n.toNat, by omega⟩
    have hk3 : IntKind.u64.wrap n = (m : Int) := by rw [IntKind.wrap_u64]; omega
    have HM : Hid (m < B) := by show m < B; unfold B; omega
    have HN : Hid (n.natAbs = m) := by show _ = _; omega
    have HSG : Hid (m = 0 ∨ n.sign = 1) := by
      show _ ∨ _
      rcases zsign n with ⟨h, e⟩ | ⟨h, e⟩ | ⟨h, e⟩
      · omega
      · left; omega
      · right; exact e
    clear hm h1 h2 hn
    have hG : w.grownBy (w.alloc (.cells #[.int .i64 0, .slice none 0 0] 40)) none := (World.grownBy_alloc _ _ _)
    have Bq := (heap_new w (.cells #[.int .i64 0, .slice none 0 0] 40) (w.heap.size) rfl)
    go_enter Tryz.func42, Tryz.ntmps42
    obtain ⟨Cq0, Cq1, Fq0, Fq1⟩ := box_cells Bq
    go_wp2_with fail
    generalize (w.alloc (.cells #[.int .i64 0, .slice none 0 0] 40)) = w0 at *
    clear Cq0 Fq0 Cq1 Fq1
    refine (rOf_any w0 m HM.out).mono ?_
    rintro e w1 ⟨vp, rfl, mp, gw1⟩
    replace Bq := heap_kept gw1 Bq
    replace hG := grown_trans hG gw1
    clear gw1
    obtain ⟨Cq0, Cq1, Fq0, Fq1⟩ := box_cells Bq
    go_wp2_with fail
    clear Cq0 Fq0 Cq1 Fq1
    refine (rMade_any w1 _ 1 m n mp HN.out HSG.out).mono ?_
    rintro e w2 ⟨_, rfl, ⟨gd, sd, ld, cd, rfl, hd, md⟩, gw2⟩
    have rd : RIntV w2 (.agg #[.int .i64 gd, .slice sd ld cd]) (n) := ⟨gd, sd, ld, cd, rfl, hd, md⟩
    replace Bq := heap_kept gw2 Bq
    replace mp := mp.kept gw2
    replace hG := grown_trans hG gw2
    clear gw2
    clear md
    obtain ⟨Cq0, Cq1, Fq0, Fq1⟩ := box_cells Bq
    clear Cq0 Fq0 Cq1 Fq1
    obtain ⟨k90, k91, k92, k93⟩ := box_cells Bq
    obtain ⟨q90, q91, q92, q93⟩ := box_cells (heap_set2 Bq (.int .i64 gd) (.slice sd ld cd))
    have hF : Hid (RetRInt w (n) (.returned (.agg #[.int .i64 gd, .slice sd ld cd])) ((w2.setCell ⟨w.heap.size, 0, none⟩ (.int .i64 gd)).setCell ⟨w.heap.size, 1, none⟩ (.slice sd ld cd))) := ret_rintv hG Bq (by omega) rd
    clear mp rd
    go_wp2_with fail
    exact bodyPost_ret (v := .agg #[.int .i64 gd, .slice sd ld cd]) (by simp [results, Tryz.results42, go_sem, q90, q91]) rfl hF.out
def RetZText (w : World) (z : Int) (e : Ending) (w' : World) : Prop := ∃ s, e = .returned (.string s) ∧ ZTextOf s z ∧ w.grownBy w' none
set_option maxHeartbeats 4000000 in
theorem rZText_any (w : World) (va : Value) (x : Int) (Ha : RIntV w va x) (la' : x.natAbs < D ^ 1000000) :
    Calls Tryz.prog 54 #[va] w (RetZText w x) := by
  have Hla := Lib.hid la'
  clear la'
  obtain ⟨ga, sa, la, ca, rfl, ha, ma⟩ := Ha
  have hG : w.grownBy (w.alloc (.cells #[.int .i64 ga, .slice sa la ca] 40)) none := (World.grownBy_alloc _ _ _)
  have Ba := (heap_new w (.cells #[.int .i64 ga, .slice sa la ca] 40) (w.heap.size) rfl)
  have ra : RIntV (w.alloc (.cells #[.int .i64 ga, .slice sa la ca] 40)) (.agg #[.int .i64 ga, .slice sa la ca]) (x) := ⟨ga, sa, la, ca, rfl, ha, ma.kept hG⟩
  have ma' : RefV (w.alloc (.cells #[.int .i64 ga, .slice sa la ca] 40)) (.agg #[.slice sa la ca]) (x).natAbs := ma.kept hG
  have oa : RIntV w (.agg #[.int .i64 ga, .slice sa la ca]) (x) := ⟨ga, sa, la, ca, rfl, ha, ma⟩
  clear ma
  go_enter Tryz.func54, Tryz.ntmps54
  have hc : (decide (ga < 0) = true ∧ Hid (x < 0)) ∨ (decide (ga < 0) = false ∧ Hid (¬ x < 0)) := by
    have ea := ha.out
    rcases zsign x with ⟨h, e⟩ | ⟨h, e⟩ | ⟨h, e⟩
    · left; exact ⟨decide_eq_true (by omega), h⟩
    · right; exact ⟨decide_eq_false (by omega), by show ¬ _; omega⟩
    · right; exact ⟨decide_eq_false (by omega), by show ¬ _; omega⟩
  rcases hc with ⟨f1, HZ⟩ | ⟨f1, HZ⟩
  · skip
    obtain ⟨Ca0, Ca1, Fa0, Fa1⟩ := box_cells Ba
    go_wp2_with fail
    generalize (w.alloc (.cells #[.int .i64 ga, .slice sa la ca] 40)) = w0 at *
    clear Ca0 Fa0 Ca1 Fa1
    refine (rtext_any w0 _ x.natAbs ma' Hla.out).mono ?_
    rintro e w1 ⟨s, rfl, hd, hdv, gw1⟩
    replace Ba := heap_kept gw1 Ba
    replace ra := ra.kept gw1
    replace ma' := ma'.kept gw1
    replace hG := grown_trans hG gw1
    clear gw1
    obtain ⟨Ca0, Ca1, Fa0, Fa1⟩ := box_cells Ba
    have hsz : s.size ≤ 4000000 := by
      rw [← bts_len]
      exact dlen hd hdv Hla.out (by omega)
    have hF : Hid (ZTextOf ({ data := #[45] } ++ s) x) := ⟨bts s, hd, hdv, by rw [bts_app, if_pos HZ.out]; rfl⟩
    clear hd hdv
    go_wp2_with fail
    go_ret
    exact ⟨_, rfl, hF.out, hG⟩
  · skip
    obtain ⟨Ca0, Ca1, Fa0, Fa1⟩ := box_cells Ba
    go_wp2_with fail
    generalize (w.alloc (.cells #[.int .i64 ga, .slice sa la ca] 40)) = w0 at *
    clear Ca0 Fa0 Ca1 Fa1
    refine (rtext_any w0 _ x.natAbs ma' Hla.out).mono ?_
    rintro e w1 ⟨s, rfl, hd, hdv, gw1⟩
    replace Ba := heap_kept gw1 Ba
    replace ra := ra.kept gw1
    replace ma' := ma'.kept gw1
    replace hG := grown_trans hG gw1
    clear gw1
    obtain ⟨Ca0, Ca1, Fa0, Fa1⟩ := box_cells Ba
    have hF : Hid (ZTextOf s x) := ⟨bts s, hd, hdv, by rw [if_neg (by have := HZ.out; omega)]⟩
    clear hd hdv
    go_wp2_with fail
    go_ret
    exact ⟨_, rfl, hF.out, hG⟩
end Go.Proofs.YthbhgcaemcobeaaGreatDoor
