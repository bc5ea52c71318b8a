/- The document's whole numbers below 0 too: the notion; made, the other side, which is greater. -/
import Derived.Test.YtldkddogadmpbaaGreatDoorZedCmp
import Derived.Test.YtldkddogadmpbaaGreatDoorRefText
import Derived.Test.YtldkddogadmpbaaGreatDoorRefMul
import Derived.Test.YtldkddogadmpbaaGreatDoorRefLess
import Derived.Deep.RegionHeld3
namespace Go.Proofs.YtldkddogadmpbaaGreatDoor
open Go.RowKit Mat
set_option maxRecDepth 100000
set_option linter.unusedVariables false
set_option linter.unusedSimpArgs false

/-- A whole number as the document has it: its sign, and how far it is from 0. -/
def RIntV (w : World) (v : Value) (z : Int) : Prop := ∃ (g : Int) (s : Option Addr) (l c : Nat), v = .agg #[.int .i64 g, .slice s l c] ∧ Hid (g = z.sign) ∧ RefV w (.agg #[.slice s l c]) z.natAbs
theorem RIntV.kept {w w' : World} {v : Value} {z : Int} (h : RIntV w v z) (hg : w.grownBy w' none) : RIntV w' v z := by
  obtain ⟨g, s, l, c, e, h1, h2⟩ := h
  exact ⟨g, s, l, c, e, h1, h2.kept hg⟩
theorem RIntV.zero (w : World) : RIntV w (.agg #[.int .i64 0, .slice none 0 0]) 0 := ⟨0, none, 0, 0, rfl, rfl, RefV.zero w⟩
def RetRInt (w : World) (z : Int) (e : Ending) (w' : World) : Prop := ∃ v, e = .returned v ∧ RIntV w' v z ∧ w.grownBy w' none
theorem RIntV.set_other {w : World} {v : Value} {n : Int} {g : Nat} {c : Array Value} {t : TypeId} (h : RIntV w v n) (hbox : w.heap[g]? = some (.cells c t (0, 0))) (ht : t ≠ 3) (o : Nat) (u : Value) : RIntV (w.setCell ⟨g, o, none⟩ u) v n := by
  obtain ⟨s, a, l, k, e, h1, h2⟩ := h
  exact ⟨s, a, l, k, e, h1, h2.set_other hbox ht o u⟩
theorem heap_setfst {w : World} {g : Nat} {a0 a1 : Value} {t : TypeId} (h : w.heap[g]? = some (.cells #[a0, a1] t (0, 0))) (v0 : Value) : (w.setCell ⟨g, 0, none⟩ v0).heap[g]? = some (.cells #[v0, a1] t (0, 0)) := by
  simp [World.setCell, Array.getElem?_modify, h]
theorem grown_two {w w' : World} {g : Nat} (hg : w.grownBy w' none) (hl : w.heap.size ≤ g) (v0 v1 : Value) : w.grownBy ((w'.setCell ⟨g, 0, none⟩ v0).setCell ⟨g, 1, none⟩ v1) none :=
  grown_new (grown_new hg (grown_set (grown_refl _ _) _ _) hl) (grown_set (grown_refl _ _) _ _) hl
theorem ret_rintv {w w' : World} {z : Int} {g : Nat} {a0 a1 v0 v1 : Value} (hg : w.grownBy w' none) (hbox : w'.heap[g]? = some (.cells #[a0, a1] 36 (0, 0))) (hl : w.heap.size ≤ g) (h : RIntV w' (.agg #[v0, v1]) z) :
    RetRInt w z (.returned (.agg #[v0, v1])) ((w'.setCell ⟨g, 0, none⟩ v0).setCell ⟨g, 1, none⟩ v1) :=
  ⟨_, rfl, (h.set_other hbox (by decide) 0 v0).set_other (heap_setfst hbox v0) (by decide) 1 v1, grown_two hg hl v0 v1⟩
theorem rv_len {w : World} {s : Option Addr} {l c n : Nat} (h : RefV w (.agg #[.slice s l c]) n) : (n = 0 → l = 0) ∧ (0 < n → 0 < l) := by
  obtain ⟨s', l', c', xs, e, hl, -, -, ht, -, hv⟩ := h
  cases e
  refine ⟨fun h0 => ?_, fun h0 => ?_⟩
  · have := (val_zero_iff D D_pos xs ht).1 (hv.trans h0)
    rw [← hl, this]; rfl
  · rcases Nat.eq_zero_or_pos l with h1 | h1
    · rw [h1] at hl
      rw [List.length_eq_zero_iff.1 hl] at hv
      simp [val] at hv; omega
    · exact h1

set_option maxHeartbeats 4000000 in
theorem rMade_any (w : World) (va : Value) (s : Int) (n : Nat) (z : Int) (Ha : RefV w va n) (hz : z.natAbs = n) (hs : n = 0 ∨ z.sign = s) :
    Calls Tryz.prog 21 #[.int .i64 s, va] w (RetRInt w z) := by
  have HS : Hid (n = 0 ∨ z.sign = s) := hs
  have HZ := Lib.hid hz
  clear hz hs
  have HL := Lib.hid Ha
  rcases Nat.eq_zero_or_pos n with h0 | h0
  · skip
    obtain rfl : z = 0 := by have := HZ.out; omega
    subst h0
    obtain ⟨sa, la, ca, ya, rfl, ha⟩ := Ha
    obtain rfl : la = 0 := (rv_len HL.out).1 rfl
    have Ha : RefV w (.agg #[.slice sa 0 ca]) 0 := HL.out
    clear HL ha HS HZ
    have hG : w.grownBy ((w.alloc (.cells #[.slice sa 0 ca] 34)).alloc (.cells #[.int .i64 0, .slice none 0 0] 36)) none := grown_alloc (World.grownBy_alloc _ _ _) _
    have Ba := heap_kept (World.grownBy_alloc _ (.cells #[.int .i64 0, .slice none 0 0] 36) none) (heap_new w (.cells #[.slice sa 0 ca] 34) w.heap.size rfl)
    have Bq := heap_new (w.alloc (.cells #[.slice sa 0 ca] 34)) (.cells #[.int .i64 0, .slice none 0 0] 36) (w.heap.size + 1) (by simp)
    have ma := Ha.kept hG
    go_enter Tryz.func21, Tryz.ntmps21
    obtain ⟨Ca0, Fa0⟩ := box_cell Ba
    obtain ⟨Cq0, Cq1, Fq0, Fq1⟩ := box_cells Bq
    have hG' : w.grownBy ((w.alloc (.cells #[.slice sa 0 ca] 34)).alloc (.cells #[.int .i64 0, .slice none 0 0] 36)) none := (grown_alloc (World.grownBy_alloc _ _ _) _)
    have hF : Hid (RetRInt w (0) (.returned (.agg #[.int .i64 0, .slice none 0 0])) ((w.alloc (.cells #[.slice sa 0 ca] 34)).alloc (.cells #[.int .i64 0, .slice none 0 0] 36))) := ⟨_, rfl, RIntV.zero _, hG'⟩
    clear hG' ma
    go_wp2_with fail
    exact bodyPost_ret (v := .agg #[.int .i64 0, .slice none 0 0]) (by simp [results, Tryz.results21, go_sem]) rfl hF.out
  · skip
    obtain hs : z.sign = s := HS.out.resolve_left (by omega)
    obtain ⟨sa, la, ca, ya, rfl, ha⟩ := Ha
    have hl := (rv_len HL.out).2 h0
    have f1 : ((la : Int) == 0) = false := beq_eq_false_iff_ne.2 (by omega)
    have Ha : RefV w (.agg #[.slice sa la ca]) n := HL.out
    have HS2 := Lib.hid hs
    clear HL ha HS hs hl
    have hG : w.grownBy ((w.alloc (.cells #[.slice sa la ca] 34)).alloc (.cells #[.int .i64 0, .slice none 0 0] 36)) none := grown_alloc (World.grownBy_alloc _ _ _) _
    have Ba := heap_kept (World.grownBy_alloc _ (.cells #[.int .i64 0, .slice none 0 0] 36) none) (heap_new w (.cells #[.slice sa la ca] 34) w.heap.size rfl)
    have Bq := heap_new (w.alloc (.cells #[.slice sa la ca] 34)) (.cells #[.int .i64 0, .slice none 0 0] 36) (w.heap.size + 1) (by simp)
    have ma := Ha.kept hG
    go_enter Tryz.func21, Tryz.ntmps21
    obtain ⟨Ca0, Fa0⟩ := box_cell Ba
    obtain ⟨Cq0, Cq1, Fq0, Fq1⟩ := box_cells Bq
    have hG' : w.grownBy ((w.alloc (.cells #[.slice sa la ca] 34)).alloc (.cells #[.int .i64 s, .slice sa la ca] 36)) none := (grown_alloc (World.grownBy_alloc _ _ _) _)
    have hF : Hid (RetRInt w (z) (.returned (.agg #[.int .i64 s, .slice sa la ca])) ((w.alloc (.cells #[.slice sa la ca] 34)).alloc (.cells #[.int .i64 s, .slice sa la ca] 36))) := ⟨_, rfl, ⟨s, sa, la, ca, rfl, HS2.out.symm, by rw [HZ.out]; exact Ha.kept hG'⟩, hG'⟩
    clear hG' ma
    go_wp2_with fail
    exact bodyPost_ret (v := .agg #[.int .i64 s, .slice sa la ca]) (by simp [results, Tryz.results21, go_sem]) rfl hF.out

theorem sign_bd (z : Int) : -1 ≤ z.sign ∧ z.sign ≤ 1 := by
  rcases zsign z with ⟨_, e⟩ | ⟨_, e⟩ | ⟨_, e⟩ <;> omega
set_option maxHeartbeats 4000000 in
theorem rNeg_any (w : World) (va : Value) (x : Int) (Ha : RIntV w va x) :
    Calls Tryz.prog 49 #[va] w (RetRInt w (-x)) := by
  obtain ⟨ga, sa, la, ca, rfl, ha, ma⟩ := Ha
  have hG : w.grownBy ((w.alloc (.cells #[.int .i64 ga, .slice sa la ca] 36)).alloc (.cells #[.int .i64 0, .slice none 0 0] 36)) none := (grown_alloc (World.grownBy_alloc _ _ _) _)
  have Ba := heap_kept (World.grownBy_alloc _ (.cells #[.int .i64 0, .slice none 0 0] 36) none) (heap_new w (.cells #[.int .i64 ga, .slice sa la ca] 36) (w.heap.size) rfl)
  have Bq := (heap_new (w.alloc (.cells #[.int .i64 ga, .slice sa la ca] 36)) (.cells #[.int .i64 0, .slice none 0 0] 36) (w.heap.size + 1) (by simp))
  have ra : RIntV ((w.alloc (.cells #[.int .i64 ga, .slice sa la ca] 36)).alloc (.cells #[.int .i64 0, .slice none 0 0] 36)) (.agg #[.int .i64 ga, .slice sa la ca]) (x) := ⟨ga, sa, la, ca, rfl, ha, ma.kept hG⟩
  have ma' : RefV ((w.alloc (.cells #[.int .i64 ga, .slice sa la ca] 36)).alloc (.cells #[.int .i64 0, .slice none 0 0] 36)) (.agg #[.slice sa la ca]) (x).natAbs := ma.kept hG
  have oa : RIntV w (.agg #[.int .i64 ga, .slice sa la ca]) (x) := ⟨ga, sa, la, ca, rfl, ha, ma⟩
  clear ma
  go_enter Tryz.func49, Tryz.ntmps49
  have hb := sign_bd x
  rw [← ha.out] at hb
  obtain ⟨hb1, hb2⟩ := hb
  obtain ⟨Ca0, Ca1, Fa0, Fa1⟩ := box_cells Ba
  obtain ⟨Cq0, Cq1, Fq0, Fq1⟩ := box_cells Bq
  go_wp2_with fail
  generalize ((w.alloc (.cells #[.int .i64 ga, .slice sa la ca] 36)).alloc (.cells #[.int .i64 0, .slice none 0 0] 36)) = w0 at *
  clear Ca0 Fa0 Ca1 Fa1 Cq0 Fq0 Cq1 Fq1
  refine (rMade_any w0 _ (-ga) x.natAbs (-x) ma' (by omega) (Or.inr (by rw [Int.sign_neg, ha.out]))).mono ?_
  rintro e w1 ⟨_, rfl, ⟨gd, sd, ld, cd, rfl, hd, md⟩, gw1⟩
  have rd : RIntV w1 (.agg #[.int .i64 gd, .slice sd ld cd]) (-x) := ⟨gd, sd, ld, cd, rfl, hd, md⟩
  replace Ba := heap_kept gw1 Ba
  replace Bq := heap_kept gw1 Bq
  replace ra := ra.kept gw1
  replace ma' := ma'.kept gw1
  replace hG := grown_trans hG gw1
  clear gw1
  clear md
  obtain ⟨Ca0, Ca1, Fa0, Fa1⟩ := box_cells Ba
  obtain ⟨Cq0, Cq1, Fq0, Fq1⟩ := box_cells Bq
  clear Ca0 Fa0 Ca1 Fa1 Cq0 Fq0 Cq1 Fq1
  obtain ⟨k90, k91, k92, k93⟩ := box_cells Bq
  obtain ⟨q90, q91, q92, q93⟩ := box_cells (heap_set2 Bq (.int .i64 gd) (.slice sd ld cd))
  have hF : Hid (RetRInt w (-x) (.returned (.agg #[.int .i64 gd, .slice sd ld cd])) ((w1.setCell ⟨w.heap.size + 1, 0, none⟩ (.int .i64 gd)).setCell ⟨w.heap.size + 1, 1, none⟩ (.slice sd ld cd))) := ret_rintv hG Bq (by omega) rd
  clear ra ma' rd
  go_wp2_with fail
  exact bodyPost_ret (v := .agg #[.int .i64 gd, .slice sd ld cd]) (by simp [results, Tryz.results49, go_sem, q90, q91]) rfl hF.out

theorem cmp_bd (a b : Nat) : cmpInt a b = -1 ∨ cmpInt a b = 0 ∨ cmpInt a b = 1 := by
  unfold cmpInt; split
  · left; rfl
  · split
    · right; left; rfl
    · right; right; rfl
theorem rcmp_mul {x y : Int} (h : x.sign = y.sign) : x.sign * cmpInt x.natAbs y.natAbs = zcmp x y := by
  rcases zsign x with ⟨h1, e1⟩ | ⟨h1, e1⟩ | ⟨h1, e1⟩ <;> rcases zsign y with ⟨h2, e2⟩ | ⟨h2, e2⟩ | ⟨h2, e2⟩ <;> rw [e1, e2] at h <;> first | omega | skip
  · rw [e1]; unfold cmpInt zcmp
    rcases Int.lt_trichotomy x y with h3 | h3 | h3
    · rw [if_neg (by omega), if_neg (by omega), if_pos h3]; rfl
    · rw [if_neg (by omega), if_pos (by omega), if_neg (by omega), if_pos h3]; rfl
    · rw [if_pos (by omega), if_neg (by omega), if_neg (by omega)]; rfl
  · rw [e1, h1, h2]; rfl
  · rw [e1, zcmp_pos (by omega) (by omega)]; omega
def RetZ (w : World) (k : Int) (e : Ending) (w' : World) : Prop := e = .returned (.int .i64 k) ∧ w.grownBy w' none
end Go.Proofs.YtldkddogadmpbaaGreatDoor
