/- What the laws lean on, part 2. -/
import Derived.Deep.RegionHeld3
import Derived.Test.YtldkddogadmpbaaGreatDoorZedQuo
import Derived.Test.YtldkddogadmpbaaGreatDoorZedSmall
import Derived.Test.YtldkddogadmpbaaGreatDoorMz1
import Derived.Test.YtldkddogadmpbaaGreatDoorZRef
namespace Go.Proofs.YtldkddogadmpbaaGreatDoor
open Go.RowKit Mat
set_option maxRecDepth 100000
set_option linter.unusedVariables false
set_option linter.unusedSimpArgs false
def dn (r : Rat) : Int := if r.den = 1 then 0 else (r.den : Int)
def RatV (w : World) (v : Value) (r : Rat) : Prop := ∃ (s : Option Addr) (xs : List Nat) (b : Bool) (s' : Option Addr) (xs' : List Nat) (b' : Bool), v = .agg #[.slice s xs.length xs.length, .bool b, .slice s' xs'.length xs'.length, .bool b'] ∧ IntV w (.agg #[.slice s xs.length xs.length, .bool b]) r.num ∧ IntV w (.agg #[.slice s' xs'.length xs'.length, .bool b']) (dn r)
theorem RatV.kept {w w' : World} {v : Value} {r : Rat} (h : RatV w v r) (hg : w.grownBy w' none) : RatV w' v r := by
  obtain ⟨s, xs, b, s', xs', b', e, h1, h2⟩ := h
  exact ⟨s, xs, b, s', xs', b', e, h1.kept hg, h2.kept hg⟩
theorem RatV.zero (w : World) : RatV w (.agg #[.slice none 0 0, .bool false, .slice none 0 0, .bool false]) 0 := ⟨none, [], false, none, [], false, rfl, IntV.zero w, IntV.zero w⟩
def RetRat (w : World) (r : Rat) (e : Ending) (w' : World) : Prop := ∃ v, e = .returned v ∧ RatV w' v r ∧ w.grownBy w' none
def RetRatE (w : World) (r : Rat) (code : Int) (e : Ending) (w' : World) : Prop := ∃ v, e = .returned (.tuple #[v, .int .i64 code]) ∧ RatV w' v r ∧ w.grownBy w' none
theorem box_cells4 {w : World} {g : Nat} {v0 v1 v2 v3 : Value} {t : TypeId} (h : w.heap[g]? = some (.cells #[v0, v1, v2, v3] t (0, 0))) :
    w.cell? ⟨g, 0, none⟩ = some v0 ∧ w.cell? ⟨g, 1, none⟩ = some v1 ∧ w.cell? ⟨g, 2, none⟩ = some v2 ∧ w.cell? ⟨g, 3, none⟩ = some v3 ∧ w.frozen? ⟨g, 0, none⟩ = false ∧ w.frozen? ⟨g, 1, none⟩ = false ∧ w.frozen? ⟨g, 2, none⟩ = false ∧ w.frozen? ⟨g, 3, none⟩ = false := by
  simp [World.cell?, World.frozen?, h]
theorem heap_set4 {w : World} {g : Nat} {a0 a1 a2 a3 : Value} {t : TypeId} (h : w.heap[g]? = some (.cells #[a0, a1, a2, a3] t (0, 0))) (v0 v1 v2 v3 : Value) : ((((w.setCell ⟨g, 0, none⟩ v0).setCell ⟨g, 1, none⟩ v1).setCell ⟨g, 2, none⟩ v2).setCell ⟨g, 3, none⟩ v3).heap[g]? = some (.cells #[v0, v1, v2, v3] t (0, 0)) := by
  simp [World.setCell, Array.getElem?_modify, h]
theorem heap_unset4 {w : World} {g k : Nat} {o : Obj} (h : w.heap[k]? = some o) (hk : k ≠ g) (v0 v1 v2 v3 : Value) : ((((w.setCell ⟨g, 0, none⟩ v0).setCell ⟨g, 1, none⟩ v1).setCell ⟨g, 2, none⟩ v2).setCell ⟨g, 3, none⟩ v3).heap[k]? = some o :=
  (Below.heap_setCell _ _ _ _ (by simpa using hk)).trans ((Below.heap_setCell _ _ _ _ (by simpa using hk)).trans (heap_unset2 h hk v0 v1))
theorem grown_set4 {w w' : World} {g : Nat} (hg : w.grownBy w' none) (hl : w.heap.size ≤ g) (v0 v1 v2 v3 : Value) : w.grownBy ((((w'.setCell ⟨g, 0, none⟩ v0).setCell ⟨g, 1, none⟩ v1).setCell ⟨g, 2, none⟩ v2).setCell ⟨g, 3, none⟩ v3) none :=
  grown_new (grown_new (grown_set2 hg hl v0 v1) (grown_set (grown_refl _ _) _ _) hl) (grown_set (grown_refl _ _) _ _) hl
theorem IntV.set4 {w : World} {v : Value} {n : Int} {g : Nat} {a0 a1 a2 a3 : Value} (h : IntV w v n) (hbox : w.heap[g]? = some (.cells #[a0, a1, a2, a3] 28 (0, 0))) (v0 v1 v2 v3 : Value) : IntV ((((w.setCell ⟨g, 0, none⟩ v0).setCell ⟨g, 1, none⟩ v1).setCell ⟨g, 2, none⟩ v2).setCell ⟨g, 3, none⟩ v3) v n := by
  have k1 : (w.setCell ⟨g, 0, none⟩ v0).heap[g]? = some (.cells #[v0, a1, a2, a3] 28 (0, 0)) := by simp [World.setCell, Array.getElem?_modify, hbox]
  have k2 : ((w.setCell ⟨g, 0, none⟩ v0).setCell ⟨g, 1, none⟩ v1).heap[g]? = some (.cells #[v0, v1, a2, a3] 28 (0, 0)) := by simp [World.setCell, Array.getElem?_modify, hbox]
  have k3 : (((w.setCell ⟨g, 0, none⟩ v0).setCell ⟨g, 1, none⟩ v1).setCell ⟨g, 2, none⟩ v2).heap[g]? = some (.cells #[v0, v1, v2, a3] 28 (0, 0)) := by simp [World.setCell, Array.getElem?_modify, hbox]
  exact (((h.set_other hbox (by decide) 0 v0).set_other k1 (by decide) 1 v1).set_other k2 (by decide) 2 v2).set_other k3 (by decide) 3 v3
theorem RatV.set4 {w : World} {v : Value} {r : Rat} {g : Nat} {a0 a1 a2 a3 : Value} (h : RatV w v r) (hbox : w.heap[g]? = some (.cells #[a0, a1, a2, a3] 28 (0, 0))) (v0 v1 v2 v3 : Value) : RatV ((((w.setCell ⟨g, 0, none⟩ v0).setCell ⟨g, 1, none⟩ v1).setCell ⟨g, 2, none⟩ v2).setCell ⟨g, 3, none⟩ v3) v r := by
  obtain ⟨s, xs, b, s', xs', b', e, h1, h2⟩ := h
  exact ⟨s, xs, b, s', xs', b', e, h1.set4 hbox _ _ _ _, h2.set4 hbox _ _ _ _⟩
theorem RatV.set2 {w : World} {v : Value} {r : Rat} {g : Nat} {a0 a1 : Value} (h : RatV w v r) (hbox : w.heap[g]? = some (.cells #[a0, a1] 26 (0, 0))) (v0 v1 : Value) : RatV ((w.setCell ⟨g, 0, none⟩ v0).setCell ⟨g, 1, none⟩ v1) v r := by
  obtain ⟨s, xs, b, s', xs', b', e, h1, h2⟩ := h
  exact ⟨s, xs, b, s', xs', b', e, h1.set2 hbox _ _, h2.set2 hbox _ _⟩
theorem ret_ratv {w w' : World} {r : Rat} {g : Nat} {a0 a1 a2 a3 v0 v1 v2 v3 : Value} (hg : w.grownBy w' none) (hbox : w'.heap[g]? = some (.cells #[a0, a1, a2, a3] 28 (0, 0))) (hl : w.heap.size ≤ g) (h : RatV w' (.agg #[v0, v1, v2, v3]) r) :
    RetRat w r (.returned (.agg #[v0, v1, v2, v3])) ((((w'.setCell ⟨g, 0, none⟩ v0).setCell ⟨g, 1, none⟩ v1).setCell ⟨g, 2, none⟩ v2).setCell ⟨g, 3, none⟩ v3) :=
  ⟨_, rfl, h.set4 hbox _ _ _ _, grown_set4 hg hl _ _ _ _⟩
theorem ret_ratvE {w w' : World} {r : Rat} {code : Int} {g : Nat} {a0 a1 a2 a3 v0 v1 v2 v3 : Value} (hg : w.grownBy w' none) (hbox : w'.heap[g]? = some (.cells #[a0, a1, a2, a3] 28 (0, 0))) (hl : w.heap.size ≤ g) (h : RatV w' (.agg #[v0, v1, v2, v3]) r) :
    RetRatE w r code (.returned (.tuple #[.agg #[v0, v1, v2, v3], .int .i64 code])) ((((w'.setCell ⟨g, 0, none⟩ v0).setCell ⟨g, 1, none⟩ v1).setCell ⟨g, 2, none⟩ v2).setCell ⟨g, 3, none⟩ v3) :=
  ⟨_, rfl, h.set4 hbox _ _ _ _, grown_set4 hg hl _ _ _ _⟩
theorem ret_intv {w w' : World} {z : Int} {g : Nat} {a0 a1 v0 v1 : Value} (hg : w.grownBy w' none) (hbox : w'.heap[g]? = some (.cells #[a0, a1] 26 (0, 0))) (hl : w.heap.size ≤ g) (h : IntV w' (.agg #[v0, v1]) z) :
    RetInt w z (.returned (.agg #[v0, v1])) ((w'.setCell ⟨g, 0, none⟩ v0).setCell ⟨g, 1, none⟩ v1) :=
  ⟨_, rfl, h.set2 hbox v0 v1, grown_set2 hg hl v0 v1⟩
def RetB (w : World) (b : Bool) (e : Ending) (w' : World) : Prop := e = .returned (.bool b) ∧ w.grownBy w' none
set_option maxHeartbeats 8000000 in
theorem FFresh_any (w : World) (va : Value) (x : Int) (K : Nat) (Ha : IntV w va x) (hK : K ≤ 800000) (la : x.natAbs < B ^ K) :
    Calls Tryz.prog 39 #[va] w (RetInt w x) := by
  have Hla := Lib.hid la
  clear la
  obtain ⟨sa, xa, ba, rfl, ha, va, ta⟩ := Ha
  have hG : w.grownBy ((w.alloc (.cells #[.slice sa xa.length xa.length, .bool ba] 26)).alloc (.cells #[.slice none 0 0, .bool false] 26)) none := (grown_alloc (World.grownBy_alloc _ _ _) _)
  have Ba := heap_kept (World.grownBy_alloc _ (.cells #[.slice none 0 0, .bool false] 26) none) (heap_new w (.cells #[.slice sa xa.length xa.length, .bool ba] 26) (w.heap.size) rfl)
  have Bq := (heap_new (w.alloc (.cells #[.slice sa xa.length xa.length, .bool ba] 26)) (.cells #[.slice none 0 0, .bool false] 26) (w.heap.size + 1) (by simp))
  have ia : IntV ((w.alloc (.cells #[.slice sa xa.length xa.length, .bool ba] 26)).alloc (.cells #[.slice none 0 0, .bool false] 26)) (.agg #[.slice sa xa.length xa.length, .bool ba]) (x) := ⟨sa, xa, ba, rfl, ha.kept hG, va, ta⟩
  have oa : IntV w (.agg #[.slice sa xa.length xa.length, .bool ba]) (x) := ⟨sa, xa, ba, rfl, ha, va, ta⟩
  clear ha va ta
  go_enter Tryz.func39, Tryz.ntmps39
  obtain ⟨Ca0, Ca1, Fa0, Fa1⟩ := box_cells Ba
  obtain ⟨Cq0, Cq1, Fq0, Fq1⟩ := box_cells Bq
  go_wp2_with fail
  generalize ((w.alloc (.cells #[.slice sa xa.length xa.length, .bool ba] 26)).alloc (.cells #[.slice none 0 0, .bool false] 26)) = w0 at *
  clear Ca0 Fa0 Ca1 Fa1 Cq0 Fq0 Cq1 Fq1
  refine (ZAdd_any w0 _ _ x 0 K ia (IntV.zero _) (by omega) Hla.out (Nat.pow_pos B_pos)).mono ?_
  rintro e w1 ⟨_, rfl, ⟨sd, xd, bd, rfl, hd, vd, td⟩, gw1⟩
  rw [Int.add_zero] at vd td
  have id : IntV w1 (.agg #[.slice sd xd.length xd.length, .bool bd]) (x) := ⟨sd, xd, bd, rfl, hd, vd, td⟩
  replace Ba := heap_kept gw1 Ba
  replace Bq := heap_kept gw1 Bq
  replace ia := ia.kept gw1
  replace hG := grown_trans hG gw1
  clear gw1
  clear hd vd td
  obtain ⟨Ca0, Ca1, Fa0, Fa1⟩ := box_cells Ba
  obtain ⟨Cq0, Cq1, Fq0, Fq1⟩ := box_cells Bq
  clear Ca0 Fa0 Ca1 Fa1 Cq0 Fq0 Cq1 Fq1
  obtain ⟨k90, k91, k92, k93⟩ := box_cells Bq
  obtain ⟨q90, q91, q92, q93⟩ := box_cells (heap_set2 Bq (.slice sd xd.length xd.length) (.bool bd))
  have hF : Hid (RetInt w (x) (.returned (.agg #[.slice sd xd.length xd.length, .bool bd])) ((w1.setCell ⟨w.heap.size + 1, 0, none⟩ (.slice sd xd.length xd.length)).setCell ⟨w.heap.size + 1, 1, none⟩ (.bool bd))) := ret_intv hG Bq (by omega) id
  clear ia id
  go_wp2_with fail
  exact bodyPost_ret (v := .agg #[.slice sd xd.length xd.length, .bool bd]) (by simp [results, Tryz.results39, go_sem, q90, q91]) rfl hF.out
set_option maxHeartbeats 8000000 in
theorem FOne_any (w : World) (va : Value) (x : Int) (K : Nat) (Ha : IntV w va x) (hK : K ≤ 800000) (la : x.natAbs < B ^ K) :
    Calls Tryz.prog 75 #[va] w (RetB w (decide (x = 1))) := by
  have Hla := Lib.hid la
  clear la
  obtain ⟨n, hn⟩ : ∃ n, (if Fits x then x else 0) = n := ⟨_, rfl⟩
  obtain ⟨o, ho⟩ : ∃ o, decide (Fits x) = o := ⟨_, rfl⟩
  obtain ⟨p, hp⟩ : ∃ p, decide (x = 1) = p := ⟨_, rfl⟩
  have f1 : (n == 1) = p := by
    rw [← hn, ← hp]
    by_cases h : x = 1
    · rw [h]; decide
    · rw [decide_eq_false h]
      refine beq_eq_false_iff_ne.2 ?_
      split <;> omega
  have HNO : Hid ((if Fits x then x else 0) = n ∧ decide (Fits x) = o) := ⟨hn, ho⟩
  rw [hp]
  clear hn ho hp
  obtain ⟨sa, xa, ba, rfl, ha, va, ta⟩ := Ha
  have hG : w.grownBy (w.alloc (.cells #[.slice sa xa.length xa.length, .bool ba] 26)) none := (World.grownBy_alloc _ _ _)
  have Ba := (heap_new w (.cells #[.slice sa xa.length xa.length, .bool ba] 26) (w.heap.size) rfl)
  have ia : IntV (w.alloc (.cells #[.slice sa xa.length xa.length, .bool ba] 26)) (.agg #[.slice sa xa.length xa.length, .bool ba]) (x) := ⟨sa, xa, ba, rfl, ha.kept hG, va, ta⟩
  have oa : IntV w (.agg #[.slice sa xa.length xa.length, .bool ba]) (x) := ⟨sa, xa, ba, rfl, ha, va, ta⟩
  clear ha va ta
  go_enter Tryz.func75, Tryz.ntmps75
  obtain ⟨Ca0, Ca1, Fa0, Fa1⟩ := box_cells Ba
  go_wp2_with fail
  generalize (w.alloc (.cells #[.slice sa xa.length xa.length, .bool ba] 26)) = w0 at *
  clear Ca0 Fa0 Ca1 Fa1
  refine (ZSmall_any w0 _ x K ia (by omega) Hla.out).mono ?_
  rintro e w1 ⟨rfl, gw1⟩
  rw [HNO.out.1, HNO.out.2]
  replace Ba := heap_kept gw1 Ba
  replace ia := ia.kept gw1
  replace hG := grown_trans hG gw1
  clear gw1
  obtain ⟨Ca0, Ca1, Fa0, Fa1⟩ := box_cells Ba
  go_wp2_with fail
  go_ret
  exact ⟨rfl, hG⟩
set_option maxHeartbeats 8000000 in
theorem FShare_any (w : World) (va vb : Value) (x y : Int) (K : Nat) (Ha : IntV w va x) (Hb : IntV w vb y) (hK : K ≤ 800000) (la : x.natAbs < B ^ K) (lb : y.natAbs < B ^ K) (h0 : 0 < y) :
    Calls Tryz.prog 47 #[va, vb] w (RetInt w (x / y)) := by
  have Hla := Lib.hid la
  have Hlb := Lib.hid lb
  clear la lb
  by_cases h1 : y = 1
  · skip
    subst h1
    rw [Int.ediv_one]
    obtain ⟨sa, xa, ba, rfl, ha, va, ta⟩ := Ha
    obtain ⟨sb, xb, bb, rfl, hb, vb, tb⟩ := Hb
    have hG : w.grownBy (((w.alloc (.cells #[.slice sa xa.length xa.length, .bool ba] 26)).alloc (.cells #[.slice sb xb.length xb.length, .bool bb] 26)).alloc (.cells #[.slice none 0 0, .bool false] 26)) none := (grown_alloc (grown_alloc (World.grownBy_alloc _ _ _) _) _)
    have Ba := heap_kept (grown_alloc (World.grownBy_alloc _ (.cells #[.slice sb xb.length xb.length, .bool bb] 26) none) (.cells #[.slice none 0 0, .bool false] 26)) (heap_new w (.cells #[.slice sa xa.length xa.length, .bool ba] 26) (w.heap.size) rfl)
    have Bb := heap_kept (World.grownBy_alloc _ (.cells #[.slice none 0 0, .bool false] 26) none) (heap_new (w.alloc (.cells #[.slice sa xa.length xa.length, .bool ba] 26)) (.cells #[.slice sb xb.length xb.length, .bool bb] 26) (w.heap.size + 1) (by simp))
    have Bq := (heap_new ((w.alloc (.cells #[.slice sa xa.length xa.length, .bool ba] 26)).alloc (.cells #[.slice sb xb.length xb.length, .bool bb] 26)) (.cells #[.slice none 0 0, .bool false] 26) (w.heap.size + 1 + 1) (by simp))
    have ia : IntV (((w.alloc (.cells #[.slice sa xa.length xa.length, .bool ba] 26)).alloc (.cells #[.slice sb xb.length xb.length, .bool bb] 26)).alloc (.cells #[.slice none 0 0, .bool false] 26)) (.agg #[.slice sa xa.length xa.length, .bool ba]) (x) := ⟨sa, xa, ba, rfl, ha.kept hG, va, ta⟩
    have ib : IntV (((w.alloc (.cells #[.slice sa xa.length xa.length, .bool ba] 26)).alloc (.cells #[.slice sb xb.length xb.length, .bool bb] 26)).alloc (.cells #[.slice none 0 0, .bool false] 26)) (.agg #[.slice sb xb.length xb.length, .bool bb]) (1) := ⟨sb, xb, bb, rfl, hb.kept hG, vb, tb⟩
    have oa : IntV w (.agg #[.slice sa xa.length xa.length, .bool ba]) (x) := ⟨sa, xa, ba, rfl, ha, va, ta⟩
    clear ha va ta
    have ob : IntV w (.agg #[.slice sb xb.length xb.length, .bool bb]) (1) := ⟨sb, xb, bb, rfl, hb, vb, tb⟩
    clear hb vb tb
    go_enter Tryz.func47, Tryz.ntmps47
    obtain ⟨Ca0, Ca1, Fa0, Fa1⟩ := box_cells Ba
    obtain ⟨Cb0, Cb1, Fb0, Fb1⟩ := box_cells Bb
    obtain ⟨Cq0, Cq1, Fq0, Fq1⟩ := box_cells Bq
    go_wp2_with fail
    generalize (((w.alloc (.cells #[.slice sa xa.length xa.length, .bool ba] 26)).alloc (.cells #[.slice sb xb.length xb.length, .bool bb] 26)).alloc (.cells #[.slice none 0 0, .bool false] 26)) = w0 at *
    clear Ca0 Fa0 Ca1 Fa1 Cb0 Fb0 Cb1 Fb1 Cq0 Fq0 Cq1 Fq1
    refine (FOne_any w0 _ 1 K ib (by omega) Hlb.out).mono ?_
    rintro e ow1 ⟨rfl, gow1⟩
    rw [decide_eq_true (rfl : (1 : Int) = 1)]
    replace Ba := heap_kept gow1 Ba
    replace Bb := heap_kept gow1 Bb
    replace Bq := heap_kept gow1 Bq
    replace ia := ia.kept gow1
    replace ib := ib.kept gow1
    replace hG := grown_trans hG gow1
    clear gow1
    obtain ⟨Ca0, Ca1, Fa0, Fa1⟩ := box_cells Ba
    obtain ⟨Cb0, Cb1, Fb0, Fb1⟩ := box_cells Bb
    obtain ⟨Cq0, Cq1, Fq0, Fq1⟩ := box_cells Bq
    clear Ca0 Fa0 Ca1 Fa1 Cb0 Fb0 Cb1 Fb1 Cq0 Fq0 Cq1 Fq1
    obtain ⟨k90, k91, k92, k93⟩ := box_cells Bq
    obtain ⟨q90, q91, q92, q93⟩ := box_cells (heap_set2 Bq (.slice sa xa.length xa.length) (.bool ba))
    have hF : Hid (RetInt w (x) (.returned (.agg #[.slice sa xa.length xa.length, .bool ba])) ((ow1.setCell ⟨w.heap.size + 1 + 1, 0, none⟩ (.slice sa xa.length xa.length)).setCell ⟨w.heap.size + 1 + 1, 1, none⟩ (.bool ba))) := ret_intv hG Bq (by omega) ia
    clear ia ib
    obtain ⟨Ca0, Ca1, Fa0, Fa1⟩ := box_cells Ba
    go_wp2_with fail
    exact bodyPost_ret (v := .agg #[.slice sa xa.length xa.length, .bool ba]) (by simp [results, Tryz.results47, go_sem, q90, q91]) rfl hF.out
  · skip
    have H1 : Hid (¬ y = 1) := h1
    have H0 : Hid (y ≠ 0) := by show _ ≠ _; omega
    clear h1 h0
    obtain ⟨sa, xa, ba, rfl, ha, va, ta⟩ := Ha
    obtain ⟨sb, xb, bb, rfl, hb, vb, tb⟩ := Hb
    have hG : w.grownBy (((w.alloc (.cells #[.slice sa xa.length xa.length, .bool ba] 26)).alloc (.cells #[.slice sb xb.length xb.length, .bool bb] 26)).alloc (.cells #[.slice none 0 0, .bool false] 26)) none := (grown_alloc (grown_alloc (World.grownBy_alloc _ _ _) _) _)
    have Ba := heap_kept (grown_alloc (World.grownBy_alloc _ (.cells #[.slice sb xb.length xb.length, .bool bb] 26) none) (.cells #[.slice none 0 0, .bool false] 26)) (heap_new w (.cells #[.slice sa xa.length xa.length, .bool ba] 26) (w.heap.size) rfl)
    have Bb := heap_kept (World.grownBy_alloc _ (.cells #[.slice none 0 0, .bool false] 26) none) (heap_new (w.alloc (.cells #[.slice sa xa.length xa.length, .bool ba] 26)) (.cells #[.slice sb xb.length xb.length, .bool bb] 26) (w.heap.size + 1) (by simp))
    have Bq := (heap_new ((w.alloc (.cells #[.slice sa xa.length xa.length, .bool ba] 26)).alloc (.cells #[.slice sb xb.length xb.length, .bool bb] 26)) (.cells #[.slice none 0 0, .bool false] 26) (w.heap.size + 1 + 1) (by simp))
    have ia : IntV (((w.alloc (.cells #[.slice sa xa.length xa.length, .bool ba] 26)).alloc (.cells #[.slice sb xb.length xb.length, .bool bb] 26)).alloc (.cells #[.slice none 0 0, .bool false] 26)) (.agg #[.slice sa xa.length xa.length, .bool ba]) (x) := ⟨sa, xa, ba, rfl, ha.kept hG, va, ta⟩
    have ib : IntV (((w.alloc (.cells #[.slice sa xa.length xa.length, .bool ba] 26)).alloc (.cells #[.slice sb xb.length xb.length, .bool bb] 26)).alloc (.cells #[.slice none 0 0, .bool false] 26)) (.agg #[.slice sb xb.length xb.length, .bool bb]) (y) := ⟨sb, xb, bb, rfl, hb.kept hG, vb, tb⟩
    have oa : IntV w (.agg #[.slice sa xa.length xa.length, .bool ba]) (x) := ⟨sa, xa, ba, rfl, ha, va, ta⟩
    clear ha va ta
    have ob : IntV w (.agg #[.slice sb xb.length xb.length, .bool bb]) (y) := ⟨sb, xb, bb, rfl, hb, vb, tb⟩
    clear hb vb tb
    go_enter Tryz.func47, Tryz.ntmps47
    obtain ⟨Ca0, Ca1, Fa0, Fa1⟩ := box_cells Ba
    obtain ⟨Cb0, Cb1, Fb0, Fb1⟩ := box_cells Bb
    obtain ⟨Cq0, Cq1, Fq0, Fq1⟩ := box_cells Bq
    go_wp2_with fail
    generalize (((w.alloc (.cells #[.slice sa xa.length xa.length, .bool ba] 26)).alloc (.cells #[.slice sb xb.length xb.length, .bool bb] 26)).alloc (.cells #[.slice none 0 0, .bool false] 26)) = w0 at *
    clear Ca0 Fa0 Ca1 Fa1 Cb0 Fb0 Cb1 Fb1 Cq0 Fq0 Cq1 Fq1
    refine (FOne_any w0 _ y K ib (by omega) Hlb.out).mono ?_
    rintro e mw1 ⟨rfl, gmw1⟩
    rw [decide_eq_false H1.out]
    replace Ba := heap_kept gmw1 Ba
    replace Bb := heap_kept gmw1 Bb
    replace Bq := heap_kept gmw1 Bq
    replace ia := ia.kept gmw1
    replace ib := ib.kept gmw1
    replace hG := grown_trans hG gmw1
    clear gmw1
    obtain ⟨Ca0, Ca1, Fa0, Fa1⟩ := box_cells Ba
    obtain ⟨Cb0, Cb1, Fb0, Fb1⟩ := box_cells Bb
    obtain ⟨Cq0, Cq1, Fq0, Fq1⟩ := box_cells Bq
    go_wp2_with fail
    clear Ca0 Fa0 Ca1 Fa1 Cb0 Fb0 Cb1 Fb1 Cq0 Fq0 Cq1 Fq1
    refine (ZFloor_some mw1 _ _ x y K ia ib (by omega) Hla.out Hlb.out H0.out).mono ?_
    rintro e mw2 ⟨_, _, rfl, ⟨sd, xd, bd, rfl, hd, vd, td⟩, ⟨se, xe, be, rfl, he, ve, te⟩, gmw2⟩
    have id : IntV mw2 (.agg #[.slice sd xd.length xd.length, .bool bd]) (x / y) := ⟨sd, xd, bd, rfl, hd, vd, td⟩
    have ie : IntV mw2 (.agg #[.slice se xe.length xe.length, .bool be]) (x % y) := ⟨se, xe, be, rfl, he, ve, te⟩
    replace Ba := heap_kept gmw2 Ba
    replace Bb := heap_kept gmw2 Bb
    replace Bq := heap_kept gmw2 Bq
    replace ia := ia.kept gmw2
    replace ib := ib.kept gmw2
    replace hG := grown_trans hG gmw2
    clear gmw2
    clear hd vd td
    clear he ve te
    obtain ⟨Ca0, Ca1, Fa0, Fa1⟩ := box_cells Ba
    obtain ⟨Cb0, Cb1, Fb0, Fb1⟩ := box_cells Bb
    obtain ⟨Cq0, Cq1, Fq0, Fq1⟩ := box_cells Bq
    have gbmw2 := (grown_alloc (World.grownBy_alloc mw2 (.cells #[.slice sd xd.length xd.length, .bool bd] 26) none) (.cells #[.slice se xe.length xe.length, .bool be] 26))
    have Bd := heap_kept (World.grownBy_alloc _ (.cells #[.slice se xe.length xe.length, .bool be] 26) none) (heap_new mw2 (.cells #[.slice sd xd.length xd.length, .bool bd] 26) (mw2.heap.size) rfl)
    have Be := (heap_new (mw2.alloc (.cells #[.slice sd xd.length xd.length, .bool bd] 26)) (.cells #[.slice se xe.length xe.length, .bool be] 26) (mw2.heap.size + 1) (by simp))
    have hzmw2 : Hid (w.heap.size ≤ mw2.heap.size) := Lib.hid hG.size
    have hlamw2 : Hid (w.heap.size < mw2.heap.size) := Lib.hid (Array.getElem?_eq_some_iff.1 Ba).1
    have hlbmw2 : Hid (w.heap.size + 1 < mw2.heap.size) := Lib.hid (Array.getElem?_eq_some_iff.1 Bb).1
    have hlqmw2 : Hid (w.heap.size + 1 + 1 < mw2.heap.size) := Lib.hid (Array.getElem?_eq_some_iff.1 Bq).1
    clear Ca0 Fa0 Ca1 Fa1 Cb0 Fb0 Cb1 Fb1 Cq0 Fq0 Cq1 Fq1
    replace Ba := heap_kept gbmw2 Ba
    replace Bb := heap_kept gbmw2 Bb
    replace Bq := heap_kept gbmw2 Bq
    replace ia := ia.kept gbmw2
    replace ib := ib.kept gbmw2
    replace id := id.kept gbmw2
    replace ie := ie.kept gbmw2
    replace hG := grown_trans hG gbmw2
    clear gbmw2
    obtain ⟨Ca0, Ca1, Fa0, Fa1⟩ := box_cells Ba
    obtain ⟨Cb0, Cb1, Fb0, Fb1⟩ := box_cells Bb
    obtain ⟨Cq0, Cq1, Fq0, Fq1⟩ := box_cells Bq
    obtain ⟨Cd0, Cd1, Fd0, Fd1⟩ := box_cells Bd
    obtain ⟨Ce0, Ce1, Fe0, Fe1⟩ := box_cells Be
    clear Ca0 Fa0 Ca1 Fa1 Cb0 Fb0 Cb1 Fb1 Cq0 Fq0 Cq1 Fq1 Cd0 Fd0 Cd1 Fd1 Ce0 Fe0 Ce1 Fe1
    obtain ⟨k90, k91, k92, k93⟩ := box_cells Bq
    obtain ⟨q90, q91, q92, q93⟩ := box_cells (heap_set2 Bq (.slice sd xd.length xd.length) (.bool bd))
    have hF : Hid (RetInt w (x / y) (.returned (.agg #[.slice sd xd.length xd.length, .bool bd])) ((((mw2.alloc (.cells #[.slice sd xd.length xd.length, .bool bd] 26)).alloc (.cells #[.slice se xe.length xe.length, .bool be] 26)).setCell ⟨w.heap.size + 1 + 1, 0, none⟩ (.slice sd xd.length xd.length)).setCell ⟨w.heap.size + 1 + 1, 1, none⟩ (.bool bd))) := ret_intv hG Bq (by omega) id
    clear ia ib id ie
    obtain ⟨Cd0, Cd1, Fd0, Fd1⟩ := box_cells Bd
    go_wp2_with fail
    exact bodyPost_ret (v := .agg #[.slice sd xd.length xd.length, .bool bd]) (by simp [results, Tryz.results47, go_sem, q90, q91]) rfl hF.out
theorem fgcd_bd {a b k : Nat} (ha : a < B ^ k) (hb : b < B ^ k) : Nat.gcd a b < B ^ k := by
  rcases Nat.eq_zero_or_pos b with h | h
  · subst h; rw [Nat.gcd_zero_right]; exact ha
  · exact Nat.lt_of_le_of_lt (Nat.gcd_le_right _ h) hb
set_option maxHeartbeats 8000000 in
theorem FCommon_any (w : World) (va vb : Value) (x y : Int) (K : Nat) (Ha : IntV w va x) (Hb : IntV w vb y) (hK : K ≤ 800000) (la : x.natAbs < B ^ K) (lb : y.natAbs < B ^ K) (hT : Tab w) :
    Calls Tryz.prog 45 #[va, vb] w (RetInt w ((Nat.gcd x.natAbs y.natAbs : Nat) : Int)) := by
  have Hla := Lib.hid la
  have Hlb := Lib.hid lb
  clear la lb
  have hg : (decide (x = 1) = true ∧ Hid (((Nat.gcd x.natAbs y.natAbs : Nat) : Int) = 1)) ∨ (decide (x = 1) = false ∧ decide (y = 1) = true ∧ Hid (((Nat.gcd x.natAbs y.natAbs : Nat) : Int) = 1)) ∨ (decide (x = 1) = false ∧ decide (y = 1) = false) := by
    by_cases h1 : x = 1
    · left; exact ⟨decide_eq_true h1, by show _ = _; rw [h1]; simp⟩
    · right
      by_cases h2 : y = 1
      · left; exact ⟨decide_eq_false h1, decide_eq_true h2, by show _ = _; rw [h2]; simp⟩
      · right; exact ⟨decide_eq_false h1, decide_eq_false h2⟩
  obtain ⟨o1, ho1⟩ : ∃ o, decide (x = 1) = o := ⟨_, rfl⟩
  obtain ⟨o2, ho2⟩ : ∃ o, decide (y = 1) = o := ⟨_, rfl⟩
  rw [ho1, ho2] at hg
  have HO1 := Lib.hid ho1
  have HO2 := Lib.hid ho2
  have HTT := Lib.hid hT
  clear ho1 ho2 hT
  rcases hg with ⟨rfl, hg⟩ | ⟨rfl, rfl, hg⟩ | ⟨rfl, rfl⟩
  · skip
    rw [hg.out]
    obtain ⟨sa, xa, ba, rfl, ha, va, ta⟩ := Ha
    obtain ⟨sb, xb, bb, rfl, hb, vb, tb⟩ := Hb
    have hG : w.grownBy (((w.alloc (.cells #[.slice sa xa.length xa.length, .bool ba] 26)).alloc (.cells #[.slice sb xb.length xb.length, .bool bb] 26)).alloc (.cells #[.slice none 0 0, .bool false] 26)) none := (grown_alloc (grown_alloc (World.grownBy_alloc _ _ _) _) _)
    have Ba := heap_kept (grown_alloc (World.grownBy_alloc _ (.cells #[.slice sb xb.length xb.length, .bool bb] 26) none) (.cells #[.slice none 0 0, .bool false] 26)) (heap_new w (.cells #[.slice sa xa.length xa.length, .bool ba] 26) (w.heap.size) rfl)
    have Bb := heap_kept (World.grownBy_alloc _ (.cells #[.slice none 0 0, .bool false] 26) none) (heap_new (w.alloc (.cells #[.slice sa xa.length xa.length, .bool ba] 26)) (.cells #[.slice sb xb.length xb.length, .bool bb] 26) (w.heap.size + 1) (by simp))
    have Bq := (heap_new ((w.alloc (.cells #[.slice sa xa.length xa.length, .bool ba] 26)).alloc (.cells #[.slice sb xb.length xb.length, .bool bb] 26)) (.cells #[.slice none 0 0, .bool false] 26) (w.heap.size + 1 + 1) (by simp))
    have ia : IntV (((w.alloc (.cells #[.slice sa xa.length xa.length, .bool ba] 26)).alloc (.cells #[.slice sb xb.length xb.length, .bool bb] 26)).alloc (.cells #[.slice none 0 0, .bool false] 26)) (.agg #[.slice sa xa.length xa.length, .bool ba]) (x) := ⟨sa, xa, ba, rfl, ha.kept hG, va, ta⟩
    have ib : IntV (((w.alloc (.cells #[.slice sa xa.length xa.length, .bool ba] 26)).alloc (.cells #[.slice sb xb.length xb.length, .bool bb] 26)).alloc (.cells #[.slice none 0 0, .bool false] 26)) (.agg #[.slice sb xb.length xb.length, .bool bb]) (y) := ⟨sb, xb, bb, rfl, hb.kept hG, vb, tb⟩
    have oa : IntV w (.agg #[.slice sa xa.length xa.length, .bool ba]) (x) := ⟨sa, xa, ba, rfl, ha, va, ta⟩
    clear ha va ta
    have ob : IntV w (.agg #[.slice sb xb.length xb.length, .bool bb]) (y) := ⟨sb, xb, bb, rfl, hb, vb, tb⟩
    clear hb vb tb
    go_enter Tryz.func45, Tryz.ntmps45
    obtain ⟨Ca0, Ca1, Fa0, Fa1⟩ := box_cells Ba
    obtain ⟨Cb0, Cb1, Fb0, Fb1⟩ := box_cells Bb
    obtain ⟨Cq0, Cq1, Fq0, Fq1⟩ := box_cells Bq
    go_wp2_with fail
    generalize (((w.alloc (.cells #[.slice sa xa.length xa.length, .bool ba] 26)).alloc (.cells #[.slice sb xb.length xb.length, .bool bb] 26)).alloc (.cells #[.slice none 0 0, .bool false] 26)) = w0 at *
    clear Ca0 Fa0 Ca1 Fa1 Cb0 Fb0 Cb1 Fb1 Cq0 Fq0 Cq1 Fq1
    refine (FOne_any w0 _ x K ia (by omega) Hla.out).mono ?_
    rintro e c0w1 ⟨rfl, gc0w1⟩
    rw [HO1.out]
    skip
    replace Ba := heap_kept gc0w1 Ba
    replace Bb := heap_kept gc0w1 Bb
    replace Bq := heap_kept gc0w1 Bq
    replace ia := ia.kept gc0w1
    replace ib := ib.kept gc0w1
    replace hG := grown_trans hG gc0w1
    clear gc0w1
    obtain ⟨Ca0, Ca1, Fa0, Fa1⟩ := box_cells Ba
    obtain ⟨Cb0, Cb1, Fb0, Fb1⟩ := box_cells Bb
    obtain ⟨Cq0, Cq1, Fq0, Fq1⟩ := box_cells Bq
    go_wp2_with fail
    clear Ca0 Fa0 Ca1 Fa1 Cb0 Fb0 Cb1 Fb1 Cq0 Fq0 Cq1 Fq1
    refine (ZOf_any c0w1 1 (by omega) (by omega)).mono ?_
    rintro e c0w2 ⟨_, rfl, ⟨sd, xd, bd, rfl, hd, vd, td⟩, gc0w2⟩
    have id : IntV c0w2 (.agg #[.slice sd xd.length xd.length, .bool bd]) (1) := ⟨sd, xd, bd, rfl, hd, vd, td⟩
    replace Ba := heap_kept gc0w2 Ba
    replace Bb := heap_kept gc0w2 Bb
    replace Bq := heap_kept gc0w2 Bq
    replace ia := ia.kept gc0w2
    replace ib := ib.kept gc0w2
    replace hG := grown_trans hG gc0w2
    clear gc0w2
    clear hd vd td
    obtain ⟨Ca0, Ca1, Fa0, Fa1⟩ := box_cells Ba
    obtain ⟨Cb0, Cb1, Fb0, Fb1⟩ := box_cells Bb
    obtain ⟨Cq0, Cq1, Fq0, Fq1⟩ := box_cells Bq
    clear Ca0 Fa0 Ca1 Fa1 Cb0 Fb0 Cb1 Fb1 Cq0 Fq0 Cq1 Fq1
    obtain ⟨k90, k91, k92, k93⟩ := box_cells Bq
    obtain ⟨q90, q91, q92, q93⟩ := box_cells (heap_set2 Bq (.slice sd xd.length xd.length) (.bool bd))
    have hF : Hid (RetInt w (1) (.returned (.agg #[.slice sd xd.length xd.length, .bool bd])) ((c0w2.setCell ⟨w.heap.size + 1 + 1, 0, none⟩ (.slice sd xd.length xd.length)).setCell ⟨w.heap.size + 1 + 1, 1, none⟩ (.bool bd))) := ret_intv hG Bq (by omega) id
    clear ia ib id
    go_wp2_with fail
    exact bodyPost_ret (v := .agg #[.slice sd xd.length xd.length, .bool bd]) (by simp [results, Tryz.results45, go_sem, q90, q91]) rfl hF.out
  · skip
    rw [hg.out]
    obtain ⟨sa, xa, ba, rfl, ha, va, ta⟩ := Ha
    obtain ⟨sb, xb, bb, rfl, hb, vb, tb⟩ := Hb
    have hG : w.grownBy (((w.alloc (.cells #[.slice sa xa.length xa.length, .bool ba] 26)).alloc (.cells #[.slice sb xb.length xb.length, .bool bb] 26)).alloc (.cells #[.slice none 0 0, .bool false] 26)) none := (grown_alloc (grown_alloc (World.grownBy_alloc _ _ _) _) _)
    have Ba := heap_kept (grown_alloc (World.grownBy_alloc _ (.cells #[.slice sb xb.length xb.length, .bool bb] 26) none) (.cells #[.slice none 0 0, .bool false] 26)) (heap_new w (.cells #[.slice sa xa.length xa.length, .bool ba] 26) (w.heap.size) rfl)
    have Bb := heap_kept (World.grownBy_alloc _ (.cells #[.slice none 0 0, .bool false] 26) none) (heap_new (w.alloc (.cells #[.slice sa xa.length xa.length, .bool ba] 26)) (.cells #[.slice sb xb.length xb.length, .bool bb] 26) (w.heap.size + 1) (by simp))
    have Bq := (heap_new ((w.alloc (.cells #[.slice sa xa.length xa.length, .bool ba] 26)).alloc (.cells #[.slice sb xb.length xb.length, .bool bb] 26)) (.cells #[.slice none 0 0, .bool false] 26) (w.heap.size + 1 + 1) (by simp))
    have ia : IntV (((w.alloc (.cells #[.slice sa xa.length xa.length, .bool ba] 26)).alloc (.cells #[.slice sb xb.length xb.length, .bool bb] 26)).alloc (.cells #[.slice none 0 0, .bool false] 26)) (.agg #[.slice sa xa.length xa.length, .bool ba]) (x) := ⟨sa, xa, ba, rfl, ha.kept hG, va, ta⟩
    have ib : IntV (((w.alloc (.cells #[.slice sa xa.length xa.length, .bool ba] 26)).alloc (.cells #[.slice sb xb.length xb.length, .bool bb] 26)).alloc (.cells #[.slice none 0 0, .bool false] 26)) (.agg #[.slice sb xb.length xb.length, .bool bb]) (y) := ⟨sb, xb, bb, rfl, hb.kept hG, vb, tb⟩
    have oa : IntV w (.agg #[.slice sa xa.length xa.length, .bool ba]) (x) := ⟨sa, xa, ba, rfl, ha, va, ta⟩
    clear ha va ta
    have ob : IntV w (.agg #[.slice sb xb.length xb.length, .bool bb]) (y) := ⟨sb, xb, bb, rfl, hb, vb, tb⟩
    clear hb vb tb
    go_enter Tryz.func45, Tryz.ntmps45
    obtain ⟨Ca0, Ca1, Fa0, Fa1⟩ := box_cells Ba
    obtain ⟨Cb0, Cb1, Fb0, Fb1⟩ := box_cells Bb
    obtain ⟨Cq0, Cq1, Fq0, Fq1⟩ := box_cells Bq
    go_wp2_with fail
    generalize (((w.alloc (.cells #[.slice sa xa.length xa.length, .bool ba] 26)).alloc (.cells #[.slice sb xb.length xb.length, .bool bb] 26)).alloc (.cells #[.slice none 0 0, .bool false] 26)) = w0 at *
    clear Ca0 Fa0 Ca1 Fa1 Cb0 Fb0 Cb1 Fb1 Cq0 Fq0 Cq1 Fq1
    refine (FOne_any w0 _ x K ia (by omega) Hla.out).mono ?_
    rintro e c1w1 ⟨rfl, gc1w1⟩
    rw [HO1.out]
    skip
    replace Ba := heap_kept gc1w1 Ba
    replace Bb := heap_kept gc1w1 Bb
    replace Bq := heap_kept gc1w1 Bq
    replace ia := ia.kept gc1w1
    replace ib := ib.kept gc1w1
    replace hG := grown_trans hG gc1w1
    clear gc1w1
    obtain ⟨Ca0, Ca1, Fa0, Fa1⟩ := box_cells Ba
    obtain ⟨Cb0, Cb1, Fb0, Fb1⟩ := box_cells Bb
    obtain ⟨Cq0, Cq1, Fq0, Fq1⟩ := box_cells Bq
    go_wp2_with fail
    clear Ca0 Fa0 Ca1 Fa1 Cb0 Fb0 Cb1 Fb1 Cq0 Fq0 Cq1 Fq1
    refine (FOne_any c1w1 _ y K ib (by omega) Hlb.out).mono ?_
    rintro e c1w2 ⟨rfl, gc1w2⟩
    rw [HO2.out]
    skip
    replace Ba := heap_kept gc1w2 Ba
    replace Bb := heap_kept gc1w2 Bb
    replace Bq := heap_kept gc1w2 Bq
    replace ia := ia.kept gc1w2
    replace ib := ib.kept gc1w2
    replace hG := grown_trans hG gc1w2
    clear gc1w2
    obtain ⟨Ca0, Ca1, Fa0, Fa1⟩ := box_cells Ba
    obtain ⟨Cb0, Cb1, Fb0, Fb1⟩ := box_cells Bb
    obtain ⟨Cq0, Cq1, Fq0, Fq1⟩ := box_cells Bq
    go_wp2_with fail
    clear Ca0 Fa0 Ca1 Fa1 Cb0 Fb0 Cb1 Fb1 Cq0 Fq0 Cq1 Fq1
    refine (ZOf_any c1w2 1 (by omega) (by omega)).mono ?_
    rintro e c1w3 ⟨_, rfl, ⟨sd, xd, bd, rfl, hd, vd, td⟩, gc1w3⟩
    have id : IntV c1w3 (.agg #[.slice sd xd.length xd.length, .bool bd]) (1) := ⟨sd, xd, bd, rfl, hd, vd, td⟩
    replace Ba := heap_kept gc1w3 Ba
    replace Bb := heap_kept gc1w3 Bb
    replace Bq := heap_kept gc1w3 Bq
    replace ia := ia.kept gc1w3
    replace ib := ib.kept gc1w3
    replace hG := grown_trans hG gc1w3
    clear gc1w3
    clear hd vd td
    obtain ⟨Ca0, Ca1, Fa0, Fa1⟩ := box_cells Ba
    obtain ⟨Cb0, Cb1, Fb0, Fb1⟩ := box_cells Bb
    obtain ⟨Cq0, Cq1, Fq0, Fq1⟩ := box_cells Bq
    clear Ca0 Fa0 Ca1 Fa1 Cb0 Fb0 Cb1 Fb1 Cq0 Fq0 Cq1 Fq1
    obtain ⟨k90, k91, k92, k93⟩ := box_cells Bq
    obtain ⟨q90, q91, q92, q93⟩ := box_cells (heap_set2 Bq (.slice sd xd.length xd.length) (.bool bd))
    have hF : Hid (RetInt w (1) (.returned (.agg #[.slice sd xd.length xd.length, .bool bd])) ((c1w3.setCell ⟨w.heap.size + 1 + 1, 0, none⟩ (.slice sd xd.length xd.length)).setCell ⟨w.heap.size + 1 + 1, 1, none⟩ (.bool bd))) := ret_intv hG Bq (by omega) id
    clear ia ib id
    go_wp2_with fail
    exact bodyPost_ret (v := .agg #[.slice sd xd.length xd.length, .bool bd]) (by simp [results, Tryz.results45, go_sem, q90, q91]) rfl hF.out
  · skip
    obtain ⟨sa, xa, ba, rfl, ha, va, ta⟩ := Ha
    obtain ⟨sb, xb, bb, rfl, hb, vb, tb⟩ := Hb
    have hG : w.grownBy (((w.alloc (.cells #[.slice sa xa.length xa.length, .bool ba] 26)).alloc (.cells #[.slice sb xb.length xb.length, .bool bb] 26)).alloc (.cells #[.slice none 0 0, .bool false] 26)) none := (grown_alloc (grown_alloc (World.grownBy_alloc _ _ _) _) _)
    have Ba := heap_kept (grown_alloc (World.grownBy_alloc _ (.cells #[.slice sb xb.length xb.length, .bool bb] 26) none) (.cells #[.slice none 0 0, .bool false] 26)) (heap_new w (.cells #[.slice sa xa.length xa.length, .bool ba] 26) (w.heap.size) rfl)
    have Bb := heap_kept (World.grownBy_alloc _ (.cells #[.slice none 0 0, .bool false] 26) none) (heap_new (w.alloc (.cells #[.slice sa xa.length xa.length, .bool ba] 26)) (.cells #[.slice sb xb.length xb.length, .bool bb] 26) (w.heap.size + 1) (by simp))
    have Bq := (heap_new ((w.alloc (.cells #[.slice sa xa.length xa.length, .bool ba] 26)).alloc (.cells #[.slice sb xb.length xb.length, .bool bb] 26)) (.cells #[.slice none 0 0, .bool false] 26) (w.heap.size + 1 + 1) (by simp))
    have ia : IntV (((w.alloc (.cells #[.slice sa xa.length xa.length, .bool ba] 26)).alloc (.cells #[.slice sb xb.length xb.length, .bool bb] 26)).alloc (.cells #[.slice none 0 0, .bool false] 26)) (.agg #[.slice sa xa.length xa.length, .bool ba]) (x) := ⟨sa, xa, ba, rfl, ha.kept hG, va, ta⟩
    have ib : IntV (((w.alloc (.cells #[.slice sa xa.length xa.length, .bool ba] 26)).alloc (.cells #[.slice sb xb.length xb.length, .bool bb] 26)).alloc (.cells #[.slice none 0 0, .bool false] 26)) (.agg #[.slice sb xb.length xb.length, .bool bb]) (y) := ⟨sb, xb, bb, rfl, hb.kept hG, vb, tb⟩
    have oa : IntV w (.agg #[.slice sa xa.length xa.length, .bool ba]) (x) := ⟨sa, xa, ba, rfl, ha, va, ta⟩
    clear ha va ta
    have ob : IntV w (.agg #[.slice sb xb.length xb.length, .bool bb]) (y) := ⟨sb, xb, bb, rfl, hb, vb, tb⟩
    clear hb vb tb
    go_enter Tryz.func45, Tryz.ntmps45
    obtain ⟨Ca0, Ca1, Fa0, Fa1⟩ := box_cells Ba
    obtain ⟨Cb0, Cb1, Fb0, Fb1⟩ := box_cells Bb
    obtain ⟨Cq0, Cq1, Fq0, Fq1⟩ := box_cells Bq
    have hT := HTT.out.kept hG (by simp)
    go_wp2_with fail
    generalize (((w.alloc (.cells #[.slice sa xa.length xa.length, .bool ba] 26)).alloc (.cells #[.slice sb xb.length xb.length, .bool bb] 26)).alloc (.cells #[.slice none 0 0, .bool false] 26)) = w0 at *
    clear Ca0 Fa0 Ca1 Fa1 Cb0 Fb0 Cb1 Fb1 Cq0 Fq0 Cq1 Fq1
    refine (FOne_any w0 _ x K ia (by omega) Hla.out).mono ?_
    rintro e c2w1 ⟨rfl, gc2w1⟩
    rw [HO1.out]
    replace hT := hT.kept gc2w1 (by simp)
    replace Ba := heap_kept gc2w1 Ba
    replace Bb := heap_kept gc2w1 Bb
    replace Bq := heap_kept gc2w1 Bq
    replace ia := ia.kept gc2w1
    replace ib := ib.kept gc2w1
    replace hG := grown_trans hG gc2w1
    clear gc2w1
    obtain ⟨Ca0, Ca1, Fa0, Fa1⟩ := box_cells Ba
    obtain ⟨Cb0, Cb1, Fb0, Fb1⟩ := box_cells Bb
    obtain ⟨Cq0, Cq1, Fq0, Fq1⟩ := box_cells Bq
    go_wp2_with fail
    clear Ca0 Fa0 Ca1 Fa1 Cb0 Fb0 Cb1 Fb1 Cq0 Fq0 Cq1 Fq1
    refine (FOne_any c2w1 _ y K ib (by omega) Hlb.out).mono ?_
    rintro e c2w2 ⟨rfl, gc2w2⟩
    rw [HO2.out]
    replace hT := hT.kept gc2w2 (by simp)
    replace Ba := heap_kept gc2w2 Ba
    replace Bb := heap_kept gc2w2 Bb
    replace Bq := heap_kept gc2w2 Bq
    replace ia := ia.kept gc2w2
    replace ib := ib.kept gc2w2
    replace hG := grown_trans hG gc2w2
    clear gc2w2
    obtain ⟨Ca0, Ca1, Fa0, Fa1⟩ := box_cells Ba
    obtain ⟨Cb0, Cb1, Fb0, Fb1⟩ := box_cells Bb
    obtain ⟨Cq0, Cq1, Fq0, Fq1⟩ := box_cells Bq
    go_wp2_with fail
    have HT3 : Hid (∀ W, c2w2.grownBy W none → Tab W) := fun W hW => hT.kept hW (by simp)
    have hC : c2w2.grownBy c2w2 none := grown_refl _ _
    go_region_held3 (fun w' => w'.cell? ⟨w.heap.size, 0, none⟩ = some (.slice sa xa.length xa.length) ∧ w'.cell? ⟨w.heap.size, 1, none⟩ = some (.bool ba) ∧ w'.cell? ⟨w.heap.size + 1, 0, none⟩ = some (.slice sb xb.length xb.length) ∧ w'.cell? ⟨w.heap.size + 1, 1, none⟩ = some (.bool bb))
      (first | assumption | exact ⟨Ca0, Ca1, Cb0, Cb1⟩ | exact HSc2w3_40 | go_keep)
      (first
        | (go_at_call 58; (with_reducible refine (Abs_any c2w2.drew _ x K (ia.kept (grown_drew (grown_refl _ _))) (by omega) Hla.out).mono ?_); rintro e c2w3_1 ⟨v1, rfl, n1, gc2w3_1⟩; have hGc2w3_1 := grown_pre c2w2 gc2w3_1 rfl rfl rfl rfl; have hSc2w3_1 := (And.intro (hGc2w3_1.cell Ca0 (by simp)) (And.intro (hGc2w3_1.cell Ca1 (by simp)) (And.intro (hGc2w3_1.cell Cb0 (by simp)) (hGc2w3_1.cell Cb1 (by simp))))); clear gc2w3_1)
        | (go_at_call 58; (with_reducible refine (Abs_any c2w3_1 _ y K (ib.kept hGc2w3_1) (by omega) Hlb.out).mono ?_); rintro e c2w3_2 ⟨v2, rfl, n2, gc2w3_2⟩; have hGc2w3_2 := grown_trans hGc2w3_1 gc2w3_2; replace n1 := n1.kept gc2w3_2; have hSc2w3_2 := (And.intro (hGc2w3_2.cell Ca0 (by simp)) (And.intro (hGc2w3_2.cell Ca1 (by simp)) (And.intro (hGc2w3_2.cell Cb0 (by simp)) (hGc2w3_2.cell Cb1 (by simp))))); clear gc2w3_2)
        | (go_at_call 76; (with_reducible refine (Gcd_any c2w3_2 _ _ x.natAbs y.natAbs K n1 n2 (by omega) Hla.out Hlb.out (HT3.out _ hGc2w3_2)).mono ?_); rintro e c2w3_3 ⟨v3, rfl, n3, gc2w3_3⟩; have hGc2w3_3 := grown_trans hGc2w3_2 gc2w3_3; replace n1 := n1.kept gc2w3_3; replace n2 := n2.kept gc2w3_3; have hSc2w3_3 := (And.intro (hGc2w3_3.cell Ca0 (by simp)) (And.intro (hGc2w3_3.cell Ca1 (by simp)) (And.intro (hGc2w3_3.cell Cb0 (by simp)) (hGc2w3_3.cell Cb1 (by simp))))); clear gc2w3_3)
        | (go_at_call 15; (with_reducible refine (Big_any c2w3_3 _ (Nat.gcd x.natAbs y.natAbs) K n3 (by omega) (fgcd_bd Hla.out Hlb.out)).mono ?_); rintro e c2w3_4 ⟨_, rfl, ⟨sd, xd, bd, rfl, hd, vd, td⟩, gc2w3_4⟩; have hGc2w3_4 := grown_trans hGc2w3_3 gc2w3_4; replace n1 := n1.kept gc2w3_4; replace n2 := n2.kept gc2w3_4; replace n3 := n3.kept gc2w3_4; have id : IntV c2w3_4 (.agg #[.slice sd xd.length xd.length, .bool bd]) (((Nat.gcd x.natAbs y.natAbs : Nat) : Int)) := ⟨sd, xd, bd, rfl, hd, vd, td⟩; have hSc2w3_4 := (And.intro (hGc2w3_4.cell Ca0 (by simp)) (And.intro (hGc2w3_4.cell Ca1 (by simp)) (And.intro (hGc2w3_4.cell Cb0 (by simp)) (hGc2w3_4.cell Cb1 (by simp))))); clear gc2w3_4; clear hd vd td; (obtain ⟨dq0, dq1, dq2, dq3⟩ := box_cells (heap_kept hGc2w3_4 Bq)); have HSc2w3_40 := (And.intro ((box_cells (heap_unset2 (heap_kept hGc2w3_4 Ba) (show w.heap.size ≠ w.heap.size + 1 + 1 by omega) (.slice sd xd.length xd.length) (.bool bd))).1) (And.intro ((box_cells (heap_unset2 (heap_kept hGc2w3_4 Ba) (show w.heap.size ≠ w.heap.size + 1 + 1 by omega) (.slice sd xd.length xd.length) (.bool bd))).2.1) (And.intro ((box_cells (heap_unset2 (heap_kept hGc2w3_4 Bb) (show w.heap.size + 1 ≠ w.heap.size + 1 + 1 by omega) (.slice sd xd.length xd.length) (.bool bd))).1) ((box_cells (heap_unset2 (heap_kept hGc2w3_4 Bb) (show w.heap.size + 1 ≠ w.heap.size + 1 + 1 by omega) (.slice sd xd.length xd.length) (.bool bd))).2.1))))))
    replace Ba := heap_kept hGc2w3_4 Ba
    replace Bb := heap_kept hGc2w3_4 Bb
    replace Bq := heap_kept hGc2w3_4 Bq
    replace ia := ia.kept hGc2w3_4
    replace ib := ib.kept hGc2w3_4
    replace hG := grown_trans hG hGc2w3_4
    clear Ca0 Fa0 Ca1 Fa1 Cb0 Fb0 Cb1 Fb1 Cq0 Fq0 Cq1 Fq1
    obtain ⟨k90, k91, k92, k93⟩ := box_cells Bq
    obtain ⟨q90, q91, q92, q93⟩ := box_cells (heap_set2 Bq (.slice sd xd.length xd.length) (.bool bd))
    have hF : Hid (RetInt w (((Nat.gcd x.natAbs y.natAbs : Nat) : Int)) (.returned (.agg #[.slice sd xd.length xd.length, .bool bd])) ((c2w3_4.setCell ⟨w.heap.size + 1 + 1, 0, none⟩ (.slice sd xd.length xd.length)).setCell ⟨w.heap.size + 1 + 1, 1, none⟩ (.bool bd))) := ret_intv hG Bq (by omega) id
    clear ia ib n1 n2 n3 id
    go_wp2_with fail
    exact bodyPost_ret (v := .agg #[.slice sd xd.length xd.length, .bool bd]) (by simp [results, Tryz.results45, go_sem, q90, q91]) rfl hF.out
set_option maxHeartbeats 8000000 in
theorem FOver_any (w : World) (va vb : Value) (r : Rat) (K : Nat) (Ha : IntV w va r.num) (Hb : IntV w vb (r.den : Int)) (hK : K ≤ 800000) (lb : r.den < B ^ K) :
    Calls Tryz.prog 46 #[va, vb] w (RetRat w r) := by
  have Hlb := Lib.hid lb
  clear lb
  by_cases h1 : r.den = 1
  · skip
    have H1 := Lib.hid h1
    have hd : decide ((r.den : Int) = 1) = true := decide_eq_true (by omega)
    have HD := Lib.hid hd
    clear h1 hd
    obtain ⟨sa, xa, ba, rfl, ha, va, ta⟩ := Ha
    obtain ⟨sb, xb, bb, rfl, hb, vb, tb⟩ := Hb
    have hG : w.grownBy (((w.alloc (.cells #[.slice sa xa.length xa.length, .bool ba] 26)).alloc (.cells #[.slice sb xb.length xb.length, .bool bb] 26)).alloc (.cells #[.slice none 0 0, .bool false, .slice none 0 0, .bool false] 28)) none := (grown_alloc (grown_alloc (World.grownBy_alloc _ _ _) _) _)
    have Ba := heap_kept (grown_alloc (World.grownBy_alloc _ (.cells #[.slice sb xb.length xb.length, .bool bb] 26) none) (.cells #[.slice none 0 0, .bool false, .slice none 0 0, .bool false] 28)) (heap_new w (.cells #[.slice sa xa.length xa.length, .bool ba] 26) (w.heap.size) rfl)
    have Bb := heap_kept (World.grownBy_alloc _ (.cells #[.slice none 0 0, .bool false, .slice none 0 0, .bool false] 28) none) (heap_new (w.alloc (.cells #[.slice sa xa.length xa.length, .bool ba] 26)) (.cells #[.slice sb xb.length xb.length, .bool bb] 26) (w.heap.size + 1) (by simp))
    have Bq := (heap_new ((w.alloc (.cells #[.slice sa xa.length xa.length, .bool ba] 26)).alloc (.cells #[.slice sb xb.length xb.length, .bool bb] 26)) (.cells #[.slice none 0 0, .bool false, .slice none 0 0, .bool false] 28) (w.heap.size + 1 + 1) (by simp))
    have ia : IntV (((w.alloc (.cells #[.slice sa xa.length xa.length, .bool ba] 26)).alloc (.cells #[.slice sb xb.length xb.length, .bool bb] 26)).alloc (.cells #[.slice none 0 0, .bool false, .slice none 0 0, .bool false] 28)) (.agg #[.slice sa xa.length xa.length, .bool ba]) (r.num) := ⟨sa, xa, ba, rfl, ha.kept hG, va, ta⟩
    have ib : IntV (((w.alloc (.cells #[.slice sa xa.length xa.length, .bool ba] 26)).alloc (.cells #[.slice sb xb.length xb.length, .bool bb] 26)).alloc (.cells #[.slice none 0 0, .bool false, .slice none 0 0, .bool false] 28)) (.agg #[.slice sb xb.length xb.length, .bool bb]) ((r.den : Int)) := ⟨sb, xb, bb, rfl, hb.kept hG, vb, tb⟩
    have oa : IntV w (.agg #[.slice sa xa.length xa.length, .bool ba]) (r.num) := ⟨sa, xa, ba, rfl, ha, va, ta⟩
    clear ha va ta
    have ob : IntV w (.agg #[.slice sb xb.length xb.length, .bool bb]) ((r.den : Int)) := ⟨sb, xb, bb, rfl, hb, vb, tb⟩
    clear hb vb tb
    go_enter Tryz.func46, Tryz.ntmps46
    obtain ⟨Ca0, Ca1, Fa0, Fa1⟩ := box_cells Ba
    obtain ⟨Cb0, Cb1, Fb0, Fb1⟩ := box_cells Bb
    obtain ⟨Cq0, Cq1, Cq2, Cq3, Fq0, Fq1, Fq2, Fq3⟩ := box_cells4 Bq
    go_wp2_with fail
    generalize (((w.alloc (.cells #[.slice sa xa.length xa.length, .bool ba] 26)).alloc (.cells #[.slice sb xb.length xb.length, .bool bb] 26)).alloc (.cells #[.slice none 0 0, .bool false, .slice none 0 0, .bool false] 28)) = w0 at *
    clear Ca0 Fa0 Ca1 Fa1 Cb0 Fb0 Cb1 Fb1 Cq0 Fq0 Cq1 Fq1 Cq2 Fq2 Cq3 Fq3
    refine (FOne_any w0 _ (r.den : Int) K ib (by omega) (by rw [Int.natAbs_natCast]; exact Hlb.out)).mono ?_
    rintro e o1w1 ⟨rfl, go1w1⟩
    rw [HD.out]
    replace Ba := heap_kept go1w1 Ba
    replace Bb := heap_kept go1w1 Bb
    replace Bq := heap_kept go1w1 Bq
    replace ia := ia.kept go1w1
    replace ib := ib.kept go1w1
    replace hG := grown_trans hG go1w1
    clear go1w1
    obtain ⟨Ca0, Ca1, Fa0, Fa1⟩ := box_cells Ba
    obtain ⟨Cb0, Cb1, Fb0, Fb1⟩ := box_cells Bb
    obtain ⟨Cq0, Cq1, Cq2, Cq3, Fq0, Fq1, Fq2, Fq3⟩ := box_cells4 Bq
    have qd : RatV o1w1 (.agg #[.slice sa xa.length xa.length, .bool ba, .slice none 0 0, .bool false]) r := ⟨_, _, _, none, [], false, rfl, ia, by unfold dn; rw [if_pos H1.out]; exact IntV.zero _⟩
    clear Ca0 Fa0 Ca1 Fa1 Cb0 Fb0 Cb1 Fb1 Cq0 Fq0 Cq1 Fq1 Cq2 Fq2 Cq3 Fq3
    obtain ⟨k90, k91, k92, k93, k94, k95, k96, k97⟩ := box_cells4 Bq
    obtain ⟨q90, q91, q92, q93, q94, q95, q96, q97⟩ := box_cells4 (heap_set4 Bq (.slice sa xa.length xa.length) (.bool ba) (.slice none 0 0) (.bool false))
    have hF : Hid (RetRat w (r) (.returned (.agg #[.slice sa xa.length xa.length, .bool ba, .slice none 0 0, .bool false])) ((((o1w1.setCell ⟨w.heap.size + 1 + 1, 0, none⟩ (.slice sa xa.length xa.length)).setCell ⟨w.heap.size + 1 + 1, 1, none⟩ (.bool ba)).setCell ⟨w.heap.size + 1 + 1, 2, none⟩ (.slice none 0 0)).setCell ⟨w.heap.size + 1 + 1, 3, none⟩ (.bool false))) := ret_ratv hG Bq (by omega) qd
    clear ia ib qd
    obtain ⟨Ca0, Ca1, Fa0, Fa1⟩ := box_cells Ba
    go_wp2_with fail
    exact bodyPost_ret (v := .agg #[.slice sa xa.length xa.length, .bool ba, .slice none 0 0, .bool false]) (by simp [results, Tryz.results46, go_sem, q90, q91, q92, q93]) rfl hF.out
  · skip
    have H1 := Lib.hid h1
    have hd : decide ((r.den : Int) = 1) = false := decide_eq_false (by omega)
    have HD := Lib.hid hd
    clear h1 hd
    obtain ⟨sa, xa, ba, rfl, ha, va, ta⟩ := Ha
    obtain ⟨sb, xb, bb, rfl, hb, vb, tb⟩ := Hb
    have hG : w.grownBy (((w.alloc (.cells #[.slice sa xa.length xa.length, .bool ba] 26)).alloc (.cells #[.slice sb xb.length xb.length, .bool bb] 26)).alloc (.cells #[.slice none 0 0, .bool false, .slice none 0 0, .bool false] 28)) none := (grown_alloc (grown_alloc (World.grownBy_alloc _ _ _) _) _)
    have Ba := heap_kept (grown_alloc (World.grownBy_alloc _ (.cells #[.slice sb xb.length xb.length, .bool bb] 26) none) (.cells #[.slice none 0 0, .bool false, .slice none 0 0, .bool false] 28)) (heap_new w (.cells #[.slice sa xa.length xa.length, .bool ba] 26) (w.heap.size) rfl)
    have Bb := heap_kept (World.grownBy_alloc _ (.cells #[.slice none 0 0, .bool false, .slice none 0 0, .bool false] 28) none) (heap_new (w.alloc (.cells #[.slice sa xa.length xa.length, .bool ba] 26)) (.cells #[.slice sb xb.length xb.length, .bool bb] 26) (w.heap.size + 1) (by simp))
    have Bq := (heap_new ((w.alloc (.cells #[.slice sa xa.length xa.length, .bool ba] 26)).alloc (.cells #[.slice sb xb.length xb.length, .bool bb] 26)) (.cells #[.slice none 0 0, .bool false, .slice none 0 0, .bool false] 28) (w.heap.size + 1 + 1) (by simp))
    have ia : IntV (((w.alloc (.cells #[.slice sa xa.length xa.length, .bool ba] 26)).alloc (.cells #[.slice sb xb.length xb.length, .bool bb] 26)).alloc (.cells #[.slice none 0 0, .bool false, .slice none 0 0, .bool false] 28)) (.agg #[.slice sa xa.length xa.length, .bool ba]) (r.num) := ⟨sa, xa, ba, rfl, ha.kept hG, va, ta⟩
    have ib : IntV (((w.alloc (.cells #[.slice sa xa.length xa.length, .bool ba] 26)).alloc (.cells #[.slice sb xb.length xb.length, .bool bb] 26)).alloc (.cells #[.slice none 0 0, .bool false, .slice none 0 0, .bool false] 28)) (.agg #[.slice sb xb.length xb.length, .bool bb]) ((r.den : Int)) := ⟨sb, xb, bb, rfl, hb.kept hG, vb, tb⟩
    have oa : IntV w (.agg #[.slice sa xa.length xa.length, .bool ba]) (r.num) := ⟨sa, xa, ba, rfl, ha, va, ta⟩
    clear ha va ta
    have ob : IntV w (.agg #[.slice sb xb.length xb.length, .bool bb]) ((r.den : Int)) := ⟨sb, xb, bb, rfl, hb, vb, tb⟩
    clear hb vb tb
    go_enter Tryz.func46, Tryz.ntmps46
    obtain ⟨Ca0, Ca1, Fa0, Fa1⟩ := box_cells Ba
    obtain ⟨Cb0, Cb1, Fb0, Fb1⟩ := box_cells Bb
    obtain ⟨Cq0, Cq1, Cq2, Cq3, Fq0, Fq1, Fq2, Fq3⟩ := box_cells4 Bq
    go_wp2_with fail
    generalize (((w.alloc (.cells #[.slice sa xa.length xa.length, .bool ba] 26)).alloc (.cells #[.slice sb xb.length xb.length, .bool bb] 26)).alloc (.cells #[.slice none 0 0, .bool false, .slice none 0 0, .bool false] 28)) = w0 at *
    clear Ca0 Fa0 Ca1 Fa1 Cb0 Fb0 Cb1 Fb1 Cq0 Fq0 Cq1 Fq1 Cq2 Fq2 Cq3 Fq3
    refine (FOne_any w0 _ (r.den : Int) K ib (by omega) (by rw [Int.natAbs_natCast]; exact Hlb.out)).mono ?_
    rintro e o0w1 ⟨rfl, go0w1⟩
    rw [HD.out]
    replace Ba := heap_kept go0w1 Ba
    replace Bb := heap_kept go0w1 Bb
    replace Bq := heap_kept go0w1 Bq
    replace ia := ia.kept go0w1
    replace ib := ib.kept go0w1
    replace hG := grown_trans hG go0w1
    clear go0w1
    obtain ⟨Ca0, Ca1, Fa0, Fa1⟩ := box_cells Ba
    obtain ⟨Cb0, Cb1, Fb0, Fb1⟩ := box_cells Bb
    obtain ⟨Cq0, Cq1, Cq2, Cq3, Fq0, Fq1, Fq2, Fq3⟩ := box_cells4 Bq
    have qd : RatV o0w1 (.agg #[.slice sa xa.length xa.length, .bool ba, .slice sb xb.length xb.length, .bool bb]) r := ⟨_, _, _, _, _, _, rfl, ia, by unfold dn; rw [if_neg H1.out]; exact ib⟩
    clear Ca0 Fa0 Ca1 Fa1 Cb0 Fb0 Cb1 Fb1 Cq0 Fq0 Cq1 Fq1 Cq2 Fq2 Cq3 Fq3
    obtain ⟨k90, k91, k92, k93, k94, k95, k96, k97⟩ := box_cells4 Bq
    obtain ⟨q90, q91, q92, q93, q94, q95, q96, q97⟩ := box_cells4 (heap_set4 Bq (.slice sa xa.length xa.length) (.bool ba) (.slice sb xb.length xb.length) (.bool bb))
    have hF : Hid (RetRat w (r) (.returned (.agg #[.slice sa xa.length xa.length, .bool ba, .slice sb xb.length xb.length, .bool bb])) ((((o0w1.setCell ⟨w.heap.size + 1 + 1, 0, none⟩ (.slice sa xa.length xa.length)).setCell ⟨w.heap.size + 1 + 1, 1, none⟩ (.bool ba)).setCell ⟨w.heap.size + 1 + 1, 2, none⟩ (.slice sb xb.length xb.length)).setCell ⟨w.heap.size + 1 + 1, 3, none⟩ (.bool bb))) := ret_ratv hG Bq (by omega) qd
    clear ia ib qd
    obtain ⟨Ca0, Ca1, Fa0, Fa1⟩ := box_cells Ba
    obtain ⟨Cb0, Cb1, Fb0, Fb1⟩ := box_cells Bb
    go_wp2_with fail
    exact bodyPost_ret (v := .agg #[.slice sa xa.length xa.length, .bool ba, .slice sb xb.length xb.length, .bool bb]) (by simp [results, Tryz.results46, go_sem, q90, q91, q92, q93]) rfl hF.out
end Go.Proofs.YtldkddogadmpbaaGreatDoor
namespace Go.Proofs.YtldkddogadmpbaaGreatDoor
open Go.RowKit Mat
set_option maxRecDepth 100000
set_option linter.unusedVariables false
set_option linter.unusedSimpArgs false
theorem dn_bd {r : Rat} {K : Nat} (h : r.den < B ^ K) : (dn r).natAbs < B ^ K := by
  unfold dn
  split
  · exact Nat.pow_pos B_pos
  · rw [Int.natAbs_natCast]; exact h
theorem fmul_bd {x y : Int} {K L : Nat} (hx : x.natAbs < B ^ K) (hy : y.natAbs < B ^ L) : (x * y).natAbs < B ^ (K + L) := by
  rw [Int.natAbs_mul, Nat.pow_add]
  exact Nat.mul_lt_mul'' hx hy
def rcmp (a b : Rat) : Int := zcmp (a.num * (b.den : Int)) (b.num * (a.den : Int))
theorem rcmp_whole {a b : Rat} (ha : a.den = 1) (hb : b.den = 1) : zcmp a.num b.num = rcmp a b := by
  unfold rcmp; rw [ha, hb]; simp
theorem dn_neg (r : Rat) : dn (-r) = dn r := by unfold dn; rw [Rat.neg_den]
theorem dn_int (x : Int) : dn (x : Rat) = 0 := by unfold dn; rw [if_pos (Rat.den_intCast x)]
set_option maxHeartbeats 8000000 in
theorem FWhole_any (w : World) (va : Value) (r : Rat) (K : Nat) (Ha : RatV w va r) (hK : K ≤ 800000) (ld : r.den < B ^ K) :
    Calls Tryz.prog 55 #[va] w (RetB w (decide (r.den = 1))) := by
  have Hld := Lib.hid ld
  clear ld
  obtain ⟨n, hn⟩ : ∃ n, (dn r).sign = n := ⟨_, rfl⟩
  obtain ⟨p, hp⟩ : ∃ p, decide (r.den = 1) = p := ⟨_, rfl⟩
  have f1 : (n == 0) = p := by
    rw [← hn, ← hp]
    unfold dn
    by_cases h : r.den = 1
    · rw [if_pos h, decide_eq_true h]; rfl
    · rw [if_neg h, decide_eq_false h]
      refine beq_eq_false_iff_ne.2 ?_
      have := r.den_pos
      rw [Int.sign_eq_one_of_pos (by omega)]
      decide
  have HN := Lib.hid hn
  rw [hp]
  clear hn hp
  obtain ⟨sa, xa, ba, sa', xa', ba', rfl, ha, ha'⟩ := Ha
  have hG : w.grownBy (w.alloc (.cells #[.slice sa xa.length xa.length, .bool ba, .slice sa' xa'.length xa'.length, .bool ba'] 28)) none := (World.grownBy_alloc _ _ _)
  have Ba := (heap_new w (.cells #[.slice sa xa.length xa.length, .bool ba, .slice sa' xa'.length xa'.length, .bool ba'] 28) (w.heap.size) rfl)
  have qa : RatV (w.alloc (.cells #[.slice sa xa.length xa.length, .bool ba, .slice sa' xa'.length xa'.length, .bool ba'] 28)) (.agg #[.slice sa xa.length xa.length, .bool ba, .slice sa' xa'.length xa'.length, .bool ba']) (r) := ⟨sa, xa, ba, sa', xa', ba', rfl, ha.kept hG, ha'.kept hG⟩
  have ia : IntV (w.alloc (.cells #[.slice sa xa.length xa.length, .bool ba, .slice sa' xa'.length xa'.length, .bool ba'] 28)) (.agg #[.slice sa xa.length xa.length, .bool ba]) (r).num := ha.kept hG
  have ia' : IntV (w.alloc (.cells #[.slice sa xa.length xa.length, .bool ba, .slice sa' xa'.length xa'.length, .bool ba'] 28)) (.agg #[.slice sa' xa'.length xa'.length, .bool ba']) (dn (r)) := ha'.kept hG
  have oa : RatV w (.agg #[.slice sa xa.length xa.length, .bool ba, .slice sa' xa'.length xa'.length, .bool ba']) (r) := ⟨sa, xa, ba, sa', xa', ba', rfl, ha, ha'⟩
  clear ha ha'
  go_enter Tryz.func55, Tryz.ntmps55
  obtain ⟨Ca0, Ca1, Ca2, Ca3, Fa0, Fa1, Fa2, Fa3⟩ := box_cells4 Ba
  go_wp2_with fail
  generalize (w.alloc (.cells #[.slice sa xa.length xa.length, .bool ba, .slice sa' xa'.length xa'.length, .bool ba'] 28)) = w0 at *
  clear Ca0 Fa0 Ca1 Fa1 Ca2 Fa2 Ca3 Fa3
  refine (Sign_any w0 _ (dn r) K ia' (by omega) (dn_bd Hld.out)).mono ?_
  rintro e w1 ⟨rfl, gw1⟩
  rw [HN.out]
  replace Ba := heap_kept gw1 Ba
  replace qa := qa.kept gw1
  replace ia := ia.kept gw1
  replace ia' := ia'.kept gw1
  replace hG := grown_trans hG gw1
  clear gw1
  obtain ⟨Ca0, Ca1, Ca2, Ca3, Fa0, Fa1, Fa2, Fa3⟩ := box_cells4 Ba
  go_wp2_with fail
  go_ret
  exact ⟨rfl, hG⟩
set_option maxHeartbeats 8000000 in
theorem FSign_any (w : World) (va : Value) (r : Rat) (K : Nat) (Ha : RatV w va r) (hK : K ≤ 800000) (ln : r.num.natAbs < B ^ K) :
    Calls Tryz.prog 28 #[va] w (fun e w' => e = .returned (.int .i64 r.num.sign) ∧ w.grownBy w' none) := by
  have Hln := Lib.hid ln
  clear ln
  obtain ⟨sa, xa, ba, sa', xa', ba', rfl, ha, ha'⟩ := Ha
  have hG : w.grownBy (w.alloc (.cells #[.slice sa xa.length xa.length, .bool ba, .slice sa' xa'.length xa'.length, .bool ba'] 28)) none := (World.grownBy_alloc _ _ _)
  have Ba := (heap_new w (.cells #[.slice sa xa.length xa.length, .bool ba, .slice sa' xa'.length xa'.length, .bool ba'] 28) (w.heap.size) rfl)
  have qa : RatV (w.alloc (.cells #[.slice sa xa.length xa.length, .bool ba, .slice sa' xa'.length xa'.length, .bool ba'] 28)) (.agg #[.slice sa xa.length xa.length, .bool ba, .slice sa' xa'.length xa'.length, .bool ba']) (r) := ⟨sa, xa, ba, sa', xa', ba', rfl, ha.kept hG, ha'.kept hG⟩
  have ia : IntV (w.alloc (.cells #[.slice sa xa.length xa.length, .bool ba, .slice sa' xa'.length xa'.length, .bool ba'] 28)) (.agg #[.slice sa xa.length xa.length, .bool ba]) (r).num := ha.kept hG
  have ia' : IntV (w.alloc (.cells #[.slice sa xa.length xa.length, .bool ba, .slice sa' xa'.length xa'.length, .bool ba'] 28)) (.agg #[.slice sa' xa'.length xa'.length, .bool ba']) (dn (r)) := ha'.kept hG
  have oa : RatV w (.agg #[.slice sa xa.length xa.length, .bool ba, .slice sa' xa'.length xa'.length, .bool ba']) (r) := ⟨sa, xa, ba, sa', xa', ba', rfl, ha, ha'⟩
  clear ha ha'
  go_enter Tryz.func28, Tryz.ntmps28
  obtain ⟨Ca0, Ca1, Ca2, Ca3, Fa0, Fa1, Fa2, Fa3⟩ := box_cells4 Ba
  go_wp2_with fail
  generalize (w.alloc (.cells #[.slice sa xa.length xa.length, .bool ba, .slice sa' xa'.length xa'.length, .bool ba'] 28)) = w0 at *
  clear Ca0 Fa0 Ca1 Fa1 Ca2 Fa2 Ca3 Fa3
  refine (Sign_any w0 _ r.num K ia (by omega) Hln.out).mono ?_
  rintro e w1 ⟨rfl, gw1⟩
  replace Ba := heap_kept gw1 Ba
  replace qa := qa.kept gw1
  replace ia := ia.kept gw1
  replace ia' := ia'.kept gw1
  replace hG := grown_trans hG gw1
  clear gw1
  obtain ⟨Ca0, Ca1, Ca2, Ca3, Fa0, Fa1, Fa2, Fa3⟩ := box_cells4 Ba
  go_wp2_with fail
  go_ret
  exact ⟨rfl, hG⟩
set_option maxHeartbeats 8000000 in
theorem FNum_any (w : World) (va : Value) (r : Rat) (K : Nat) (Ha : RatV w va r) (hK : K ≤ 800000) (ln : r.num.natAbs < B ^ K) :
    Calls Tryz.prog 60 #[va] w (RetInt w r.num) := by
  have Hln := Lib.hid ln
  clear ln
  obtain ⟨sa, xa, ba, sa', xa', ba', rfl, ha, ha'⟩ := Ha
  have hG : w.grownBy ((w.alloc (.cells #[.slice sa xa.length xa.length, .bool ba, .slice sa' xa'.length xa'.length, .bool ba'] 28)).alloc (.cells #[.slice none 0 0, .bool false] 26)) none := (grown_alloc (World.grownBy_alloc _ _ _) _)
  have Ba := heap_kept (World.grownBy_alloc _ (.cells #[.slice none 0 0, .bool false] 26) none) (heap_new w (.cells #[.slice sa xa.length xa.length, .bool ba, .slice sa' xa'.length xa'.length, .bool ba'] 28) (w.heap.size) rfl)
  have Bq := (heap_new (w.alloc (.cells #[.slice sa xa.length xa.length, .bool ba, .slice sa' xa'.length xa'.length, .bool ba'] 28)) (.cells #[.slice none 0 0, .bool false] 26) (w.heap.size + 1) (by simp))
  have qa : RatV ((w.alloc (.cells #[.slice sa xa.length xa.length, .bool ba, .slice sa' xa'.length xa'.length, .bool ba'] 28)).alloc (.cells #[.slice none 0 0, .bool false] 26)) (.agg #[.slice sa xa.length xa.length, .bool ba, .slice sa' xa'.length xa'.length, .bool ba']) (r) := ⟨sa, xa, ba, sa', xa', ba', rfl, ha.kept hG, ha'.kept hG⟩
  have ia : IntV ((w.alloc (.cells #[.slice sa xa.length xa.length, .bool ba, .slice sa' xa'.length xa'.length, .bool ba'] 28)).alloc (.cells #[.slice none 0 0, .bool false] 26)) (.agg #[.slice sa xa.length xa.length, .bool ba]) (r).num := ha.kept hG
  have ia' : IntV ((w.alloc (.cells #[.slice sa xa.length xa.length, .bool ba, .slice sa' xa'.length xa'.length, .bool ba'] 28)).alloc (.cells #[.slice none 0 0, .bool false] 26)) (.agg #[.slice sa' xa'.length xa'.length, .bool ba']) (dn (r)) := ha'.kept hG
  have oa : RatV w (.agg #[.slice sa xa.length xa.length, .bool ba, .slice sa' xa'.length xa'.length, .bool ba']) (r) := ⟨sa, xa, ba, sa', xa', ba', rfl, ha, ha'⟩
  clear ha ha'
  go_enter Tryz.func60, Tryz.ntmps60
  obtain ⟨Ca0, Ca1, Ca2, Ca3, Fa0, Fa1, Fa2, Fa3⟩ := box_cells4 Ba
  obtain ⟨Cq0, Cq1, Fq0, Fq1⟩ := box_cells Bq
  go_wp2_with fail
  generalize ((w.alloc (.cells #[.slice sa xa.length xa.length, .bool ba, .slice sa' xa'.length xa'.length, .bool ba'] 28)).alloc (.cells #[.slice none 0 0, .bool false] 26)) = w0 at *
  clear Ca0 Fa0 Ca1 Fa1 Ca2 Fa2 Ca3 Fa3 Cq0 Fq0 Cq1 Fq1
  refine (FFresh_any w0 _ r.num K ia (by omega) Hln.out).mono ?_
  rintro e w1 ⟨_, rfl, ⟨sd, xd, bd, rfl, hd, vd, td⟩, gw1⟩
  have id : IntV w1 (.agg #[.slice sd xd.length xd.length, .bool bd]) (r.num) := ⟨sd, xd, bd, rfl, hd, vd, td⟩
  replace Ba := heap_kept gw1 Ba
  replace Bq := heap_kept gw1 Bq
  replace qa := qa.kept gw1
  replace ia := ia.kept gw1
  replace ia' := ia'.kept gw1
  replace hG := grown_trans hG gw1
  clear gw1
  clear hd vd td
  obtain ⟨Ca0, Ca1, Ca2, Ca3, Fa0, Fa1, Fa2, Fa3⟩ := box_cells4 Ba
  obtain ⟨Cq0, Cq1, Fq0, Fq1⟩ := box_cells Bq
  clear Ca0 Fa0 Ca1 Fa1 Ca2 Fa2 Ca3 Fa3 Cq0 Fq0 Cq1 Fq1
  obtain ⟨k90, k91, k92, k93⟩ := box_cells Bq
  obtain ⟨q90, q91, q92, q93⟩ := box_cells (heap_set2 Bq (.slice sd xd.length xd.length) (.bool bd))
  have hF : Hid (RetInt w (r.num) (.returned (.agg #[.slice sd xd.length xd.length, .bool bd])) ((w1.setCell ⟨w.heap.size + 1, 0, none⟩ (.slice sd xd.length xd.length)).setCell ⟨w.heap.size + 1, 1, none⟩ (.bool bd))) := ret_intv hG Bq (by omega) id
  clear qa ia ia' id
  go_wp2_with fail
  exact bodyPost_ret (v := .agg #[.slice sd xd.length xd.length, .bool bd]) (by simp [results, Tryz.results60, go_sem, q90, q91]) rfl hF.out
set_option maxHeartbeats 8000000 in
theorem FUnder_any (w : World) (va : Value) (r : Rat) (K : Nat) (Ha : RatV w va r) (hK : K ≤ 800000) (ld : r.den < B ^ K) :
    Calls Tryz.prog 81 #[va] w (RetInt w (r.den : Int)) := by
  have Hld := Lib.hid ld
  clear ld
  by_cases h1 : r.den = 1
  · skip
    have H1 := Lib.hid h1
    have hd : decide (r.den = 1) = true := decide_eq_true h1
    have HD := Lib.hid hd
    rw [show ((r.den : Nat) : Int) = 1 by rw [h1]; rfl]
    clear h1 hd
    obtain ⟨sa, xa, ba, sa', xa', ba', rfl, ha, ha'⟩ := Ha
    have hG : w.grownBy ((w.alloc (.cells #[.slice sa xa.length xa.length, .bool ba, .slice sa' xa'.length xa'.length, .bool ba'] 28)).alloc (.cells #[.slice none 0 0, .bool false] 26)) none := (grown_alloc (World.grownBy_alloc _ _ _) _)
    have Ba := heap_kept (World.grownBy_alloc _ (.cells #[.slice none 0 0, .bool false] 26) none) (heap_new w (.cells #[.slice sa xa.length xa.length, .bool ba, .slice sa' xa'.length xa'.length, .bool ba'] 28) (w.heap.size) rfl)
    have Bq := (heap_new (w.alloc (.cells #[.slice sa xa.length xa.length, .bool ba, .slice sa' xa'.length xa'.length, .bool ba'] 28)) (.cells #[.slice none 0 0, .bool false] 26) (w.heap.size + 1) (by simp))
    have qa : RatV ((w.alloc (.cells #[.slice sa xa.length xa.length, .bool ba, .slice sa' xa'.length xa'.length, .bool ba'] 28)).alloc (.cells #[.slice none 0 0, .bool false] 26)) (.agg #[.slice sa xa.length xa.length, .bool ba, .slice sa' xa'.length xa'.length, .bool ba']) (r) := ⟨sa, xa, ba, sa', xa', ba', rfl, ha.kept hG, ha'.kept hG⟩
    have ia : IntV ((w.alloc (.cells #[.slice sa xa.length xa.length, .bool ba, .slice sa' xa'.length xa'.length, .bool ba'] 28)).alloc (.cells #[.slice none 0 0, .bool false] 26)) (.agg #[.slice sa xa.length xa.length, .bool ba]) (r).num := ha.kept hG
    have ia' : IntV ((w.alloc (.cells #[.slice sa xa.length xa.length, .bool ba, .slice sa' xa'.length xa'.length, .bool ba'] 28)).alloc (.cells #[.slice none 0 0, .bool false] 26)) (.agg #[.slice sa' xa'.length xa'.length, .bool ba']) (dn (r)) := ha'.kept hG
    have oa : RatV w (.agg #[.slice sa xa.length xa.length, .bool ba, .slice sa' xa'.length xa'.length, .bool ba']) (r) := ⟨sa, xa, ba, sa', xa', ba', rfl, ha, ha'⟩
    clear ha ha'
    go_enter Tryz.func81, Tryz.ntmps81
    obtain ⟨Ca0, Ca1, Ca2, Ca3, Fa0, Fa1, Fa2, Fa3⟩ := box_cells4 Ba
    obtain ⟨Cq0, Cq1, Fq0, Fq1⟩ := box_cells Bq
    go_wp2_with fail
    generalize ((w.alloc (.cells #[.slice sa xa.length xa.length, .bool ba, .slice sa' xa'.length xa'.length, .bool ba'] 28)).alloc (.cells #[.slice none 0 0, .bool false] 26)) = w0 at *
    clear Ca0 Fa0 Ca1 Fa1 Ca2 Fa2 Ca3 Fa3 Cq0 Fq0 Cq1 Fq1
    refine (FWhole_any w0 _ r K qa (by omega) Hld.out).mono ?_
    rintro e u1w1 ⟨rfl, gu1w1⟩
    rw [HD.out]
    replace Ba := heap_kept gu1w1 Ba
    replace Bq := heap_kept gu1w1 Bq
    replace qa := qa.kept gu1w1
    replace ia := ia.kept gu1w1
    replace ia' := ia'.kept gu1w1
    replace hG := grown_trans hG gu1w1
    clear gu1w1
    obtain ⟨Ca0, Ca1, Ca2, Ca3, Fa0, Fa1, Fa2, Fa3⟩ := box_cells4 Ba
    obtain ⟨Cq0, Cq1, Fq0, Fq1⟩ := box_cells Bq
    go_wp2_with fail
    clear Ca0 Fa0 Ca1 Fa1 Ca2 Fa2 Ca3 Fa3 Cq0 Fq0 Cq1 Fq1
    refine (ZOf_any u1w1 1 (by omega) (by omega)).mono ?_
    rintro e u1w2 ⟨_, rfl, ⟨sd, xd, bd, rfl, hd, vd, td⟩, gu1w2⟩
    have id : IntV u1w2 (.agg #[.slice sd xd.length xd.length, .bool bd]) (1) := ⟨sd, xd, bd, rfl, hd, vd, td⟩
    replace Ba := heap_kept gu1w2 Ba
    replace Bq := heap_kept gu1w2 Bq
    replace qa := qa.kept gu1w2
    replace ia := ia.kept gu1w2
    replace ia' := ia'.kept gu1w2
    replace hG := grown_trans hG gu1w2
    clear gu1w2
    clear hd vd td
    obtain ⟨Ca0, Ca1, Ca2, Ca3, Fa0, Fa1, Fa2, Fa3⟩ := box_cells4 Ba
    obtain ⟨Cq0, Cq1, Fq0, Fq1⟩ := box_cells Bq
    clear Ca0 Fa0 Ca1 Fa1 Ca2 Fa2 Ca3 Fa3 Cq0 Fq0 Cq1 Fq1
    obtain ⟨k90, k91, k92, k93⟩ := box_cells Bq
    obtain ⟨q90, q91, q92, q93⟩ := box_cells (heap_set2 Bq (.slice sd xd.length xd.length) (.bool bd))
    have hF : Hid (RetInt w (1) (.returned (.agg #[.slice sd xd.length xd.length, .bool bd])) ((u1w2.setCell ⟨w.heap.size + 1, 0, none⟩ (.slice sd xd.length xd.length)).setCell ⟨w.heap.size + 1, 1, none⟩ (.bool bd))) := ret_intv hG Bq (by omega) id
    clear qa ia ia' id
    go_wp2_with fail
    exact bodyPost_ret (v := .agg #[.slice sd xd.length xd.length, .bool bd]) (by simp [results, Tryz.results81, go_sem, q90, q91]) rfl hF.out
  · skip
    have H1 := Lib.hid h1
    have hd : decide (r.den = 1) = false := decide_eq_false h1
    have HD := Lib.hid hd
    clear h1 hd
    obtain ⟨sa, xa, ba, sa', xa', ba', rfl, ha, ha'⟩ := Ha
    have hG : w.grownBy ((w.alloc (.cells #[.slice sa xa.length xa.length, .bool ba, .slice sa' xa'.length xa'.length, .bool ba'] 28)).alloc (.cells #[.slice none 0 0, .bool false] 26)) none := (grown_alloc (World.grownBy_alloc _ _ _) _)
    have Ba := heap_kept (World.grownBy_alloc _ (.cells #[.slice none 0 0, .bool false] 26) none) (heap_new w (.cells #[.slice sa xa.length xa.length, .bool ba, .slice sa' xa'.length xa'.length, .bool ba'] 28) (w.heap.size) rfl)
    have Bq := (heap_new (w.alloc (.cells #[.slice sa xa.length xa.length, .bool ba, .slice sa' xa'.length xa'.length, .bool ba'] 28)) (.cells #[.slice none 0 0, .bool false] 26) (w.heap.size + 1) (by simp))
    have qa : RatV ((w.alloc (.cells #[.slice sa xa.length xa.length, .bool ba, .slice sa' xa'.length xa'.length, .bool ba'] 28)).alloc (.cells #[.slice none 0 0, .bool false] 26)) (.agg #[.slice sa xa.length xa.length, .bool ba, .slice sa' xa'.length xa'.length, .bool ba']) (r) := ⟨sa, xa, ba, sa', xa', ba', rfl, ha.kept hG, ha'.kept hG⟩
    have ia : IntV ((w.alloc (.cells #[.slice sa xa.length xa.length, .bool ba, .slice sa' xa'.length xa'.length, .bool ba'] 28)).alloc (.cells #[.slice none 0 0, .bool false] 26)) (.agg #[.slice sa xa.length xa.length, .bool ba]) (r).num := ha.kept hG
    have ia' : IntV ((w.alloc (.cells #[.slice sa xa.length xa.length, .bool ba, .slice sa' xa'.length xa'.length, .bool ba'] 28)).alloc (.cells #[.slice none 0 0, .bool false] 26)) (.agg #[.slice sa' xa'.length xa'.length, .bool ba']) (dn (r)) := ha'.kept hG
    have oa : RatV w (.agg #[.slice sa xa.length xa.length, .bool ba, .slice sa' xa'.length xa'.length, .bool ba']) (r) := ⟨sa, xa, ba, sa', xa', ba', rfl, ha, ha'⟩
    clear ha ha'
    go_enter Tryz.func81, Tryz.ntmps81
    obtain ⟨Ca0, Ca1, Ca2, Ca3, Fa0, Fa1, Fa2, Fa3⟩ := box_cells4 Ba
    obtain ⟨Cq0, Cq1, Fq0, Fq1⟩ := box_cells Bq
    go_wp2_with fail
    generalize ((w.alloc (.cells #[.slice sa xa.length xa.length, .bool ba, .slice sa' xa'.length xa'.length, .bool ba'] 28)).alloc (.cells #[.slice none 0 0, .bool false] 26)) = w0 at *
    clear Ca0 Fa0 Ca1 Fa1 Ca2 Fa2 Ca3 Fa3 Cq0 Fq0 Cq1 Fq1
    refine (FWhole_any w0 _ r K qa (by omega) Hld.out).mono ?_
    rintro e u0w1 ⟨rfl, gu0w1⟩
    rw [HD.out]
    replace Ba := heap_kept gu0w1 Ba
    replace Bq := heap_kept gu0w1 Bq
    replace qa := qa.kept gu0w1
    replace ia := ia.kept gu0w1
    replace ia' := ia'.kept gu0w1
    replace hG := grown_trans hG gu0w1
    clear gu0w1
    obtain ⟨Ca0, Ca1, Ca2, Ca3, Fa0, Fa1, Fa2, Fa3⟩ := box_cells4 Ba
    obtain ⟨Cq0, Cq1, Fq0, Fq1⟩ := box_cells Bq
    have iu : IntV u0w1 (.agg #[.slice sa' xa'.length xa'.length, .bool ba']) (r.den : Int) := by have h := ia'; unfold dn at h; rw [if_neg H1.out] at h; exact h
    clear Ca0 Fa0 Ca1 Fa1 Ca2 Fa2 Ca3 Fa3 Cq0 Fq0 Cq1 Fq1
    obtain ⟨k90, k91, k92, k93⟩ := box_cells Bq
    obtain ⟨q90, q91, q92, q93⟩ := box_cells (heap_set2 Bq (.slice sa' xa'.length xa'.length) (.bool ba'))
    have hF : Hid (RetInt w ((r.den : Int)) (.returned (.agg #[.slice sa' xa'.length xa'.length, .bool ba'])) ((u0w1.setCell ⟨w.heap.size + 1, 0, none⟩ (.slice sa' xa'.length xa'.length)).setCell ⟨w.heap.size + 1, 1, none⟩ (.bool ba'))) := ret_intv hG Bq (by omega) iu
    clear qa ia ia' iu
    obtain ⟨Ca0, Ca1, Ca2, Ca3, Fa0, Fa1, Fa2, Fa3⟩ := box_cells4 Ba
    go_wp2_with fail
    exact bodyPost_ret (v := .agg #[.slice sa' xa'.length xa'.length, .bool ba']) (by simp [results, Tryz.results81, go_sem, q90, q91]) rfl hF.out
set_option maxHeartbeats 8000000 in
theorem FDen_any (w : World) (va : Value) (r : Rat) (K : Nat) (Ha : RatV w va r) (hK : K ≤ 800000) (ld : r.den < B ^ K) :
    Calls Tryz.prog 57 #[va] w (RetInt w (r.den : Int)) := by
  have Hld := Lib.hid ld
  clear ld
  obtain ⟨sa, xa, ba, sa', xa', ba', rfl, ha, ha'⟩ := Ha
  have hG : w.grownBy ((w.alloc (.cells #[.slice sa xa.length xa.length, .bool ba, .slice sa' xa'.length xa'.length, .bool ba'] 28)).alloc (.cells #[.slice none 0 0, .bool false] 26)) none := (grown_alloc (World.grownBy_alloc _ _ _) _)
  have Ba := heap_kept (World.grownBy_alloc _ (.cells #[.slice none 0 0, .bool false] 26) none) (heap_new w (.cells #[.slice sa xa.length xa.length, .bool ba, .slice sa' xa'.length xa'.length, .bool ba'] 28) (w.heap.size) rfl)
  have Bq := (heap_new (w.alloc (.cells #[.slice sa xa.length xa.length, .bool ba, .slice sa' xa'.length xa'.length, .bool ba'] 28)) (.cells #[.slice none 0 0, .bool false] 26) (w.heap.size + 1) (by simp))
  have qa : RatV ((w.alloc (.cells #[.slice sa xa.length xa.length, .bool ba, .slice sa' xa'.length xa'.length, .bool ba'] 28)).alloc (.cells #[.slice none 0 0, .bool false] 26)) (.agg #[.slice sa xa.length xa.length, .bool ba, .slice sa' xa'.length xa'.length, .bool ba']) (r) := ⟨sa, xa, ba, sa', xa', ba', rfl, ha.kept hG, ha'.kept hG⟩
  have oa : RatV w (.agg #[.slice sa xa.length xa.length, .bool ba, .slice sa' xa'.length xa'.length, .bool ba']) (r) := ⟨sa, xa, ba, sa', xa', ba', rfl, ha, ha'⟩
  clear ha ha'
  go_enter Tryz.func57, Tryz.ntmps57
  obtain ⟨Ca0, Ca1, Ca2, Ca3, Fa0, Fa1, Fa2, Fa3⟩ := box_cells4 Ba
  obtain ⟨Cq0, Cq1, Fq0, Fq1⟩ := box_cells Bq
  go_wp2_with fail
  generalize ((w.alloc (.cells #[.slice sa xa.length xa.length, .bool ba, .slice sa' xa'.length xa'.length, .bool ba'] 28)).alloc (.cells #[.slice none 0 0, .bool false] 26)) = w0 at *
  clear Ca0 Fa0 Ca1 Fa1 Ca2 Fa2 Ca3 Fa3 Cq0 Fq0 Cq1 Fq1
  refine (FUnder_any w0 _ r K qa (by omega) Hld.out).mono ?_
  rintro e w1 ⟨_, rfl, ⟨su, xu, bu, rfl, hu, vu, tu⟩, gw1⟩
  have iu : IntV w1 (.agg #[.slice su xu.length xu.length, .bool bu]) ((r.den : Int)) := ⟨su, xu, bu, rfl, hu, vu, tu⟩
  replace Ba := heap_kept gw1 Ba
  replace Bq := heap_kept gw1 Bq
  replace qa := qa.kept gw1
  replace hG := grown_trans hG gw1
  clear gw1
  clear hu vu tu
  obtain ⟨Ca0, Ca1, Ca2, Ca3, Fa0, Fa1, Fa2, Fa3⟩ := box_cells4 Ba
  obtain ⟨Cq0, Cq1, Fq0, Fq1⟩ := box_cells Bq
  go_wp2_with fail
  clear Ca0 Fa0 Ca1 Fa1 Ca2 Fa2 Ca3 Fa3 Cq0 Fq0 Cq1 Fq1
  refine (FFresh_any w1 _ (r.den : Int) K iu (by omega) (by rw [Int.natAbs_natCast]; exact Hld.out)).mono ?_
  rintro e w2 ⟨_, rfl, ⟨sd, xd, bd, rfl, hd, vd, td⟩, gw2⟩
  have id : IntV w2 (.agg #[.slice sd xd.length xd.length, .bool bd]) ((r.den : Int)) := ⟨sd, xd, bd, rfl, hd, vd, td⟩
  replace Ba := heap_kept gw2 Ba
  replace Bq := heap_kept gw2 Bq
  replace qa := qa.kept gw2
  replace iu := iu.kept gw2
  replace hG := grown_trans hG gw2
  clear gw2
  clear hd vd td
  obtain ⟨Ca0, Ca1, Ca2, Ca3, Fa0, Fa1, Fa2, Fa3⟩ := box_cells4 Ba
  obtain ⟨Cq0, Cq1, Fq0, Fq1⟩ := box_cells Bq
  clear Ca0 Fa0 Ca1 Fa1 Ca2 Fa2 Ca3 Fa3 Cq0 Fq0 Cq1 Fq1
  obtain ⟨k90, k91, k92, k93⟩ := box_cells Bq
  obtain ⟨q90, q91, q92, q93⟩ := box_cells (heap_set2 Bq (.slice sd xd.length xd.length) (.bool bd))
  have hF : Hid (RetInt w ((r.den : Int)) (.returned (.agg #[.slice sd xd.length xd.length, .bool bd])) ((w2.setCell ⟨w.heap.size + 1, 0, none⟩ (.slice sd xd.length xd.length)).setCell ⟨w.heap.size + 1, 1, none⟩ (.bool bd))) := ret_intv hG Bq (by omega) id
  clear qa iu id
  go_wp2_with fail
  exact bodyPost_ret (v := .agg #[.slice sd xd.length xd.length, .bool bd]) (by simp [results, Tryz.results57, go_sem, q90, q91]) rfl hF.out
set_option maxHeartbeats 8000000 in
theorem FWholeOf_any (w : World) (va : Value) (x : Int) (K : Nat) (Ha : IntV w va x) (hK : K ≤ 800000) (la : x.natAbs < B ^ K) :
    Calls Tryz.prog 12 #[va] w (RetRat w (x : Rat)) := by
  have Hla := Lib.hid la
  clear la
  obtain ⟨sa, xa, ba, rfl, ha, va, ta⟩ := Ha
  have hG : w.grownBy ((w.alloc (.cells #[.slice sa xa.length xa.length, .bool ba] 26)).alloc (.cells #[.slice none 0 0, .bool false, .slice none 0 0, .bool false] 28)) none := (grown_alloc (World.grownBy_alloc _ _ _) _)
  have Ba := heap_kept (World.grownBy_alloc _ (.cells #[.slice none 0 0, .bool false, .slice none 0 0, .bool false] 28) none) (heap_new w (.cells #[.slice sa xa.length xa.length, .bool ba] 26) (w.heap.size) rfl)
  have Bq := (heap_new (w.alloc (.cells #[.slice sa xa.length xa.length, .bool ba] 26)) (.cells #[.slice none 0 0, .bool false, .slice none 0 0, .bool false] 28) (w.heap.size + 1) (by simp))
  have ia : IntV ((w.alloc (.cells #[.slice sa xa.length xa.length, .bool ba] 26)).alloc (.cells #[.slice none 0 0, .bool false, .slice none 0 0, .bool false] 28)) (.agg #[.slice sa xa.length xa.length, .bool ba]) (x) := ⟨sa, xa, ba, rfl, ha.kept hG, va, ta⟩
  have oa : IntV w (.agg #[.slice sa xa.length xa.length, .bool ba]) (x) := ⟨sa, xa, ba, rfl, ha, va, ta⟩
  clear ha va ta
  go_enter Tryz.func12, Tryz.ntmps12
  obtain ⟨Ca0, Ca1, Fa0, Fa1⟩ := box_cells Ba
  obtain ⟨Cq0, Cq1, Cq2, Cq3, Fq0, Fq1, Fq2, Fq3⟩ := box_cells4 Bq
  go_wp2_with fail
  generalize ((w.alloc (.cells #[.slice sa xa.length xa.length, .bool ba] 26)).alloc (.cells #[.slice none 0 0, .bool false, .slice none 0 0, .bool false] 28)) = w0 at *
  clear Ca0 Fa0 Ca1 Fa1 Cq0 Fq0 Cq1 Fq1 Cq2 Fq2 Cq3 Fq3
  refine (FFresh_any w0 _ x K ia (by omega) Hla.out).mono ?_
  rintro e w1 ⟨_, rfl, ⟨sd, xd, bd, rfl, hd, vd, td⟩, gw1⟩
  have id : IntV w1 (.agg #[.slice sd xd.length xd.length, .bool bd]) (x) := ⟨sd, xd, bd, rfl, hd, vd, td⟩
  replace Ba := heap_kept gw1 Ba
  replace Bq := heap_kept gw1 Bq
  replace ia := ia.kept gw1
  replace hG := grown_trans hG gw1
  clear gw1
  clear hd vd td
  obtain ⟨Ca0, Ca1, Fa0, Fa1⟩ := box_cells Ba
  obtain ⟨Cq0, Cq1, Cq2, Cq3, Fq0, Fq1, Fq2, Fq3⟩ := box_cells4 Bq
  have qd : RatV w1 (.agg #[.slice sd xd.length xd.length, .bool bd, .slice none 0 0, .bool false]) (x : Rat) := ⟨_, _, _, none, [], false, rfl, by rw [Rat.num_intCast]; exact id, by rw [dn_int]; exact IntV.zero _⟩
  clear Ca0 Fa0 Ca1 Fa1 Cq0 Fq0 Cq1 Fq1 Cq2 Fq2 Cq3 Fq3
  obtain ⟨k90, k91, k92, k93, k94, k95, k96, k97⟩ := box_cells4 Bq
  obtain ⟨q90, q91, q92, q93, q94, q95, q96, q97⟩ := box_cells4 (heap_set4 Bq (.slice sd xd.length xd.length) (.bool bd) (.slice none 0 0) (.bool false))
  have hF : Hid (RetRat w ((x : Rat)) (.returned (.agg #[.slice sd xd.length xd.length, .bool bd, .slice none 0 0, .bool false])) ((((w1.setCell ⟨w.heap.size + 1, 0, none⟩ (.slice sd xd.length xd.length)).setCell ⟨w.heap.size + 1, 1, none⟩ (.bool bd)).setCell ⟨w.heap.size + 1, 2, none⟩ (.slice none 0 0)).setCell ⟨w.heap.size + 1, 3, none⟩ (.bool false))) := ret_ratv hG Bq (by omega) qd
  clear ia id qd
  go_wp2_with fail
  exact bodyPost_ret (v := .agg #[.slice sd xd.length xd.length, .bool bd, .slice none 0 0, .bool false]) (by simp [results, Tryz.results12, go_sem, q90, q91, q92, q93]) rfl hF.out
end Go.Proofs.YtldkddogadmpbaaGreatDoor
