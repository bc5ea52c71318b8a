/- What the laws lean on, part 18. -/
import Derived.Deep.RegionHeld3
import Derived.Deep.CutRange
import Derived.Test.YtldkddogadmpbaaDoorMa17
namespace Go.Proofs.YtldkddogadmpbaaDoor
open Go.RowKit Mat
set_option maxRecDepth 100000
set_option linter.unusedVariables false
set_option linter.unusedSimpArgs false
theorem fmake_pos (x y : Int) (h : 0 < y) : (Rat.divInt x y).num = x / ((Nat.gcd x.natAbs y.natAbs : Nat) : Int) ∧ (((Rat.divInt x y).den : Nat) : Int) = y / ((Nat.gcd x.natAbs y.natAbs : Nat) : Int) := by
  constructor
  · rw [rdiv_num, Int.sign_eq_one_of_pos h, Int.one_mul]
  · rw [rdiv_den x y (by omega), Int.natAbs_of_nonneg (by omega)]
theorem fshare_bd {x : Int} {g K : Nat} (h : x.natAbs < B ^ K) : (x / (g : Int)).natAbs < B ^ K := Nat.lt_of_le_of_lt (Int.natAbs_ediv_le_natAbs _ _) h
set_option maxHeartbeats 16000000 in
theorem FMake_any (w : World) (va vb : Value) (x y : Int) (K : Nat) (Ha : IntV w va x) (Hb : IntV w vb y) (hK : K ≤ 300000) (la : x.natAbs < B ^ K) (lb : y.natAbs < B ^ K) (hTab : Tab w) :
    Calls Tryd.prog 25 #[va, vb] w (RetRatE w (Rat.divInt x y) (if y = 0 then 5 else 0)) := by
  have HTB : Hid (∀ W, w.grownBy W none → Tab W) := fun W hW => hTab.kept hW (by simp)
  clear hTab
  have hy : (y.sign = 0 ∧ Hid (y = 0)) ∨ (y.sign = -1 ∧ Hid (y < 0)) ∨ (y.sign = 1 ∧ Hid (0 < y)) := by
    rcases zsign y with ⟨h, e⟩ | ⟨h, e⟩ | ⟨h, e⟩
    · right; left; exact ⟨e, h⟩
    · left; exact ⟨e, h⟩
    · right; right; exact ⟨e, h⟩
  have Hla := Lib.hid la
  have Hlb := Lib.hid lb
  clear la lb
  rcases hy with ⟨hs, HY⟩ | ⟨hs, HY⟩ | ⟨hs, HY⟩
  · skip
    have HS := Lib.hid hs
    clear hs
    rw [if_pos HY.out, show Rat.divInt x y = 0 by rw [HY.out, Rat.divInt_zero]]
    obtain ⟨sa, xa, ba, rfl, ha, va, ta⟩ := Ha
    obtain ⟨sb, xb, bb, rfl, hb, vb, tb⟩ := Hb
    have hG : w.grownBy (((w.alloc (.cells #[.slice sa xa.length xa.length, .bool ba] 28)).alloc (.cells #[.slice sb xb.length xb.length, .bool bb] 28)).alloc (.cells #[.slice none 0 0, .bool false, .slice none 0 0, .bool false] 30)) none := (grown_alloc (grown_alloc (World.grownBy_alloc _ _ _) _) _)
    have Ba := heap_kept (grown_alloc (World.grownBy_alloc _ (.cells #[.slice sb xb.length xb.length, .bool bb] 28) none) (.cells #[.slice none 0 0, .bool false, .slice none 0 0, .bool false] 30)) (heap_new w (.cells #[.slice sa xa.length xa.length, .bool ba] 28) (w.heap.size) rfl)
    have Bb := heap_kept (World.grownBy_alloc _ (.cells #[.slice none 0 0, .bool false, .slice none 0 0, .bool false] 30) none) (heap_new (w.alloc (.cells #[.slice sa xa.length xa.length, .bool ba] 28)) (.cells #[.slice sb xb.length xb.length, .bool bb] 28) (w.heap.size + 1) (by simp))
    have Bq := (heap_new ((w.alloc (.cells #[.slice sa xa.length xa.length, .bool ba] 28)).alloc (.cells #[.slice sb xb.length xb.length, .bool bb] 28)) (.cells #[.slice none 0 0, .bool false, .slice none 0 0, .bool false] 30) (w.heap.size + 1 + 1) (by simp))
    have ia : IntV (((w.alloc (.cells #[.slice sa xa.length xa.length, .bool ba] 28)).alloc (.cells #[.slice sb xb.length xb.length, .bool bb] 28)).alloc (.cells #[.slice none 0 0, .bool false, .slice none 0 0, .bool false] 30)) (.agg #[.slice sa xa.length xa.length, .bool ba]) (x) := ⟨sa, xa, ba, rfl, ha.kept hG, va, ta⟩
    have ib : IntV (((w.alloc (.cells #[.slice sa xa.length xa.length, .bool ba] 28)).alloc (.cells #[.slice sb xb.length xb.length, .bool bb] 28)).alloc (.cells #[.slice none 0 0, .bool false, .slice none 0 0, .bool false] 30)) (.agg #[.slice sb xb.length xb.length, .bool bb]) (y) := ⟨sb, xb, bb, rfl, hb.kept hG, vb, tb⟩
    have oa : IntV w (.agg #[.slice sa xa.length xa.length, .bool ba]) (x) := ⟨sa, xa, ba, rfl, ha, va, ta⟩
    clear ha va ta
    have ob : IntV w (.agg #[.slice sb xb.length xb.length, .bool bb]) (y) := ⟨sb, xb, bb, rfl, hb, vb, tb⟩
    clear hb vb tb
    go_enter Tryd.func25, Tryd.ntmps25
    obtain ⟨Ca0, Ca1, Fa0, Fa1⟩ := box_cells Ba
    obtain ⟨Cb0, Cb1, Fb0, Fb1⟩ := box_cells Bb
    obtain ⟨Cq0, Cq1, Cq2, Cq3, Fq0, Fq1, Fq2, Fq3⟩ := box_cells4 Bq
    go_wp2_with fail
    generalize (((w.alloc (.cells #[.slice sa xa.length xa.length, .bool ba] 28)).alloc (.cells #[.slice sb xb.length xb.length, .bool bb] 28)).alloc (.cells #[.slice none 0 0, .bool false, .slice none 0 0, .bool false] 30)) = w0 at *
    clear Ca0 Fa0 Ca1 Fa1 Cb0 Fb0 Cb1 Fb1 Cq0 Fq0 Cq1 Fq1 Cq2 Fq2 Cq3 Fq3
    refine (Sign_any w0 _ y K ib (by omega) Hlb.out).mono ?_
    rintro e y0w1 ⟨rfl, gy0w1⟩
    rw [HS.out]
    replace Ba := heap_kept gy0w1 Ba
    replace Bb := heap_kept gy0w1 Bb
    replace Bq := heap_kept gy0w1 Bq
    replace ia := ia.kept gy0w1
    replace ib := ib.kept gy0w1
    replace hG := grown_trans hG gy0w1
    clear gy0w1
    obtain ⟨Ca0, Ca1, Fa0, Fa1⟩ := box_cells Ba
    obtain ⟨Cb0, Cb1, Fb0, Fb1⟩ := box_cells Bb
    obtain ⟨Cq0, Cq1, Cq2, Cq3, Fq0, Fq1, Fq2, Fq3⟩ := box_cells4 Bq
    have qd : RatV y0w1 (.agg #[.slice none 0 0, .bool false, .slice none 0 0, .bool false]) 0 := RatV.zero _
    clear Ca0 Fa0 Ca1 Fa1 Cb0 Fb0 Cb1 Fb1 Cq0 Fq0 Cq1 Fq1 Cq2 Fq2 Cq3 Fq3
    obtain ⟨k90, k91, k92, k93, k94, k95, k96, k97⟩ := box_cells4 Bq
    obtain ⟨q90, q91, q92, q93, q94, q95, q96, q97⟩ := box_cells4 (heap_set4 Bq (.slice none 0 0) (.bool false) (.slice none 0 0) (.bool false))
    have hF : Hid (RetRatE w (0) 5 (.returned (.tuple #[.agg #[.slice none 0 0, .bool false, .slice none 0 0, .bool false], .int .i64 5])) ((((y0w1.setCell ⟨w.heap.size + 1 + 1, 0, none⟩ (.slice none 0 0)).setCell ⟨w.heap.size + 1 + 1, 1, none⟩ (.bool false)).setCell ⟨w.heap.size + 1 + 1, 2, none⟩ (.slice none 0 0)).setCell ⟨w.heap.size + 1 + 1, 3, none⟩ (.bool false))) := ret_ratvE hG Bq (by omega) qd
    clear ia ib qd
    obtain ⟨Ca0, Ca1, Fa0, Fa1⟩ := box_cells Ba
    obtain ⟨Cb0, Cb1, Fb0, Fb1⟩ := box_cells Bb
    go_wp2_with fail
    exact bodyPost_ret (v := .tuple #[.agg #[.slice none 0 0, .bool false, .slice none 0 0, .bool false], .int .i64 5]) (by simp [results, Tryd.results25, go_sem, q90, q91, q92, q93]) rfl hF.out
  · skip
    have HS := Lib.hid hs
    clear hs
    rw [if_neg (show ¬ y = 0 by have := HY.out; omega)]
    have HLA : Hid ((-x).natAbs < B ^ K) := by show _ < _; rw [Int.natAbs_neg]; exact Hla.out
    have HLB : Hid ((-y).natAbs < B ^ K) := by show _ < _; rw [Int.natAbs_neg]; exact Hlb.out
    have hYp : 0 < (-y) := by have := HY.out; omega
    have e9 : Rat.divInt x y = Rat.divInt (-x) (-y) := (Rat.neg_divInt_neg x y).symm
    obtain ⟨R, hR⟩ : ∃ R, Rat.divInt (-x) (-y) = R := ⟨_, rfl⟩
    obtain ⟨g9, hg9⟩ : ∃ g, Nat.gcd ((-x)).natAbs ((-y)).natAbs = g := ⟨_, rfl⟩
    have hp9 := fmake_pos (-x) (-y) hYp
    rw [hg9, hR] at hp9
    have hb9 : R.den < B ^ K := hR ▸ rdiv_db HLB.out (by omega)
    have hgp : 0 < g9 := by rw [← hg9]; exact Nat.gcd_pos_of_pos_right _ (by omega)
    have hgl : (g9 : Int).natAbs < B ^ K := by rw [Int.natAbs_natCast, ← hg9]; exact fgcd_bd HLA.out HLB.out
    have HP : Hid (R.num = (-x) / (g9 : Int) ∧ ((R.den : Nat) : Int) = (-y) / (g9 : Int) ∧ R.den < B ^ K ∧ (0 : Int) < (g9 : Int) ∧ (g9 : Int).natAbs < B ^ K) := ⟨hp9.1, hp9.2, hb9, by omega, hgl⟩
    have HC : ∀ (W : World) (v u : Value), IntV W v (-x) → IntV W u (-y) → Tab W → Calls Tryd.prog 51 #[v, u] W (RetInt W (g9 : Int)) := fun W v u h1 h2 h3 => hg9 ▸ FCommon_any W v u (-x) (-y) K h1 h2 (by omega) HLA.out HLB.out h3
    replace HC := Lib.hid HC
    rw [e9, hR]
    clear e9 hR hg9 hp9 hb9 hgp hgl hYp
    obtain ⟨sa, xa, ba, rfl, ha, va, ta⟩ := Ha
    obtain ⟨sb, xb, bb, rfl, hb, vb, tb⟩ := Hb
    have hG : w.grownBy (((w.alloc (.cells #[.slice sa xa.length xa.length, .bool ba] 28)).alloc (.cells #[.slice sb xb.length xb.length, .bool bb] 28)).alloc (.cells #[.slice none 0 0, .bool false, .slice none 0 0, .bool false] 30)) none := (grown_alloc (grown_alloc (World.grownBy_alloc _ _ _) _) _)
    have Ba := heap_kept (grown_alloc (World.grownBy_alloc _ (.cells #[.slice sb xb.length xb.length, .bool bb] 28) none) (.cells #[.slice none 0 0, .bool false, .slice none 0 0, .bool false] 30)) (heap_new w (.cells #[.slice sa xa.length xa.length, .bool ba] 28) (w.heap.size) rfl)
    have Bb := heap_kept (World.grownBy_alloc _ (.cells #[.slice none 0 0, .bool false, .slice none 0 0, .bool false] 30) none) (heap_new (w.alloc (.cells #[.slice sa xa.length xa.length, .bool ba] 28)) (.cells #[.slice sb xb.length xb.length, .bool bb] 28) (w.heap.size + 1) (by simp))
    have Bq := (heap_new ((w.alloc (.cells #[.slice sa xa.length xa.length, .bool ba] 28)).alloc (.cells #[.slice sb xb.length xb.length, .bool bb] 28)) (.cells #[.slice none 0 0, .bool false, .slice none 0 0, .bool false] 30) (w.heap.size + 1 + 1) (by simp))
    have ia : IntV (((w.alloc (.cells #[.slice sa xa.length xa.length, .bool ba] 28)).alloc (.cells #[.slice sb xb.length xb.length, .bool bb] 28)).alloc (.cells #[.slice none 0 0, .bool false, .slice none 0 0, .bool false] 30)) (.agg #[.slice sa xa.length xa.length, .bool ba]) (x) := ⟨sa, xa, ba, rfl, ha.kept hG, va, ta⟩
    have ib : IntV (((w.alloc (.cells #[.slice sa xa.length xa.length, .bool ba] 28)).alloc (.cells #[.slice sb xb.length xb.length, .bool bb] 28)).alloc (.cells #[.slice none 0 0, .bool false, .slice none 0 0, .bool false] 30)) (.agg #[.slice sb xb.length xb.length, .bool bb]) (y) := ⟨sb, xb, bb, rfl, hb.kept hG, vb, tb⟩
    have oa : IntV w (.agg #[.slice sa xa.length xa.length, .bool ba]) (x) := ⟨sa, xa, ba, rfl, ha, va, ta⟩
    clear ha va ta
    have ob : IntV w (.agg #[.slice sb xb.length xb.length, .bool bb]) (y) := ⟨sb, xb, bb, rfl, hb, vb, tb⟩
    clear hb vb tb
    go_enter Tryd.func25, Tryd.ntmps25
    obtain ⟨Ca0, Ca1, Fa0, Fa1⟩ := box_cells Ba
    obtain ⟨Cb0, Cb1, Fb0, Fb1⟩ := box_cells Bb
    obtain ⟨Cq0, Cq1, Cq2, Cq3, Fq0, Fq1, Fq2, Fq3⟩ := box_cells4 Bq
    go_wp2_with fail
    generalize (((w.alloc (.cells #[.slice sa xa.length xa.length, .bool ba] 28)).alloc (.cells #[.slice sb xb.length xb.length, .bool bb] 28)).alloc (.cells #[.slice none 0 0, .bool false, .slice none 0 0, .bool false] 30)) = w0 at *
    clear Ca0 Fa0 Ca1 Fa1 Cb0 Fb0 Cb1 Fb1 Cq0 Fq0 Cq1 Fq1 Cq2 Fq2 Cq3 Fq3
    refine (Sign_any w0 _ y K ib (by omega) Hlb.out).mono ?_
    rintro e y1w1 ⟨rfl, gy1w1⟩
    rw [HS.out]
    replace Ba := heap_kept gy1w1 Ba
    replace Bb := heap_kept gy1w1 Bb
    replace Bq := heap_kept gy1w1 Bq
    replace ia := ia.kept gy1w1
    replace ib := ib.kept gy1w1
    replace hG := grown_trans hG gy1w1
    clear gy1w1
    obtain ⟨Ca0, Ca1, Fa0, Fa1⟩ := box_cells Ba
    obtain ⟨Cb0, Cb1, Fb0, Fb1⟩ := box_cells Bb
    obtain ⟨Cq0, Cq1, Cq2, Cq3, Fq0, Fq1, Fq2, Fq3⟩ := box_cells4 Bq
    go_wp2_with fail
    have hs0 : w.heap.size + 1 + 1 < y1w1.heap.size := (Array.getElem?_eq_some_iff.1 Bq).1
    clear Ca0 Fa0 Ca1 Fa1 Cb0 Fb0 Cb1 Fb1 Cq0 Fq0 Cq1 Fq1 Cq2 Fq2 Cq3 Fq3
    refine wp_region_held_drew (S := fun w' => True) (by kernel_rfl) (by exact trivial) (fun hHeld => ?_)
    have gd : y1w1.grownBy y1w1.drew none := grown_drew (grown_refl _ _)
    replace Ba := heap_kept gd Ba
    replace Bb := heap_kept gd Bb
    replace Bq := heap_kept gd Bq
    replace ia := ia.kept gd
    replace ib := ib.kept gd
    replace hG := grown_trans hG gd
    clear gd
    generalize y1w1.drew = y1w2 at *
    refine wpAnyH_ready (rs := [0, 2]) (by kernel_rfl) (by simp) ?_
    refine AllReadyH.cons rfl (fun KQ hKQ => ?_) (AllReadyH.cons rfl (fun KQ hKQ => ?_) AllReadyH.nil)
    focus
     obtain ⟨c0', c1', c2', c3'⟩ := box_cells Ba
     go_simp
     refine hKQ.out _ _ (by exact trivial) (fun hHeld => ?_)
     clear hKQ KQ
     try simp only [Act.put, List.getElem_toArray, List.getElem_cons_zero, List.getElem_cons_succ, List.setIfInBounds_toArray, List.set_cons_zero, List.set_cons_succ]
     refine wpAnyH_ready (rs := [1, 2]) (by kernel_rfl) (by simp) ?_
     refine AllReadyH.cons rfl (fun KQ hKQ => ?_) (AllReadyH.cons rfl (fun KQ hKQ => ?_) AllReadyH.nil)
     focus
      go_simp
      go_at_call 24
      refine (ZNeg_any y1w2 _ x K ia (by omega) Hla.out).mono ?_
      rintro e y1w3 ⟨_, rfl, ⟨se, xe, be, rfl, he, ve, te⟩, gy1w3⟩
      have ie : IntV y1w3 (.agg #[.slice se xe.length xe.length, .bool be]) (-x) := ⟨se, xe, be, rfl, he, ve, te⟩
      replace Ba := heap_kept gy1w3 Ba
      replace Bb := heap_kept gy1w3 Bb
      replace Bq := heap_kept gy1w3 Bq
      replace ia := ia.kept gy1w3
      replace ib := ib.kept gy1w3
      replace hG := grown_trans hG gy1w3
      clear gy1w3
      clear he ve te
      (try go_wp2_with fail)
      refine hKQ.out _ _ (by exact trivial) (fun hHeld => ?_)
      clear hKQ KQ
      try simp only [Act.put, List.getElem_toArray, List.getElem_cons_zero, List.getElem_cons_succ, List.setIfInBounds_toArray, List.set_cons_zero, List.set_cons_succ]
      refine wpAnyH_ready (rs := [2]) (by kernel_rfl) (by simp) ?_
      refine AllReadyH.cons rfl (fun KQ hKQ => ?_) AllReadyH.nil
      obtain ⟨c0', c1', c2', c3'⟩ := box_cells Bb
      go_simp
      refine hKQ.out _ _ (by exact trivial) (fun hHeld => ?_)
      clear hKQ KQ
      try simp only [Act.put, List.getElem_toArray, List.getElem_cons_zero, List.getElem_cons_succ, List.setIfInBounds_toArray, List.set_cons_zero, List.set_cons_succ]
      refine wpAnyH_ready (rs := [3]) (by kernel_rfl) (by simp) ?_
      refine AllReadyH.cons rfl (fun KQ hKQ => ?_) AllReadyH.nil
      go_simp
      go_at_call 24
      refine (ZNeg_any y1w3 _ y K ib (by omega) Hlb.out).mono ?_
      rintro e y1w4 ⟨_, rfl, ⟨sj, xj, bj, rfl, hj, vj, tj⟩, gy1w4⟩
      have ij : IntV y1w4 (.agg #[.slice sj xj.length xj.length, .bool bj]) (-y) := ⟨sj, xj, bj, rfl, hj, vj, tj⟩
      replace Ba := heap_kept gy1w4 Ba
      replace Bb := heap_kept gy1w4 Bb
      replace Bq := heap_kept gy1w4 Bq
      replace ia := ia.kept gy1w4
      replace ib := ib.kept gy1w4
      replace ie := ie.kept gy1w4
      replace hG := grown_trans hG gy1w4
      clear gy1w4
      clear hj vj tj
      (try go_wp2_with fail)
      refine hKQ.out _ _ (by exact trivial) (fun hHeld => ?_)
      clear hKQ KQ
      try simp only [Act.put, List.getElem_toArray, List.getElem_cons_zero, List.getElem_cons_succ, List.setIfInBounds_toArray, List.set_cons_zero, List.set_cons_succ]
     rotate_left 1
     focus
      obtain ⟨c0', c1', c2', c3'⟩ := box_cells Bb
      go_simp
      refine hKQ.out _ _ (by exact trivial) (fun hHeld => ?_)
      clear hKQ KQ
      try simp only [Act.put, List.getElem_toArray, List.getElem_cons_zero, List.getElem_cons_succ, List.setIfInBounds_toArray, List.set_cons_zero, List.set_cons_succ]
      refine wpAnyH_ready (rs := [1]) (by kernel_rfl) (by simp) ?_
      refine AllReadyH.cons rfl (fun KQ hKQ => ?_) AllReadyH.nil
      go_simp
      go_at_call 24
      refine (ZNeg_any y1w2 _ x K ia (by omega) Hla.out).mono ?_
      rintro e y1w3 ⟨_, rfl, ⟨se, xe, be, rfl, he, ve, te⟩, gy1w3⟩
      have ie : IntV y1w3 (.agg #[.slice se xe.length xe.length, .bool be]) (-x) := ⟨se, xe, be, rfl, he, ve, te⟩
      replace Ba := heap_kept gy1w3 Ba
      replace Bb := heap_kept gy1w3 Bb
      replace Bq := heap_kept gy1w3 Bq
      replace ia := ia.kept gy1w3
      replace ib := ib.kept gy1w3
      replace hG := grown_trans hG gy1w3
      clear gy1w3
      clear he ve te
      (try go_wp2_with fail)
      refine hKQ.out _ _ (by exact trivial) (fun hHeld => ?_)
      clear hKQ KQ
      try simp only [Act.put, List.getElem_toArray, List.getElem_cons_zero, List.getElem_cons_succ, List.setIfInBounds_toArray, List.set_cons_zero, List.set_cons_succ]
      refine wpAnyH_ready (rs := [3]) (by kernel_rfl) (by simp) ?_
      refine AllReadyH.cons rfl (fun KQ hKQ => ?_) AllReadyH.nil
      go_simp
      go_at_call 24
      refine (ZNeg_any y1w3 _ y K ib (by omega) Hlb.out).mono ?_
      rintro e y1w4 ⟨_, rfl, ⟨sj, xj, bj, rfl, hj, vj, tj⟩, gy1w4⟩
      have ij : IntV y1w4 (.agg #[.slice sj xj.length xj.length, .bool bj]) (-y) := ⟨sj, xj, bj, rfl, hj, vj, tj⟩
      replace Ba := heap_kept gy1w4 Ba
      replace Bb := heap_kept gy1w4 Bb
      replace Bq := heap_kept gy1w4 Bq
      replace ia := ia.kept gy1w4
      replace ib := ib.kept gy1w4
      replace ie := ie.kept gy1w4
      replace hG := grown_trans hG gy1w4
      clear gy1w4
      clear hj vj tj
      (try go_wp2_with fail)
      refine hKQ.out _ _ (by exact trivial) (fun hHeld => ?_)
      clear hKQ KQ
      try simp only [Act.put, List.getElem_toArray, List.getElem_cons_zero, List.getElem_cons_succ, List.setIfInBounds_toArray, List.set_cons_zero, List.set_cons_succ]
     rotate_left 1
    rotate_left 2
    focus
     obtain ⟨c0', c1', c2', c3'⟩ := box_cells Bb
     go_simp
     refine hKQ.out _ _ (by exact trivial) (fun hHeld => ?_)
     clear hKQ KQ
     try simp only [Act.put, List.getElem_toArray, List.getElem_cons_zero, List.getElem_cons_succ, List.setIfInBounds_toArray, List.set_cons_zero, List.set_cons_succ]
     refine wpAnyH_ready (rs := [0]) (by kernel_rfl) (by simp) ?_
     refine AllReadyH.cons rfl (fun KQ hKQ => ?_) AllReadyH.nil
     obtain ⟨c0', c1', c2', c3'⟩ := box_cells Ba
     go_simp
     refine hKQ.out _ _ (by exact trivial) (fun hHeld => ?_)
     clear hKQ KQ
     try simp only [Act.put, List.getElem_toArray, List.getElem_cons_zero, List.getElem_cons_succ, List.setIfInBounds_toArray, List.set_cons_zero, List.set_cons_succ]
     refine wpAnyH_ready (rs := [1]) (by kernel_rfl) (by simp) ?_
     refine AllReadyH.cons rfl (fun KQ hKQ => ?_) AllReadyH.nil
     go_simp
     go_at_call 24
     refine (ZNeg_any y1w2 _ x K ia (by omega) Hla.out).mono ?_
     rintro e y1w3 ⟨_, rfl, ⟨se, xe, be, rfl, he, ve, te⟩, gy1w3⟩
     have ie : IntV y1w3 (.agg #[.slice se xe.length xe.length, .bool be]) (-x) := ⟨se, xe, be, rfl, he, ve, te⟩
     replace Ba := heap_kept gy1w3 Ba
     replace Bb := heap_kept gy1w3 Bb
     replace Bq := heap_kept gy1w3 Bq
     replace ia := ia.kept gy1w3
     replace ib := ib.kept gy1w3
     replace hG := grown_trans hG gy1w3
     clear gy1w3
     clear he ve te
     (try go_wp2_with fail)
     refine hKQ.out _ _ (by exact trivial) (fun hHeld => ?_)
     clear hKQ KQ
     try simp only [Act.put, List.getElem_toArray, List.getElem_cons_zero, List.getElem_cons_succ, List.setIfInBounds_toArray, List.set_cons_zero, List.set_cons_succ]
     refine wpAnyH_ready (rs := [3]) (by kernel_rfl) (by simp) ?_
     refine AllReadyH.cons rfl (fun KQ hKQ => ?_) AllReadyH.nil
     go_simp
     go_at_call 24
     refine (ZNeg_any y1w3 _ y K ib (by omega) Hlb.out).mono ?_
     rintro e y1w4 ⟨_, rfl, ⟨sj, xj, bj, rfl, hj, vj, tj⟩, gy1w4⟩
     have ij : IntV y1w4 (.agg #[.slice sj xj.length xj.length, .bool bj]) (-y) := ⟨sj, xj, bj, rfl, hj, vj, tj⟩
     replace Ba := heap_kept gy1w4 Ba
     replace Bb := heap_kept gy1w4 Bb
     replace Bq := heap_kept gy1w4 Bq
     replace ia := ia.kept gy1w4
     replace ib := ib.kept gy1w4
     replace ie := ie.kept gy1w4
     replace hG := grown_trans hG gy1w4
     clear gy1w4
     clear hj vj tj
     (try go_wp2_with fail)
     refine hKQ.out _ _ (by exact trivial) (fun hHeld => ?_)
     clear hKQ KQ
     try simp only [Act.put, List.getElem_toArray, List.getElem_cons_zero, List.getElem_cons_succ, List.setIfInBounds_toArray, List.set_cons_zero, List.set_cons_succ]
    rotate_left 1
    all_goals (
     refine wpAnyH_ready (rs := [4]) (by kernel_rfl) (by simp) ?_
     refine AllReadyH.cons rfl (fun KQ hKQ => ?_) AllReadyH.nil
     obtain ⟨c0', c1', c2', c3'⟩ := box_cells Ba
     go_simp
     clear c0' c1' c2' c3'
     replace ia := ia.set2 Ba (.slice se xe.length xe.length) (.bool be)
     replace ib := ib.set2 Ba (.slice se xe.length xe.length) (.bool be)
     replace ie := ie.set2 Ba (.slice se xe.length xe.length) (.bool be)
     replace ij := ij.set2 Ba (.slice se xe.length xe.length) (.bool be)
     replace hG := grown_set2 (g := w.heap.size) hG (by omega) (.slice se xe.length xe.length) (.bool be)
     replace Bb := heap_unset2 Bb (show w.heap.size + 1 ≠ w.heap.size by omega) (.slice se xe.length xe.length) (.bool be)
     replace Bq := heap_unset2 Bq (show w.heap.size + 1 + 1 ≠ w.heap.size by omega) (.slice se xe.length xe.length) (.bool be)
     replace Ba := heap_set2 Ba (.slice se xe.length xe.length) (.bool be)
     generalize ((y1w4.setCell ⟨w.heap.size, 0, none⟩ (.slice se xe.length xe.length)).setCell ⟨w.heap.size, 1, none⟩ (.bool be)) = y1w5 at *
     refine hKQ.out _ _ (by exact trivial) (fun hHeld => ?_)
     clear hKQ KQ
     try simp only [Act.put, List.getElem_toArray, List.getElem_cons_zero, List.getElem_cons_succ, List.setIfInBounds_toArray, List.set_cons_zero, List.set_cons_succ]
     refine wpAnyH_ready (rs := [5]) (by kernel_rfl) (by simp) ?_
     refine AllReadyH.cons rfl (fun KQ hKQ => ?_) AllReadyH.nil
     obtain ⟨c0', c1', c2', c3'⟩ := box_cells Bb
     go_simp
     clear c0' c1' c2' c3'
     replace ia := ia.set2 Bb (.slice sj xj.length xj.length) (.bool bj)
     replace ib := ib.set2 Bb (.slice sj xj.length xj.length) (.bool bj)
     replace ie := ie.set2 Bb (.slice sj xj.length xj.length) (.bool bj)
     replace ij := ij.set2 Bb (.slice sj xj.length xj.length) (.bool bj)
     replace hG := grown_set2 (g := w.heap.size + 1) hG (by omega) (.slice sj xj.length xj.length) (.bool bj)
     replace Ba := heap_unset2 Ba (show w.heap.size ≠ w.heap.size + 1 by omega) (.slice sj xj.length xj.length) (.bool bj)
     replace Bq := heap_unset2 Bq (show w.heap.size + 1 + 1 ≠ w.heap.size + 1 by omega) (.slice sj xj.length xj.length) (.bool bj)
     replace Bb := heap_set2 Bb (.slice sj xj.length xj.length) (.bool bj)
     generalize ((y1w5.setCell ⟨w.heap.size + 1, 0, none⟩ (.slice sj xj.length xj.length)).setCell ⟨w.heap.size + 1, 1, none⟩ (.bool bj)) = y1w6 at *
     refine hKQ.out _ _ (by exact trivial) (fun hHeld => ?_)
     clear hKQ KQ
     try simp only [Act.put, List.getElem_toArray, List.getElem_cons_zero, List.getElem_cons_succ, List.setIfInBounds_toArray, List.set_cons_zero, List.set_cons_succ]
     refine wpAnyH_done (by kernel_rfl) ?_ _
     clear ia ib hs0
     obtain ⟨Ca0, Ca1, Fa0, Fa1⟩ := box_cells Ba
     obtain ⟨Cb0, Cb1, Fb0, Fb1⟩ := box_cells Bb
     obtain ⟨Cq0, Cq1, Cq2, Cq3, Fq0, Fq1, Fq2, Fq3⟩ := box_cells4 Bq
     go_wp2_with fail
     clear Ca0 Fa0 Ca1 Fa1 Cb0 Fb0 Cb1 Fb1 Cq0 Fq0 Cq1 Fq1 Cq2 Fq2 Cq3 Fq3
     refine (HC.out y1w6 _ _ ie ij (HTB.out _ hG)).mono ?_
     rintro e y1w7 ⟨_, rfl, ⟨sg, xg, bg, rfl, hg, vg, tg⟩, gy1w7⟩
     have ig : IntV y1w7 (.agg #[.slice sg xg.length xg.length, .bool bg]) ((g9 : Int)) := ⟨sg, xg, bg, rfl, hg, vg, tg⟩
     replace Ba := heap_kept gy1w7 Ba
     replace Bb := heap_kept gy1w7 Bb
     replace Bq := heap_kept gy1w7 Bq
     replace ie := ie.kept gy1w7
     replace ij := ij.kept gy1w7
     replace hG := grown_trans hG gy1w7
     clear gy1w7
     clear hg vg tg
     obtain ⟨Ca0, Ca1, Fa0, Fa1⟩ := box_cells Ba
     obtain ⟨Cb0, Cb1, Fb0, Fb1⟩ := box_cells Bb
     obtain ⟨Cq0, Cq1, Cq2, Cq3, Fq0, Fq1, Fq2, Fq3⟩ := box_cells4 Bq
     have gby1w7 := (World.grownBy_alloc y1w7 (.cells #[.slice sg xg.length xg.length, .bool bg] 28) none)
     have Bg := (heap_new y1w7 (.cells #[.slice sg xg.length xg.length, .bool bg] 28) (y1w7.heap.size) rfl)
     have hzy1w7 : Hid (w.heap.size ≤ y1w7.heap.size) := Lib.hid hG.size
     have hlay1w7 : Hid (w.heap.size < y1w7.heap.size) := Lib.hid (Array.getElem?_eq_some_iff.1 Ba).1
     have hlby1w7 : Hid (w.heap.size + 1 < y1w7.heap.size) := Lib.hid (Array.getElem?_eq_some_iff.1 Bb).1
     have hlqy1w7 : Hid (w.heap.size + 1 + 1 < y1w7.heap.size) := Lib.hid (Array.getElem?_eq_some_iff.1 Bq).1
     clear Ca0 Fa0 Ca1 Fa1 Cb0 Fb0 Cb1 Fb1 Cq0 Fq0 Cq1 Fq1 Cq2 Fq2 Cq3 Fq3
     replace Ba := heap_kept gby1w7 Ba
     replace Bb := heap_kept gby1w7 Bb
     replace Bq := heap_kept gby1w7 Bq
     replace ie := ie.kept gby1w7
     replace ij := ij.kept gby1w7
     replace ig := ig.kept gby1w7
     replace hG := grown_trans hG gby1w7
     clear gby1w7
     obtain ⟨Ca0, Ca1, Fa0, Fa1⟩ := box_cells Ba
     obtain ⟨Cb0, Cb1, Fb0, Fb1⟩ := box_cells Bb
     obtain ⟨Cq0, Cq1, Cq2, Cq3, Fq0, Fq1, Fq2, Fq3⟩ := box_cells4 Bq
     obtain ⟨Cg0, Cg1, Fg0, Fg1⟩ := box_cells Bg
     go_wp2_with fail
     generalize (y1w7.alloc (.cells #[.slice sg xg.length xg.length, .bool bg] 28)) = y1w8 at *
     generalize y1w7.heap.size = ay1w7 at *
     replace hzy1w7 := hzy1w7.out
     replace hlay1w7 := hlay1w7.out
     replace hlby1w7 := hlby1w7.out
     replace hlqy1w7 := hlqy1w7.out
     go_region_held3 (fun w' => w'.cell? ⟨w.heap.size, 0, none⟩ = some (.slice se xe.length xe.length) ∧ w'.cell? ⟨w.heap.size, 1, none⟩ = some (.bool be) ∧ w'.cell? ⟨w.heap.size + 1, 0, none⟩ = some (.slice sj xj.length xj.length) ∧ w'.cell? ⟨w.heap.size + 1, 1, none⟩ = some (.bool bj) ∧ w'.cell? ⟨ay1w7, 0, none⟩ = some (.slice sg xg.length xg.length) ∧ w'.cell? ⟨ay1w7, 1, none⟩ = some (.bool bg))
       (first | assumption | exact ⟨Ca0, Ca1, Cb0, Cb1, Cg0, Cg1⟩ | exact HSy1w9_50 | go_keep)
       (first
         | (go_at_call 54; (with_reducible refine (FShare_any y1w8.drew _ _ (-x) (g9 : Int) K (ie.kept (grown_drew (grown_refl _ _))) (ig.kept (grown_drew (grown_refl _ _))) (by omega) HLA.out HP.out.2.2.2.2 HP.out.2.2.2.1).mono ?_); rintro e y1w9_1 ⟨v1, rfl, n1, gy1w9_1⟩; have hGy1w9_1 := grown_pre y1w8 gy1w9_1 rfl rfl rfl rfl; have hSy1w9_1 := (And.intro (hGy1w9_1.cell Ca0 (by simp)) (And.intro (hGy1w9_1.cell Ca1 (by simp)) (And.intro (hGy1w9_1.cell Cb0 (by simp)) (And.intro (hGy1w9_1.cell Cb1 (by simp)) (And.intro (hGy1w9_1.cell Cg0 (by simp)) (hGy1w9_1.cell Cg1 (by simp))))))); clear gy1w9_1)
         | (go_at_call 53; (with_reducible refine (FFresh_any y1w9_1 _ ((-x) / (g9 : Int)) K n1 (by omega) (fshare_bd HLA.out)).mono ?_); rintro e y1w9_2 ⟨v2, rfl, n2, gy1w9_2⟩; rw [← HP.out.1] at n2; have hGy1w9_2 := grown_trans hGy1w9_1 gy1w9_2; replace n1 := n1.kept gy1w9_2; have hSy1w9_2 := (And.intro (hGy1w9_2.cell Ca0 (by simp)) (And.intro (hGy1w9_2.cell Ca1 (by simp)) (And.intro (hGy1w9_2.cell Cb0 (by simp)) (And.intro (hGy1w9_2.cell Cb1 (by simp)) (And.intro (hGy1w9_2.cell Cg0 (by simp)) (hGy1w9_2.cell Cg1 (by simp))))))); clear gy1w9_2)
         | (go_at_call 54; (with_reducible refine (FShare_any y1w9_2 _ _ (-y) (g9 : Int) K (ij.kept hGy1w9_2) (ig.kept hGy1w9_2) (by omega) HLB.out HP.out.2.2.2.2 HP.out.2.2.2.1).mono ?_); rintro e y1w9_3 ⟨v3, rfl, n3, gy1w9_3⟩; have hGy1w9_3 := grown_trans hGy1w9_2 gy1w9_3; replace n1 := n1.kept gy1w9_3; replace n2 := n2.kept gy1w9_3; have hSy1w9_3 := (And.intro (hGy1w9_3.cell Ca0 (by simp)) (And.intro (hGy1w9_3.cell Ca1 (by simp)) (And.intro (hGy1w9_3.cell Cb0 (by simp)) (And.intro (hGy1w9_3.cell Cb1 (by simp)) (And.intro (hGy1w9_3.cell Cg0 (by simp)) (hGy1w9_3.cell Cg1 (by simp))))))); clear gy1w9_3)
         | (go_at_call 53; (with_reducible refine (FFresh_any y1w9_3 _ ((-y) / (g9 : Int)) K n3 (by omega) (fshare_bd HLB.out)).mono ?_); rintro e y1w9_4 ⟨v4, rfl, n4, gy1w9_4⟩; rw [← HP.out.2.1] at n4; have hGy1w9_4 := grown_trans hGy1w9_3 gy1w9_4; replace n1 := n1.kept gy1w9_4; replace n2 := n2.kept gy1w9_4; replace n3 := n3.kept gy1w9_4; have hSy1w9_4 := (And.intro (hGy1w9_4.cell Ca0 (by simp)) (And.intro (hGy1w9_4.cell Ca1 (by simp)) (And.intro (hGy1w9_4.cell Cb0 (by simp)) (And.intro (hGy1w9_4.cell Cb1 (by simp)) (And.intro (hGy1w9_4.cell Cg0 (by simp)) (hGy1w9_4.cell Cg1 (by simp))))))); clear gy1w9_4)
         | (go_at_call 52; (with_reducible refine (FOver_any y1w9_4 _ _ R K n2 n4 (by omega) HP.out.2.2.1).mono ?_); rintro e y1w9_5 ⟨_, rfl, ⟨sd, xd, bd, sd', xd', bd', rfl, hd, hd'⟩, gy1w9_5⟩; have hGy1w9_5 := grown_trans hGy1w9_4 gy1w9_5; replace n1 := n1.kept gy1w9_5; replace n2 := n2.kept gy1w9_5; replace n3 := n3.kept gy1w9_5; replace n4 := n4.kept gy1w9_5; have qd : RatV y1w9_5 (.agg #[.slice sd xd.length xd.length, .bool bd, .slice sd' xd'.length xd'.length, .bool bd']) (R) := ⟨sd, xd, bd, sd', xd', bd', rfl, hd, hd'⟩; have hSy1w9_5 := (And.intro (hGy1w9_5.cell Ca0 (by simp)) (And.intro (hGy1w9_5.cell Ca1 (by simp)) (And.intro (hGy1w9_5.cell Cb0 (by simp)) (And.intro (hGy1w9_5.cell Cb1 (by simp)) (And.intro (hGy1w9_5.cell Cg0 (by simp)) (hGy1w9_5.cell Cg1 (by simp))))))); clear gy1w9_5; clear hd hd'; (obtain ⟨dq0, dq1, dq2, dq3, dq4, dq5, dq6, dq7⟩ := box_cells4 (heap_kept hGy1w9_5 Bq)); have HSy1w9_50 := (And.intro ((box_cells (heap_unset4 (heap_kept hGy1w9_5 Ba) (show w.heap.size ≠ w.heap.size + 1 + 1 by omega) (.slice sd xd.length xd.length) (.bool bd) (.slice sd' xd'.length xd'.length) (.bool bd'))).1) (And.intro ((box_cells (heap_unset4 (heap_kept hGy1w9_5 Ba) (show w.heap.size ≠ w.heap.size + 1 + 1 by omega) (.slice sd xd.length xd.length) (.bool bd) (.slice sd' xd'.length xd'.length) (.bool bd'))).2.1) (And.intro ((box_cells (heap_unset4 (heap_kept hGy1w9_5 Bb) (show w.heap.size + 1 ≠ w.heap.size + 1 + 1 by omega) (.slice sd xd.length xd.length) (.bool bd) (.slice sd' xd'.length xd'.length) (.bool bd'))).1) (And.intro ((box_cells (heap_unset4 (heap_kept hGy1w9_5 Bb) (show w.heap.size + 1 ≠ w.heap.size + 1 + 1 by omega) (.slice sd xd.length xd.length) (.bool bd) (.slice sd' xd'.length xd'.length) (.bool bd'))).2.1) (And.intro ((box_cells (heap_unset4 (heap_kept hGy1w9_5 Bg) (show ay1w7 ≠ w.heap.size + 1 + 1 by omega) (.slice sd xd.length xd.length) (.bool bd) (.slice sd' xd'.length xd'.length) (.bool bd'))).1) ((box_cells (heap_unset4 (heap_kept hGy1w9_5 Bg) (show ay1w7 ≠ w.heap.size + 1 + 1 by omega) (.slice sd xd.length xd.length) (.bool bd) (.slice sd' xd'.length xd'.length) (.bool bd'))).2.1))))))))
     replace Ba := heap_kept hGy1w9_5 Ba
     replace Bb := heap_kept hGy1w9_5 Bb
     replace Bq := heap_kept hGy1w9_5 Bq
     replace Bg := heap_kept hGy1w9_5 Bg
     replace ie := ie.kept hGy1w9_5
     replace ij := ij.kept hGy1w9_5
     replace ig := ig.kept hGy1w9_5
     replace hG := grown_trans hG hGy1w9_5
     clear Ca0 Fa0 Ca1 Fa1 Cb0 Fb0 Cb1 Fb1 Cq0 Fq0 Cq1 Fq1 Cq2 Fq2 Cq3 Fq3 Cg0 Fg0 Cg1 Fg1
     obtain ⟨k90, k91, k92, k93, k94, k95, k96, k97⟩ := box_cells4 Bq
     obtain ⟨q90, q91, q92, q93, q94, q95, q96, q97⟩ := box_cells4 (heap_set4 Bq (.slice sd xd.length xd.length) (.bool bd) (.slice sd' xd'.length xd'.length) (.bool bd'))
     have hF : Hid (RetRatE w (R) 0 (.returned (.tuple #[.agg #[.slice sd xd.length xd.length, .bool bd, .slice sd' xd'.length xd'.length, .bool bd'], .int .i64 0])) ((((y1w9_5.setCell ⟨w.heap.size + 1 + 1, 0, none⟩ (.slice sd xd.length xd.length)).setCell ⟨w.heap.size + 1 + 1, 1, none⟩ (.bool bd)).setCell ⟨w.heap.size + 1 + 1, 2, none⟩ (.slice sd' xd'.length xd'.length)).setCell ⟨w.heap.size + 1 + 1, 3, none⟩ (.bool bd'))) := ret_ratvE hG Bq (by omega) qd
     clear ie ij ig n1 n2 n3 n4 qd
     obtain ⟨Ca0, Ca1, Fa0, Fa1⟩ := box_cells Ba
     obtain ⟨Cb0, Cb1, Fb0, Fb1⟩ := box_cells Bb
     obtain ⟨Cg0, Cg1, Fg0, Fg1⟩ := box_cells Bg
     go_wp2_with fail
     exact bodyPost_ret (v := .tuple #[.agg #[.slice sd xd.length xd.length, .bool bd, .slice sd' xd'.length xd'.length, .bool bd'], .int .i64 0]) (by simp [results, Tryd.results25, go_sem, q90, q91, q92, q93]) rfl hF.out)
  · skip
    have HS := Lib.hid hs
    clear hs
    rw [if_neg (show ¬ y = 0 by have := HY.out; omega)]
    have hYp : 0 < y := by have := HY.out; omega
    have e9 : Rat.divInt x y = Rat.divInt x y := rfl
    obtain ⟨R, hR⟩ : ∃ R, Rat.divInt x y = R := ⟨_, rfl⟩
    obtain ⟨g9, hg9⟩ : ∃ g, Nat.gcd (x).natAbs (y).natAbs = g := ⟨_, rfl⟩
    have hp9 := fmake_pos x y hYp
    rw [hg9, hR] at hp9
    have hb9 : R.den < B ^ K := hR ▸ rdiv_db Hlb.out (by omega)
    have hgp : 0 < g9 := by rw [← hg9]; exact Nat.gcd_pos_of_pos_right _ (by omega)
    have hgl : (g9 : Int).natAbs < B ^ K := by rw [Int.natAbs_natCast, ← hg9]; exact fgcd_bd Hla.out Hlb.out
    have HP : Hid (R.num = x / (g9 : Int) ∧ ((R.den : Nat) : Int) = y / (g9 : Int) ∧ R.den < B ^ K ∧ (0 : Int) < (g9 : Int) ∧ (g9 : Int).natAbs < B ^ K) := ⟨hp9.1, hp9.2, hb9, by omega, hgl⟩
    have HC : ∀ (W : World) (v u : Value), IntV W v x → IntV W u y → Tab W → Calls Tryd.prog 51 #[v, u] W (RetInt W (g9 : Int)) := fun W v u h1 h2 h3 => hg9 ▸ FCommon_any W v u x y K h1 h2 (by omega) Hla.out Hlb.out h3
    replace HC := Lib.hid HC
    rw [e9, hR]
    clear e9 hR hg9 hp9 hb9 hgp hgl hYp
    obtain ⟨sa, xa, ba, rfl, ha, va, ta⟩ := Ha
    obtain ⟨sb, xb, bb, rfl, hb, vb, tb⟩ := Hb
    have hG : w.grownBy (((w.alloc (.cells #[.slice sa xa.length xa.length, .bool ba] 28)).alloc (.cells #[.slice sb xb.length xb.length, .bool bb] 28)).alloc (.cells #[.slice none 0 0, .bool false, .slice none 0 0, .bool false] 30)) none := (grown_alloc (grown_alloc (World.grownBy_alloc _ _ _) _) _)
    have Ba := heap_kept (grown_alloc (World.grownBy_alloc _ (.cells #[.slice sb xb.length xb.length, .bool bb] 28) none) (.cells #[.slice none 0 0, .bool false, .slice none 0 0, .bool false] 30)) (heap_new w (.cells #[.slice sa xa.length xa.length, .bool ba] 28) (w.heap.size) rfl)
    have Bb := heap_kept (World.grownBy_alloc _ (.cells #[.slice none 0 0, .bool false, .slice none 0 0, .bool false] 30) none) (heap_new (w.alloc (.cells #[.slice sa xa.length xa.length, .bool ba] 28)) (.cells #[.slice sb xb.length xb.length, .bool bb] 28) (w.heap.size + 1) (by simp))
    have Bq := (heap_new ((w.alloc (.cells #[.slice sa xa.length xa.length, .bool ba] 28)).alloc (.cells #[.slice sb xb.length xb.length, .bool bb] 28)) (.cells #[.slice none 0 0, .bool false, .slice none 0 0, .bool false] 30) (w.heap.size + 1 + 1) (by simp))
    have ia : IntV (((w.alloc (.cells #[.slice sa xa.length xa.length, .bool ba] 28)).alloc (.cells #[.slice sb xb.length xb.length, .bool bb] 28)).alloc (.cells #[.slice none 0 0, .bool false, .slice none 0 0, .bool false] 30)) (.agg #[.slice sa xa.length xa.length, .bool ba]) (x) := ⟨sa, xa, ba, rfl, ha.kept hG, va, ta⟩
    have ib : IntV (((w.alloc (.cells #[.slice sa xa.length xa.length, .bool ba] 28)).alloc (.cells #[.slice sb xb.length xb.length, .bool bb] 28)).alloc (.cells #[.slice none 0 0, .bool false, .slice none 0 0, .bool false] 30)) (.agg #[.slice sb xb.length xb.length, .bool bb]) (y) := ⟨sb, xb, bb, rfl, hb.kept hG, vb, tb⟩
    have oa : IntV w (.agg #[.slice sa xa.length xa.length, .bool ba]) (x) := ⟨sa, xa, ba, rfl, ha, va, ta⟩
    clear ha va ta
    have ob : IntV w (.agg #[.slice sb xb.length xb.length, .bool bb]) (y) := ⟨sb, xb, bb, rfl, hb, vb, tb⟩
    clear hb vb tb
    go_enter Tryd.func25, Tryd.ntmps25
    obtain ⟨Ca0, Ca1, Fa0, Fa1⟩ := box_cells Ba
    obtain ⟨Cb0, Cb1, Fb0, Fb1⟩ := box_cells Bb
    obtain ⟨Cq0, Cq1, Cq2, Cq3, Fq0, Fq1, Fq2, Fq3⟩ := box_cells4 Bq
    go_wp2_with fail
    generalize (((w.alloc (.cells #[.slice sa xa.length xa.length, .bool ba] 28)).alloc (.cells #[.slice sb xb.length xb.length, .bool bb] 28)).alloc (.cells #[.slice none 0 0, .bool false, .slice none 0 0, .bool false] 30)) = w0 at *
    clear Ca0 Fa0 Ca1 Fa1 Cb0 Fb0 Cb1 Fb1 Cq0 Fq0 Cq1 Fq1 Cq2 Fq2 Cq3 Fq3
    refine (Sign_any w0 _ y K ib (by omega) Hlb.out).mono ?_
    rintro e y2w1 ⟨rfl, gy2w1⟩
    rw [HS.out]
    replace Ba := heap_kept gy2w1 Ba
    replace Bb := heap_kept gy2w1 Bb
    replace Bq := heap_kept gy2w1 Bq
    replace ia := ia.kept gy2w1
    replace ib := ib.kept gy2w1
    replace hG := grown_trans hG gy2w1
    clear gy2w1
    obtain ⟨Ca0, Ca1, Fa0, Fa1⟩ := box_cells Ba
    obtain ⟨Cb0, Cb1, Fb0, Fb1⟩ := box_cells Bb
    obtain ⟨Cq0, Cq1, Cq2, Cq3, Fq0, Fq1, Fq2, Fq3⟩ := box_cells4 Bq
    go_wp2_with fail
    clear Ca0 Fa0 Ca1 Fa1 Cb0 Fb0 Cb1 Fb1 Cq0 Fq0 Cq1 Fq1 Cq2 Fq2 Cq3 Fq3
    refine (HC.out y2w1 _ _ ia ib (HTB.out _ hG)).mono ?_
    rintro e y2w2 ⟨_, rfl, ⟨sg, xg, bg, rfl, hg, vg, tg⟩, gy2w2⟩
    have ig : IntV y2w2 (.agg #[.slice sg xg.length xg.length, .bool bg]) ((g9 : Int)) := ⟨sg, xg, bg, rfl, hg, vg, tg⟩
    replace Ba := heap_kept gy2w2 Ba
    replace Bb := heap_kept gy2w2 Bb
    replace Bq := heap_kept gy2w2 Bq
    replace ia := ia.kept gy2w2
    replace ib := ib.kept gy2w2
    replace hG := grown_trans hG gy2w2
    clear gy2w2
    clear hg vg tg
    obtain ⟨Ca0, Ca1, Fa0, Fa1⟩ := box_cells Ba
    obtain ⟨Cb0, Cb1, Fb0, Fb1⟩ := box_cells Bb
    obtain ⟨Cq0, Cq1, Cq2, Cq3, Fq0, Fq1, Fq2, Fq3⟩ := box_cells4 Bq
    have gby2w2 := (World.grownBy_alloc y2w2 (.cells #[.slice sg xg.length xg.length, .bool bg] 28) none)
    have Bg := (heap_new y2w2 (.cells #[.slice sg xg.length xg.length, .bool bg] 28) (y2w2.heap.size) rfl)
    have hzy2w2 : Hid (w.heap.size ≤ y2w2.heap.size) := Lib.hid hG.size
    have hlay2w2 : Hid (w.heap.size < y2w2.heap.size) := Lib.hid (Array.getElem?_eq_some_iff.1 Ba).1
    have hlby2w2 : Hid (w.heap.size + 1 < y2w2.heap.size) := Lib.hid (Array.getElem?_eq_some_iff.1 Bb).1
    have hlqy2w2 : Hid (w.heap.size + 1 + 1 < y2w2.heap.size) := Lib.hid (Array.getElem?_eq_some_iff.1 Bq).1
    clear Ca0 Fa0 Ca1 Fa1 Cb0 Fb0 Cb1 Fb1 Cq0 Fq0 Cq1 Fq1 Cq2 Fq2 Cq3 Fq3
    replace Ba := heap_kept gby2w2 Ba
    replace Bb := heap_kept gby2w2 Bb
    replace Bq := heap_kept gby2w2 Bq
    replace ia := ia.kept gby2w2
    replace ib := ib.kept gby2w2
    replace ig := ig.kept gby2w2
    replace hG := grown_trans hG gby2w2
    clear gby2w2
    obtain ⟨Ca0, Ca1, Fa0, Fa1⟩ := box_cells Ba
    obtain ⟨Cb0, Cb1, Fb0, Fb1⟩ := box_cells Bb
    obtain ⟨Cq0, Cq1, Cq2, Cq3, Fq0, Fq1, Fq2, Fq3⟩ := box_cells4 Bq
    obtain ⟨Cg0, Cg1, Fg0, Fg1⟩ := box_cells Bg
    go_wp2_with fail
    generalize (y2w2.alloc (.cells #[.slice sg xg.length xg.length, .bool bg] 28)) = y2w3 at *
    generalize y2w2.heap.size = ay2w2 at *
    replace hzy2w2 := hzy2w2.out
    replace hlay2w2 := hlay2w2.out
    replace hlby2w2 := hlby2w2.out
    replace hlqy2w2 := hlqy2w2.out
    go_region_held3 (fun w' => w'.cell? ⟨w.heap.size, 0, none⟩ = some (.slice sa xa.length xa.length) ∧ w'.cell? ⟨w.heap.size, 1, none⟩ = some (.bool ba) ∧ w'.cell? ⟨w.heap.size + 1, 0, none⟩ = some (.slice sb xb.length xb.length) ∧ w'.cell? ⟨w.heap.size + 1, 1, none⟩ = some (.bool bb) ∧ w'.cell? ⟨ay2w2, 0, none⟩ = some (.slice sg xg.length xg.length) ∧ w'.cell? ⟨ay2w2, 1, none⟩ = some (.bool bg))
      (first | assumption | exact ⟨Ca0, Ca1, Cb0, Cb1, Cg0, Cg1⟩ | exact HSy2w4_50 | go_keep)
      (first
        | (go_at_call 54; (with_reducible refine (FShare_any y2w3.drew _ _ x (g9 : Int) K (ia.kept (grown_drew (grown_refl _ _))) (ig.kept (grown_drew (grown_refl _ _))) (by omega) Hla.out HP.out.2.2.2.2 HP.out.2.2.2.1).mono ?_); rintro e y2w4_1 ⟨v1, rfl, n1, gy2w4_1⟩; have hGy2w4_1 := grown_pre y2w3 gy2w4_1 rfl rfl rfl rfl; have hSy2w4_1 := (And.intro (hGy2w4_1.cell Ca0 (by simp)) (And.intro (hGy2w4_1.cell Ca1 (by simp)) (And.intro (hGy2w4_1.cell Cb0 (by simp)) (And.intro (hGy2w4_1.cell Cb1 (by simp)) (And.intro (hGy2w4_1.cell Cg0 (by simp)) (hGy2w4_1.cell Cg1 (by simp))))))); clear gy2w4_1)
        | (go_at_call 53; (with_reducible refine (FFresh_any y2w4_1 _ (x / (g9 : Int)) K n1 (by omega) (fshare_bd Hla.out)).mono ?_); rintro e y2w4_2 ⟨v2, rfl, n2, gy2w4_2⟩; rw [← HP.out.1] at n2; have hGy2w4_2 := grown_trans hGy2w4_1 gy2w4_2; replace n1 := n1.kept gy2w4_2; have hSy2w4_2 := (And.intro (hGy2w4_2.cell Ca0 (by simp)) (And.intro (hGy2w4_2.cell Ca1 (by simp)) (And.intro (hGy2w4_2.cell Cb0 (by simp)) (And.intro (hGy2w4_2.cell Cb1 (by simp)) (And.intro (hGy2w4_2.cell Cg0 (by simp)) (hGy2w4_2.cell Cg1 (by simp))))))); clear gy2w4_2)
        | (go_at_call 54; (with_reducible refine (FShare_any y2w4_2 _ _ y (g9 : Int) K (ib.kept hGy2w4_2) (ig.kept hGy2w4_2) (by omega) Hlb.out HP.out.2.2.2.2 HP.out.2.2.2.1).mono ?_); rintro e y2w4_3 ⟨v3, rfl, n3, gy2w4_3⟩; have hGy2w4_3 := grown_trans hGy2w4_2 gy2w4_3; replace n1 := n1.kept gy2w4_3; replace n2 := n2.kept gy2w4_3; have hSy2w4_3 := (And.intro (hGy2w4_3.cell Ca0 (by simp)) (And.intro (hGy2w4_3.cell Ca1 (by simp)) (And.intro (hGy2w4_3.cell Cb0 (by simp)) (And.intro (hGy2w4_3.cell Cb1 (by simp)) (And.intro (hGy2w4_3.cell Cg0 (by simp)) (hGy2w4_3.cell Cg1 (by simp))))))); clear gy2w4_3)
        | (go_at_call 53; (with_reducible refine (FFresh_any y2w4_3 _ (y / (g9 : Int)) K n3 (by omega) (fshare_bd Hlb.out)).mono ?_); rintro e y2w4_4 ⟨v4, rfl, n4, gy2w4_4⟩; rw [← HP.out.2.1] at n4; have hGy2w4_4 := grown_trans hGy2w4_3 gy2w4_4; replace n1 := n1.kept gy2w4_4; replace n2 := n2.kept gy2w4_4; replace n3 := n3.kept gy2w4_4; have hSy2w4_4 := (And.intro (hGy2w4_4.cell Ca0 (by simp)) (And.intro (hGy2w4_4.cell Ca1 (by simp)) (And.intro (hGy2w4_4.cell Cb0 (by simp)) (And.intro (hGy2w4_4.cell Cb1 (by simp)) (And.intro (hGy2w4_4.cell Cg0 (by simp)) (hGy2w4_4.cell Cg1 (by simp))))))); clear gy2w4_4)
        | (go_at_call 52; (with_reducible refine (FOver_any y2w4_4 _ _ R K n2 n4 (by omega) HP.out.2.2.1).mono ?_); rintro e y2w4_5 ⟨_, rfl, ⟨sd, xd, bd, sd', xd', bd', rfl, hd, hd'⟩, gy2w4_5⟩; have hGy2w4_5 := grown_trans hGy2w4_4 gy2w4_5; replace n1 := n1.kept gy2w4_5; replace n2 := n2.kept gy2w4_5; replace n3 := n3.kept gy2w4_5; replace n4 := n4.kept gy2w4_5; have qd : RatV y2w4_5 (.agg #[.slice sd xd.length xd.length, .bool bd, .slice sd' xd'.length xd'.length, .bool bd']) (R) := ⟨sd, xd, bd, sd', xd', bd', rfl, hd, hd'⟩; have hSy2w4_5 := (And.intro (hGy2w4_5.cell Ca0 (by simp)) (And.intro (hGy2w4_5.cell Ca1 (by simp)) (And.intro (hGy2w4_5.cell Cb0 (by simp)) (And.intro (hGy2w4_5.cell Cb1 (by simp)) (And.intro (hGy2w4_5.cell Cg0 (by simp)) (hGy2w4_5.cell Cg1 (by simp))))))); clear gy2w4_5; clear hd hd'; (obtain ⟨dq0, dq1, dq2, dq3, dq4, dq5, dq6, dq7⟩ := box_cells4 (heap_kept hGy2w4_5 Bq)); have HSy2w4_50 := (And.intro ((box_cells (heap_unset4 (heap_kept hGy2w4_5 Ba) (show w.heap.size ≠ w.heap.size + 1 + 1 by omega) (.slice sd xd.length xd.length) (.bool bd) (.slice sd' xd'.length xd'.length) (.bool bd'))).1) (And.intro ((box_cells (heap_unset4 (heap_kept hGy2w4_5 Ba) (show w.heap.size ≠ w.heap.size + 1 + 1 by omega) (.slice sd xd.length xd.length) (.bool bd) (.slice sd' xd'.length xd'.length) (.bool bd'))).2.1) (And.intro ((box_cells (heap_unset4 (heap_kept hGy2w4_5 Bb) (show w.heap.size + 1 ≠ w.heap.size + 1 + 1 by omega) (.slice sd xd.length xd.length) (.bool bd) (.slice sd' xd'.length xd'.length) (.bool bd'))).1) (And.intro ((box_cells (heap_unset4 (heap_kept hGy2w4_5 Bb) (show w.heap.size + 1 ≠ w.heap.size + 1 + 1 by omega) (.slice sd xd.length xd.length) (.bool bd) (.slice sd' xd'.length xd'.length) (.bool bd'))).2.1) (And.intro ((box_cells (heap_unset4 (heap_kept hGy2w4_5 Bg) (show ay2w2 ≠ w.heap.size + 1 + 1 by omega) (.slice sd xd.length xd.length) (.bool bd) (.slice sd' xd'.length xd'.length) (.bool bd'))).1) ((box_cells (heap_unset4 (heap_kept hGy2w4_5 Bg) (show ay2w2 ≠ w.heap.size + 1 + 1 by omega) (.slice sd xd.length xd.length) (.bool bd) (.slice sd' xd'.length xd'.length) (.bool bd'))).2.1))))))))
    replace Ba := heap_kept hGy2w4_5 Ba
    replace Bb := heap_kept hGy2w4_5 Bb
    replace Bq := heap_kept hGy2w4_5 Bq
    replace Bg := heap_kept hGy2w4_5 Bg
    replace ia := ia.kept hGy2w4_5
    replace ib := ib.kept hGy2w4_5
    replace ig := ig.kept hGy2w4_5
    replace hG := grown_trans hG hGy2w4_5
    clear Ca0 Fa0 Ca1 Fa1 Cb0 Fb0 Cb1 Fb1 Cq0 Fq0 Cq1 Fq1 Cq2 Fq2 Cq3 Fq3 Cg0 Fg0 Cg1 Fg1
    obtain ⟨k90, k91, k92, k93, k94, k95, k96, k97⟩ := box_cells4 Bq
    obtain ⟨q90, q91, q92, q93, q94, q95, q96, q97⟩ := box_cells4 (heap_set4 Bq (.slice sd xd.length xd.length) (.bool bd) (.slice sd' xd'.length xd'.length) (.bool bd'))
    have hF : Hid (RetRatE w (R) 0 (.returned (.tuple #[.agg #[.slice sd xd.length xd.length, .bool bd, .slice sd' xd'.length xd'.length, .bool bd'], .int .i64 0])) ((((y2w4_5.setCell ⟨w.heap.size + 1 + 1, 0, none⟩ (.slice sd xd.length xd.length)).setCell ⟨w.heap.size + 1 + 1, 1, none⟩ (.bool bd)).setCell ⟨w.heap.size + 1 + 1, 2, none⟩ (.slice sd' xd'.length xd'.length)).setCell ⟨w.heap.size + 1 + 1, 3, none⟩ (.bool bd'))) := ret_ratvE hG Bq (by omega) qd
    clear ia ib ig n1 n2 n3 n4 qd
    obtain ⟨Ca0, Ca1, Fa0, Fa1⟩ := box_cells Ba
    obtain ⟨Cb0, Cb1, Fb0, Fb1⟩ := box_cells Bb
    obtain ⟨Cg0, Cg1, Fg0, Fg1⟩ := box_cells Bg
    go_wp2_with fail
    exact bodyPost_ret (v := .tuple #[.agg #[.slice sd xd.length xd.length, .bool bd, .slice sd' xd'.length xd'.length, .bool bd'], .int .i64 0]) (by simp [results, Tryd.results25, go_sem, q90, q91, q92, q93]) rfl hF.out
set_option maxHeartbeats 16000000 in
theorem FOf_any (w : World) (n d : Int) (h1 : -9223372036854775808 ≤ n) (h2 : n ≤ 9223372036854775807) (h3 : -9223372036854775808 ≤ d) (h4 : d ≤ 9223372036854775807) (hTab : Tab w) :
    Calls Tryd.prog 19 #[.int .i64 n, .int .i64 d] w (RetRatE w (Rat.divInt n d) (if d = 0 then 5 else 0)) := by
  have HTB : Hid (∀ W, w.grownBy W none → Tab W) := fun W hW => hTab.kept hW (by simp)
  clear hTab
  have HN : Hid (-9223372036854775808 ≤ n ∧ n ≤ 9223372036854775807 ∧ -9223372036854775808 ≤ d ∧ d ≤ 9223372036854775807) := ⟨h1, h2, h3, h4⟩
  have lN : Hid (n.natAbs < B ^ 1) := by show n.natAbs < B ^ 1; unfold B; omega
  have lD : Hid (d.natAbs < B ^ 1) := by show d.natAbs < B ^ 1; unfold B; omega
  obtain ⟨c, hc⟩ : ∃ c : Int, (if d = 0 then 5 else 0) = c := ⟨_, rfl⟩
  have HC := Lib.hid hc
  rw [hc]
  clear h1 h2 h3 h4 hc
  have hG : w.grownBy (w.alloc (.cells #[.slice none 0 0, .bool false, .slice none 0 0, .bool false] 30)) none := (World.grownBy_alloc _ _ _)
  have Bq := (heap_new w (.cells #[.slice none 0 0, .bool false, .slice none 0 0, .bool false] 30) (w.heap.size) rfl)
  go_enter Tryd.func19, Tryd.ntmps19
  obtain ⟨Cq0, Cq1, Cq2, Cq3, Fq0, Fq1, Fq2, Fq3⟩ := box_cells4 Bq
  go_wp2_with fail
  generalize (w.alloc (.cells #[.slice none 0 0, .bool false, .slice none 0 0, .bool false] 30)) = w0 at *
  clear Cq0 Fq0 Cq1 Fq1 Cq2 Fq2 Cq3 Fq3
  refine (ZOf_any w0 n HN.out.1 HN.out.2.1).mono ?_
  rintro e w1 ⟨v1, rfl, n1, gw1⟩
  replace Bq := heap_kept gw1 Bq
  replace hG := grown_trans hG gw1
  clear gw1
  obtain ⟨Cq0, Cq1, Cq2, Cq3, Fq0, Fq1, Fq2, Fq3⟩ := box_cells4 Bq
  go_wp2_with fail
  clear Cq0 Fq0 Cq1 Fq1 Cq2 Fq2 Cq3 Fq3
  refine (ZOf_any w1 d HN.out.2.2.1 HN.out.2.2.2).mono ?_
  rintro e w2 ⟨v2, rfl, n2, gw2⟩
  replace Bq := heap_kept gw2 Bq
  replace n1 := n1.kept gw2
  replace hG := grown_trans hG gw2
  clear gw2
  obtain ⟨Cq0, Cq1, Cq2, Cq3, Fq0, Fq1, Fq2, Fq3⟩ := box_cells4 Bq
  go_wp2_with fail
  clear Cq0 Fq0 Cq1 Fq1 Cq2 Fq2 Cq3 Fq3
  refine (FMake_any w2 _ _ n d 1 n1 n2 (by omega) lN.out lD.out (HTB.out _ hG)).mono ?_
  rintro e w3 ⟨_, rfl, ⟨sd, xd, bd, sd', xd', bd', rfl, hd, hd'⟩, gw3⟩
  rw [HC.out]
  have qd : RatV w3 (.agg #[.slice sd xd.length xd.length, .bool bd, .slice sd' xd'.length xd'.length, .bool bd']) (Rat.divInt n d) := ⟨sd, xd, bd, sd', xd', bd', rfl, hd, hd'⟩
  replace Bq := heap_kept gw3 Bq
  replace n1 := n1.kept gw3
  replace n2 := n2.kept gw3
  replace hG := grown_trans hG gw3
  clear gw3
  clear hd hd'
  obtain ⟨Cq0, Cq1, Cq2, Cq3, Fq0, Fq1, Fq2, Fq3⟩ := box_cells4 Bq
  clear Cq0 Fq0 Cq1 Fq1 Cq2 Fq2 Cq3 Fq3
  obtain ⟨k90, k91, k92, k93, k94, k95, k96, k97⟩ := box_cells4 Bq
  obtain ⟨q90, q91, q92, q93, q94, q95, q96, q97⟩ := box_cells4 (heap_set4 Bq (.slice sd xd.length xd.length) (.bool bd) (.slice sd' xd'.length xd'.length) (.bool bd'))
  have hF : Hid (RetRatE w (Rat.divInt n d) c (.returned (.tuple #[.agg #[.slice sd xd.length xd.length, .bool bd, .slice sd' xd'.length xd'.length, .bool bd'], .int .i64 c])) ((((w3.setCell ⟨w.heap.size, 0, none⟩ (.slice sd xd.length xd.length)).setCell ⟨w.heap.size, 1, none⟩ (.bool bd)).setCell ⟨w.heap.size, 2, none⟩ (.slice sd' xd'.length xd'.length)).setCell ⟨w.heap.size, 3, none⟩ (.bool bd'))) := ret_ratvE hG Bq (by omega) qd
  clear n1 n2 qd
  go_wp2_with fail
  exact bodyPost_ret (v := .tuple #[.agg #[.slice sd xd.length xd.length, .bool bd, .slice sd' xd'.length xd'.length, .bool bd'], .int .i64 c]) (by simp [results, Tryd.results19, go_sem, q90, q91, q92, q93]) rfl hF.out
end Go.Proofs.YtldkddogadmpbaaDoor
