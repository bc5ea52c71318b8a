/- What divides two numbers, and of what it is made. -/
import Derived.Test.YtljfhiikoimdiaaZBezL
import Derived.Deep.RegionHeld3
import Derived.BigRegion
import Derived.Deep.LoopGhost
import Derived.Deep.CutRange
namespace Go.Proofs.Ytljfhiikoimdiaa
open Go.RowKit Mat
set_option maxRecDepth 100000
set_option linter.unusedVariables false
set_option linter.unusedSimpArgs false

set_option maxHeartbeats 64000000 in
theorem ZBez_any (w : World) (va vb : Value) (x y : Int) (K : Nat) (Ha : IntV w va x) (Hb : IntV w vb y) (hK : K ≤ 100000) (la' : x.natAbs < B ^ K) (lb' : y.natAbs < B ^ K) :
    Calls Try.prog 41 #[va, vb] w (RetBez w x y) := by
  have Hla := Lib.hid la'
  have Hlb := Lib.hid lb'
  have l2 : Hid (x.natAbs < B ^ (K + 1)) := Lib.hid (bw la' (Nat.le_succ K))
  have l3 : Hid (y.natAbs < B ^ (K + 1)) := Lib.hid (bw lb' (Nat.le_succ K))
  have l1 : Hid (1 < B ^ (K + 1)) := Lib.hid (Nat.one_lt_pow (by omega) (by unfold B; omega))
  clear la' lb'
  obtain ⟨sa, xa, ba, rfl, ha, va, ta⟩ := Ha
  obtain ⟨sb, xb, bb, rfl, hb, vb, tb⟩ := Hb
  have hG : w.grownBy (((((w.alloc (.cells #[.slice sa xa.length xa.length, .bool ba] 26)).alloc (.cells #[.slice sb xb.length xb.length, .bool bb] 26)).alloc (.cells #[.slice none 0 0, .bool false] 26)).alloc (.cells #[.slice none 0 0, .bool false] 26)).alloc (.cells #[.slice none 0 0, .bool false] 26)) none := (grown_alloc (grown_alloc (grown_alloc (grown_alloc (World.grownBy_alloc _ _ _) _) _) _) _)
  have Ba := heap_kept (grown_alloc (grown_alloc (grown_alloc (World.grownBy_alloc _ (.cells #[.slice sb xb.length xb.length, .bool bb] 26) none) (.cells #[.slice none 0 0, .bool false] 26)) (.cells #[.slice none 0 0, .bool false] 26)) (.cells #[.slice none 0 0, .bool false] 26)) (heap_new w (.cells #[.slice sa xa.length xa.length, .bool ba] 26) (w.heap.size) rfl)
  have Bb := heap_kept (grown_alloc (grown_alloc (World.grownBy_alloc _ (.cells #[.slice none 0 0, .bool false] 26) none) (.cells #[.slice none 0 0, .bool false] 26)) (.cells #[.slice none 0 0, .bool false] 26)) (heap_new (w.alloc (.cells #[.slice sa xa.length xa.length, .bool ba] 26)) (.cells #[.slice sb xb.length xb.length, .bool bb] 26) (w.heap.size + 1) (by simp))
  have Bu := heap_kept (grown_alloc (World.grownBy_alloc _ (.cells #[.slice none 0 0, .bool false] 26) none) (.cells #[.slice none 0 0, .bool false] 26)) (heap_new ((w.alloc (.cells #[.slice sa xa.length xa.length, .bool ba] 26)).alloc (.cells #[.slice sb xb.length xb.length, .bool bb] 26)) (.cells #[.slice none 0 0, .bool false] 26) (w.heap.size + 1 + 1) (by simp))
  have Bv := heap_kept (World.grownBy_alloc _ (.cells #[.slice none 0 0, .bool false] 26) none) (heap_new (((w.alloc (.cells #[.slice sa xa.length xa.length, .bool ba] 26)).alloc (.cells #[.slice sb xb.length xb.length, .bool bb] 26)).alloc (.cells #[.slice none 0 0, .bool false] 26)) (.cells #[.slice none 0 0, .bool false] 26) (w.heap.size + 1 + 1 + 1) (by simp))
  have Bt := (heap_new ((((w.alloc (.cells #[.slice sa xa.length xa.length, .bool ba] 26)).alloc (.cells #[.slice sb xb.length xb.length, .bool bb] 26)).alloc (.cells #[.slice none 0 0, .bool false] 26)).alloc (.cells #[.slice none 0 0, .bool false] 26)) (.cells #[.slice none 0 0, .bool false] 26) (w.heap.size + 1 + 1 + 1 + 1) (by simp))
  have ia : IntV (((((w.alloc (.cells #[.slice sa xa.length xa.length, .bool ba] 26)).alloc (.cells #[.slice sb xb.length xb.length, .bool bb] 26)).alloc (.cells #[.slice none 0 0, .bool false] 26)).alloc (.cells #[.slice none 0 0, .bool false] 26)).alloc (.cells #[.slice none 0 0, .bool false] 26)) (.agg #[.slice sa xa.length xa.length, .bool ba]) (x) := ⟨sa, xa, ba, rfl, ha.kept hG, va, ta⟩
  have na : NatV (((((w.alloc (.cells #[.slice sa xa.length xa.length, .bool ba] 26)).alloc (.cells #[.slice sb xb.length xb.length, .bool bb] 26)).alloc (.cells #[.slice none 0 0, .bool false] 26)).alloc (.cells #[.slice none 0 0, .bool false] 26)).alloc (.cells #[.slice none 0 0, .bool false] 26)) (.agg #[.slice sa xa.length xa.length]) (x).natAbs := ⟨sa, xa, rfl, ha.kept hG, va⟩
  have ib : IntV (((((w.alloc (.cells #[.slice sa xa.length xa.length, .bool ba] 26)).alloc (.cells #[.slice sb xb.length xb.length, .bool bb] 26)).alloc (.cells #[.slice none 0 0, .bool false] 26)).alloc (.cells #[.slice none 0 0, .bool false] 26)).alloc (.cells #[.slice none 0 0, .bool false] 26)) (.agg #[.slice sb xb.length xb.length, .bool bb]) (y) := ⟨sb, xb, bb, rfl, hb.kept hG, vb, tb⟩
  have nb : NatV (((((w.alloc (.cells #[.slice sa xa.length xa.length, .bool ba] 26)).alloc (.cells #[.slice sb xb.length xb.length, .bool bb] 26)).alloc (.cells #[.slice none 0 0, .bool false] 26)).alloc (.cells #[.slice none 0 0, .bool false] 26)).alloc (.cells #[.slice none 0 0, .bool false] 26)) (.agg #[.slice sb xb.length xb.length]) (y).natAbs := ⟨sb, xb, rfl, hb.kept hG, vb⟩
  have oa : IntV w (.agg #[.slice sa xa.length xa.length, .bool ba]) (x) := ⟨sa, xa, ba, rfl, ha, va, ta⟩
  clear ha va ta
  have ob : IntV w (.agg #[.slice sb xb.length xb.length, .bool bb]) (y) := ⟨sb, xb, bb, rfl, hb, vb, tb⟩
  clear hb vb tb
  go_enter Try.func41, Try.ntmps41
  obtain ⟨Ca0, Ca1, Fa0, Fa1⟩ := box_cells Ba
  obtain ⟨Cb0, Cb1, Fb0, Fb1⟩ := box_cells Bb
  obtain ⟨Cu0, Cu1, Fu0, Fu1⟩ := box_cells Bu
  obtain ⟨Cv0, Cv1, Fv0, Fv1⟩ := box_cells Bv
  obtain ⟨Ct0, Ct1, Ft0, Ft1⟩ := box_cells Bt
  go_wp2_with fail
  generalize (((((w.alloc (.cells #[.slice sa xa.length xa.length, .bool ba] 26)).alloc (.cells #[.slice sb xb.length xb.length, .bool bb] 26)).alloc (.cells #[.slice none 0 0, .bool false] 26)).alloc (.cells #[.slice none 0 0, .bool false] 26)).alloc (.cells #[.slice none 0 0, .bool false] 26)) = w0 at *
  have hs0 : w.heap.size + 1 + 1 + 1 + 1 < w0.heap.size := (Array.getElem?_eq_some_iff.1 Bt).1
  have hT : w0.grownBy w0 none := grown_refl _ _
  have HG9 := Lib.hid hG
  have Ha9 := Lib.hid Ba
  have Hb9 := Lib.hid Bb
  have Hu9 := Lib.hid Bu
  have Hv9 := Lib.hid Bv
  have Ht9 := Lib.hid Bt
  have Ia9 := Lib.hid ia
  have Ib9 := Lib.hid ib
  go_cut [7, 8] (fun p q wx => ∃ pg ph, p = .pointer (some ⟨pg, 0, none⟩) ∧ q = .pointer (some ⟨ph, 0, none⟩) ∧ BoxI wx pg (x.natAbs : Int) ∧ BoxI wx ph (y.natAbs : Int) ∧ pg ≠ ph ∧ w0.heap.size ≤ pg ∧ w0.heap.size ≤ ph ∧ w0.grownBy wx none)
  case first =>
   clear Ca0 Fa0 Ca1 Fa1 Cb0 Fb0 Cb1 Fb1 Cu0 Fu0 Cu1 Fu1 Cv0 Fv0 Cv1 Fv1 Ct0 Ft0 Ct1 Ft1
   clear Bu Bv Bt
   clear ia ib
   obtain ⟨Ca0, Ca1, Fa0, Fa1⟩ := box_cells Ba
   obtain ⟨Cb0, Cb1, Fb0, Fb1⟩ := box_cells Bb
   refine wp_region_held_drew (S := fun w' => w'.cell? ⟨w.heap.size, 0, none⟩ = some (.slice sa xa.length xa.length) ∧ w'.cell? ⟨w.heap.size, 1, none⟩ = some (.bool ba) ∧ w'.cell? ⟨w.heap.size + 1, 0, none⟩ = some (.slice sb xb.length xb.length) ∧ w'.cell? ⟨w.heap.size + 1, 1, none⟩ = some (.bool bb)) (by kernel_rfl) (by exact ⟨Ca0, Ca1, Cb0, Cb1⟩) (fun hHeld => ?_)
   have gd : w0.grownBy w0.drew none := grown_drew (grown_refl _ _)
   clear Ca0 Fa0 Ca1 Fa1 Cb0 Fb0 Cb1 Fb1
   replace Ba := heap_kept gd Ba
   replace Bb := heap_kept gd Bb
   replace na := na.kept gd
   replace nb := nb.kept gd
   replace hG := grown_trans hG gd
   replace hT := grown_trans hT gd
   clear gd
   generalize w0.drew = tw1 at *
   refine wpAnyH_take (i := 0) (v := ?_) rfl (by kernel_rfl) (by kernel_rfl) (by kernel_rfl) (fun _ _ _ h => h) (Or.inl ⟨by rfl, ?_⟩) (by assumption) ?_
   rotate_left
   · (intro w hSw; (try dsimp only at hSw); go_simp; (try with_reducible rfl))
   try simp only [Act.put, List.getElem_toArray, List.getElem_cons_zero, List.getElem_cons_succ, List.setIfInBounds_toArray, List.set_cons_zero, List.set_cons_succ]
   refine wpAnyH_take (i := 1) (v := ?_) rfl (by kernel_rfl) (by kernel_rfl) (by kernel_rfl) (fun _ _ _ h => h) (Or.inl ⟨by rfl, ?_⟩) (by assumption) ?_
   rotate_left
   · (intro w hSw; (try dsimp only at hSw); go_simp; (try with_reducible rfl))
   try simp only [Act.put, List.getElem_toArray, List.getElem_cons_zero, List.getElem_cons_succ, List.setIfInBounds_toArray, List.set_cons_zero, List.set_cons_succ]
   refine wpAnyH_take (i := 3) (v := ?_) rfl (by kernel_rfl) (by kernel_rfl) (by kernel_rfl) (fun _ _ _ h => h) (Or.inl ⟨by rfl, ?_⟩) (by assumption) ?_
   rotate_left
   · (intro w hSw; (try dsimp only at hSw); go_simp; (try with_reducible rfl))
   try simp only [Act.put, List.getElem_toArray, List.getElem_cons_zero, List.getElem_cons_succ, List.setIfInBounds_toArray, List.set_cons_zero, List.set_cons_succ]
   refine wpAnyH_take (i := 4) (v := ?_) rfl (by kernel_rfl) (by kernel_rfl) (by kernel_rfl) (fun _ _ _ h => h) (Or.inl ⟨by rfl, ?_⟩) (by assumption) ?_
   rotate_left
   · (intro w hSw; (try dsimp only at hSw); go_simp; (try with_reducible rfl))
   try simp only [Act.put, List.getElem_toArray, List.getElem_cons_zero, List.getElem_cons_succ, List.setIfInBounds_toArray, List.set_cons_zero, List.set_cons_succ]
   refine wpAnyH_ready (rs := [2, 6, 7]) (by kernel_rfl) (by simp) ?_
   refine AllReadyH.cons rfl (fun KQ hKQ => ?_) (AllReadyH.cons rfl (fun KQ hKQ => ?_) (AllReadyH.cons rfl (fun KQ hKQ => ?_) AllReadyH.nil))
   focus
    go_simp
    go_at_call 24
    refine (Big_any tw1 _ x.natAbs K na (by omega) Hla.out).mono ?_
    rintro e tw2 ⟨_, rfl, ⟨sc, xc, bc, rfl, hc, vc, tc⟩, gtw2⟩
    have ic : IntV tw2 (.agg #[.slice sc xc.length xc.length, .bool bc]) ((x.natAbs : Int)) := ⟨sc, xc, bc, rfl, hc, vc, tc⟩
    replace Ba := heap_kept gtw2 Ba
    replace Bb := heap_kept gtw2 Bb
    replace na := na.kept gtw2
    replace nb := nb.kept gtw2
    replace hG := grown_trans hG gtw2
    replace hT := grown_trans hT gtw2
    clear gtw2
    clear hc vc tc
    (try go_wp2_with fail)
    refine hKQ.out _ _ (by exact ⟨(box_cells Ba).1, (box_cells Ba).2.1, (box_cells Bb).1, (box_cells Bb).2.1⟩) (fun hHeld => ?_)
    clear hKQ KQ
    try simp only [Act.put, List.getElem_toArray, List.getElem_cons_zero, List.getElem_cons_succ, List.setIfInBounds_toArray, List.set_cons_zero, List.set_cons_succ]
    refine wpAnyH_ready (rs := [5, 6, 7]) (by kernel_rfl) (by simp) ?_
    refine AllReadyH.cons rfl (fun KQ hKQ => ?_) (AllReadyH.cons rfl (fun KQ hKQ => ?_) (AllReadyH.cons rfl (fun KQ hKQ => ?_) AllReadyH.nil))
    focus
     go_simp
     go_at_call 24
     refine (Big_any tw2 _ y.natAbs K nb (by omega) Hlb.out).mono ?_
     rintro e tw3 ⟨_, rfl, ⟨sd, xd, bd, rfl, hd, vd, td⟩, gtw3⟩
     have id : IntV tw3 (.agg #[.slice sd xd.length xd.length, .bool bd]) ((y.natAbs : Int)) := ⟨sd, xd, bd, rfl, hd, vd, td⟩
     replace Ba := heap_kept gtw3 Ba
     replace Bb := heap_kept gtw3 Bb
     replace na := na.kept gtw3
     replace nb := nb.kept gtw3
     replace ic := ic.kept gtw3
     replace hG := grown_trans hG gtw3
     replace hT := grown_trans hT gtw3
     clear gtw3
     clear hd vd td
     (try go_wp2_with fail)
     refine hKQ.out _ _ (by exact ⟨(box_cells Ba).1, (box_cells Ba).2.1, (box_cells Bb).1, (box_cells Bb).2.1⟩) (fun hHeld => ?_)
     clear hKQ KQ
     try simp only [Act.put, List.getElem_toArray, List.getElem_cons_zero, List.getElem_cons_succ, List.setIfInBounds_toArray, List.set_cons_zero, List.set_cons_succ]
     refine wpAnyH_ready (rs := [6, 7]) (by kernel_rfl) (by simp) ?_
     refine AllReadyH.cons rfl (fun KQ hKQ => ?_) (AllReadyH.cons rfl (fun KQ hKQ => ?_) AllReadyH.nil)
     focus
      have gA := World.grownBy_alloc tw3 (.cells #[.slice none 0 0, .bool false] 26) none
      have lohGg : w.heap.size ≤ tw3.heap.size := hG.size
      have lohTg : w0.heap.size ≤ tw3.heap.size := hT.size
      have ltag : w.heap.size < tw3.heap.size := heap_lt Ba
      have ltbg : w.heap.size + 1 < tw3.heap.size := heap_lt Bb
      have Bg_ := heap_new tw3 (.cells #[.slice none 0 0, .bool false] 26) tw3.heap.size rfl
      replace Ba := heap_kept gA Ba
      replace Bb := heap_kept gA Bb
      replace na := na.kept gA
      replace nb := nb.kept gA
      replace ic := ic.kept gA
      replace id := id.kept gA
      replace hG := grown_trans hG gA
      replace hT := grown_trans hT gA
      clear gA
      go_simp
      generalize (tw3.alloc (.cells #[.slice none 0 0, .bool false] 26)) = tw4 at *
      generalize tw3.heap.size = pg at *
      have Bg := Bg_
      clear Bg_
      refine hKQ.out _ _ (by exact ⟨(box_cells Ba).1, (box_cells Ba).2.1, (box_cells Bb).1, (box_cells Bb).2.1⟩) (fun hHeld => ?_)
      clear hKQ KQ
      try simp only [Act.put, List.getElem_toArray, List.getElem_cons_zero, List.getElem_cons_succ, List.setIfInBounds_toArray, List.set_cons_zero, List.set_cons_succ]
      refine wpAnyH_ready (rs := [7]) (by kernel_rfl) (by simp) ?_
      refine AllReadyH.cons rfl (fun KQ hKQ => ?_) AllReadyH.nil
      have gA := World.grownBy_alloc tw4 (.cells #[.slice none 0 0, .bool false] 26) none
      have lohGh : w.heap.size ≤ tw4.heap.size := hG.size
      have lohTh : w0.heap.size ≤ tw4.heap.size := hT.size
      have ltah : w.heap.size < tw4.heap.size := heap_lt Ba
      have ltbh : w.heap.size + 1 < tw4.heap.size := heap_lt Bb
      have ltgh : pg < tw4.heap.size := heap_lt Bg
      have Bh_ := heap_new tw4 (.cells #[.slice none 0 0, .bool false] 26) tw4.heap.size rfl
      replace Ba := heap_kept gA Ba
      replace Bb := heap_kept gA Bb
      replace Bg := heap_kept gA Bg
      replace na := na.kept gA
      replace nb := nb.kept gA
      replace ic := ic.kept gA
      replace id := id.kept gA
      replace hG := grown_trans hG gA
      replace hT := grown_trans hT gA
      clear gA
      go_simp
      generalize (tw4.alloc (.cells #[.slice none 0 0, .bool false] 26)) = tw5 at *
      generalize tw4.heap.size = ph at *
      have Bh := Bh_
      clear Bh_
      refine hKQ.out _ _ (by exact ⟨(box_cells Ba).1, (box_cells Ba).2.1, (box_cells Bb).1, (box_cells Bb).2.1⟩) (fun hHeld => ?_)
      clear hKQ KQ
      try simp only [Act.put, List.getElem_toArray, List.getElem_cons_zero, List.getElem_cons_succ, List.setIfInBounds_toArray, List.set_cons_zero, List.set_cons_succ]
     rotate_left 1
     focus
      have gA := World.grownBy_alloc tw3 (.cells #[.slice none 0 0, .bool false] 26) none
      have lohGh : w.heap.size ≤ tw3.heap.size := hG.size
      have lohTh : w0.heap.size ≤ tw3.heap.size := hT.size
      have ltah : w.heap.size < tw3.heap.size := heap_lt Ba
      have ltbh : w.heap.size + 1 < tw3.heap.size := heap_lt Bb
      have Bh_ := heap_new tw3 (.cells #[.slice none 0 0, .bool false] 26) tw3.heap.size rfl
      replace Ba := heap_kept gA Ba
      replace Bb := heap_kept gA Bb
      replace na := na.kept gA
      replace nb := nb.kept gA
      replace ic := ic.kept gA
      replace id := id.kept gA
      replace hG := grown_trans hG gA
      replace hT := grown_trans hT gA
      clear gA
      go_simp
      generalize (tw3.alloc (.cells #[.slice none 0 0, .bool false] 26)) = tw4 at *
      generalize tw3.heap.size = ph at *
      have Bh := Bh_
      clear Bh_
      refine hKQ.out _ _ (by exact ⟨(box_cells Ba).1, (box_cells Ba).2.1, (box_cells Bb).1, (box_cells Bb).2.1⟩) (fun hHeld => ?_)
      clear hKQ KQ
      try simp only [Act.put, List.getElem_toArray, List.getElem_cons_zero, List.getElem_cons_succ, List.setIfInBounds_toArray, List.set_cons_zero, List.set_cons_succ]
      refine wpAnyH_ready (rs := [6]) (by kernel_rfl) (by simp) ?_
      refine AllReadyH.cons rfl (fun KQ hKQ => ?_) AllReadyH.nil
      have gA := World.grownBy_alloc tw4 (.cells #[.slice none 0 0, .bool false] 26) none
      have lohGg : w.heap.size ≤ tw4.heap.size := hG.size
      have lohTg : w0.heap.size ≤ tw4.heap.size := hT.size
      have ltag : w.heap.size < tw4.heap.size := heap_lt Ba
      have ltbg : w.heap.size + 1 < tw4.heap.size := heap_lt Bb
      have lthg : ph < tw4.heap.size := heap_lt Bh
      have Bg_ := heap_new tw4 (.cells #[.slice none 0 0, .bool false] 26) tw4.heap.size rfl
      replace Ba := heap_kept gA Ba
      replace Bb := heap_kept gA Bb
      replace Bh := heap_kept gA Bh
      replace na := na.kept gA
      replace nb := nb.kept gA
      replace ic := ic.kept gA
      replace id := id.kept gA
      replace hG := grown_trans hG gA
      replace hT := grown_trans hT gA
      clear gA
      go_simp
      generalize (tw4.alloc (.cells #[.slice none 0 0, .bool false] 26)) = tw5 at *
      generalize tw4.heap.size = pg at *
      have Bg := Bg_
      clear Bg_
      refine hKQ.out _ _ (by exact ⟨(box_cells Ba).1, (box_cells Ba).2.1, (box_cells Bb).1, (box_cells Bb).2.1⟩) (fun hHeld => ?_)
      clear hKQ KQ
      try simp only [Act.put, List.getElem_toArray, List.getElem_cons_zero, List.getElem_cons_succ, List.setIfInBounds_toArray, List.set_cons_zero, List.set_cons_succ]
     rotate_left 1
    rotate_left 2
    focus
     have gA := World.grownBy_alloc tw2 (.cells #[.slice none 0 0, .bool false] 26) none
     have lohGg : w.heap.size ≤ tw2.heap.size := hG.size
     have lohTg : w0.heap.size ≤ tw2.heap.size := hT.size
     have ltag : w.heap.size < tw2.heap.size := heap_lt Ba
     have ltbg : w.heap.size + 1 < tw2.heap.size := heap_lt Bb
     have Bg_ := heap_new tw2 (.cells #[.slice none 0 0, .bool false] 26) tw2.heap.size rfl
     replace Ba := heap_kept gA Ba
     replace Bb := heap_kept gA Bb
     replace na := na.kept gA
     replace nb := nb.kept gA
     replace ic := ic.kept gA
     replace hG := grown_trans hG gA
     replace hT := grown_trans hT gA
     clear gA
     go_simp
     generalize (tw2.alloc (.cells #[.slice none 0 0, .bool false] 26)) = tw3 at *
     generalize tw2.heap.size = pg at *
     have Bg := Bg_
     clear Bg_
     refine hKQ.out _ _ (by exact ⟨(box_cells Ba).1, (box_cells Ba).2.1, (box_cells Bb).1, (box_cells Bb).2.1⟩) (fun hHeld => ?_)
     clear hKQ KQ
     try simp only [Act.put, List.getElem_toArray, List.getElem_cons_zero, List.getElem_cons_succ, List.setIfInBounds_toArray, List.set_cons_zero, List.set_cons_succ]
     refine wpAnyH_ready (rs := [5, 7]) (by kernel_rfl) (by simp) ?_
     refine AllReadyH.cons rfl (fun KQ hKQ => ?_) (AllReadyH.cons rfl (fun KQ hKQ => ?_) AllReadyH.nil)
     focus
      go_simp
      go_at_call 24
      refine (Big_any tw3 _ y.natAbs K nb (by omega) Hlb.out).mono ?_
      rintro e tw4 ⟨_, rfl, ⟨sd, xd, bd, rfl, hd, vd, td⟩, gtw4⟩
      have id : IntV tw4 (.agg #[.slice sd xd.length xd.length, .bool bd]) ((y.natAbs : Int)) := ⟨sd, xd, bd, rfl, hd, vd, td⟩
      replace Ba := heap_kept gtw4 Ba
      replace Bb := heap_kept gtw4 Bb
      replace Bg := heap_kept gtw4 Bg
      replace na := na.kept gtw4
      replace nb := nb.kept gtw4
      replace ic := ic.kept gtw4
      replace hG := grown_trans hG gtw4
      replace hT := grown_trans hT gtw4
      clear gtw4
      clear hd vd td
      (try go_wp2_with fail)
      refine hKQ.out _ _ (by exact ⟨(box_cells Ba).1, (box_cells Ba).2.1, (box_cells Bb).1, (box_cells Bb).2.1⟩) (fun hHeld => ?_)
      clear hKQ KQ
      try simp only [Act.put, List.getElem_toArray, List.getElem_cons_zero, List.getElem_cons_succ, List.setIfInBounds_toArray, List.set_cons_zero, List.set_cons_succ]
      refine wpAnyH_ready (rs := [7]) (by kernel_rfl) (by simp) ?_
      refine AllReadyH.cons rfl (fun KQ hKQ => ?_) AllReadyH.nil
      have gA := World.grownBy_alloc tw4 (.cells #[.slice none 0 0, .bool false] 26) none
      have lohGh : w.heap.size ≤ tw4.heap.size := hG.size
      have lohTh : w0.heap.size ≤ tw4.heap.size := hT.size
      have ltah : w.heap.size < tw4.heap.size := heap_lt Ba
      have ltbh : w.heap.size + 1 < tw4.heap.size := heap_lt Bb
      have ltgh : pg < tw4.heap.size := heap_lt Bg
      have Bh_ := heap_new tw4 (.cells #[.slice none 0 0, .bool false] 26) tw4.heap.size rfl
      replace Ba := heap_kept gA Ba
      replace Bb := heap_kept gA Bb
      replace Bg := heap_kept gA Bg
      replace na := na.kept gA
      replace nb := nb.kept gA
      replace ic := ic.kept gA
      replace id := id.kept gA
      replace hG := grown_trans hG gA
      replace hT := grown_trans hT gA
      clear gA
      go_simp
      generalize (tw4.alloc (.cells #[.slice none 0 0, .bool false] 26)) = tw5 at *
      generalize tw4.heap.size = ph at *
      have Bh := Bh_
      clear Bh_
      refine hKQ.out _ _ (by exact ⟨(box_cells Ba).1, (box_cells Ba).2.1, (box_cells Bb).1, (box_cells Bb).2.1⟩) (fun hHeld => ?_)
      clear hKQ KQ
      try simp only [Act.put, List.getElem_toArray, List.getElem_cons_zero, List.getElem_cons_succ, List.setIfInBounds_toArray, List.set_cons_zero, List.set_cons_succ]
     rotate_left 1
     focus
      have gA := World.grownBy_alloc tw3 (.cells #[.slice none 0 0, .bool false] 26) none
      have lohGh : w.heap.size ≤ tw3.heap.size := hG.size
      have lohTh : w0.heap.size ≤ tw3.heap.size := hT.size
      have ltah : w.heap.size < tw3.heap.size := heap_lt Ba
      have ltbh : w.heap.size + 1 < tw3.heap.size := heap_lt Bb
      have ltgh : pg < tw3.heap.size := heap_lt Bg
      have Bh_ := heap_new tw3 (.cells #[.slice none 0 0, .bool false] 26) tw3.heap.size rfl
      replace Ba := heap_kept gA Ba
      replace Bb := heap_kept gA Bb
      replace Bg := heap_kept gA Bg
      replace na := na.kept gA
      replace nb := nb.kept gA
      replace ic := ic.kept gA
      replace hG := grown_trans hG gA
      replace hT := grown_trans hT gA
      clear gA
      go_simp
      generalize (tw3.alloc (.cells #[.slice none 0 0, .bool false] 26)) = tw4 at *
      generalize tw3.heap.size = ph at *
      have Bh := Bh_
      clear Bh_
      refine hKQ.out _ _ (by exact ⟨(box_cells Ba).1, (box_cells Ba).2.1, (box_cells Bb).1, (box_cells Bb).2.1⟩) (fun hHeld => ?_)
      clear hKQ KQ
      try simp only [Act.put, List.getElem_toArray, List.getElem_cons_zero, List.getElem_cons_succ, List.setIfInBounds_toArray, List.set_cons_zero, List.set_cons_succ]
      refine wpAnyH_ready (rs := [5]) (by kernel_rfl) (by simp) ?_
      refine AllReadyH.cons rfl (fun KQ hKQ => ?_) AllReadyH.nil
      go_simp
      go_at_call 24
      refine (Big_any tw4 _ y.natAbs K nb (by omega) Hlb.out).mono ?_
      rintro e tw5 ⟨_, rfl, ⟨sd, xd, bd, rfl, hd, vd, td⟩, gtw5⟩
      have id : IntV tw5 (.agg #[.slice sd xd.length xd.length, .bool bd]) ((y.natAbs : Int)) := ⟨sd, xd, bd, rfl, hd, vd, td⟩
      replace Ba := heap_kept gtw5 Ba
      replace Bb := heap_kept gtw5 Bb
      replace Bg := heap_kept gtw5 Bg
      replace Bh := heap_kept gtw5 Bh
      replace na := na.kept gtw5
      replace nb := nb.kept gtw5
      replace ic := ic.kept gtw5
      replace hG := grown_trans hG gtw5
      replace hT := grown_trans hT gtw5
      clear gtw5
      clear hd vd td
      (try go_wp2_with fail)
      refine hKQ.out _ _ (by exact ⟨(box_cells Ba).1, (box_cells Ba).2.1, (box_cells Bb).1, (box_cells Bb).2.1⟩) (fun hHeld => ?_)
      clear hKQ KQ
      try simp only [Act.put, List.getElem_toArray, List.getElem_cons_zero, List.getElem_cons_succ, List.setIfInBounds_toArray, List.set_cons_zero, List.set_cons_succ]
     rotate_left 1
    rotate_left 2
    focus
     have gA := World.grownBy_alloc tw2 (.cells #[.slice none 0 0, .bool false] 26) none
     have lohGh : w.heap.size ≤ tw2.heap.size := hG.size
     have lohTh : w0.heap.size ≤ tw2.heap.size := hT.size
     have ltah : w.heap.size < tw2.heap.size := heap_lt Ba
     have ltbh : w.heap.size + 1 < tw2.heap.size := heap_lt Bb
     have Bh_ := heap_new tw2 (.cells #[.slice none 0 0, .bool false] 26) tw2.heap.size rfl
     replace Ba := heap_kept gA Ba
     replace Bb := heap_kept gA Bb
     replace na := na.kept gA
     replace nb := nb.kept gA
     replace ic := ic.kept gA
     replace hG := grown_trans hG gA
     replace hT := grown_trans hT gA
     clear gA
     go_simp
     generalize (tw2.alloc (.cells #[.slice none 0 0, .bool false] 26)) = tw3 at *
     generalize tw2.heap.size = ph at *
     have Bh := Bh_
     clear Bh_
     refine hKQ.out _ _ (by exact ⟨(box_cells Ba).1, (box_cells Ba).2.1, (box_cells Bb).1, (box_cells Bb).2.1⟩) (fun hHeld => ?_)
     clear hKQ KQ
     try simp only [Act.put, List.getElem_toArray, List.getElem_cons_zero, List.getElem_cons_succ, List.setIfInBounds_toArray, List.set_cons_zero, List.set_cons_succ]
     refine wpAnyH_ready (rs := [5, 6]) (by kernel_rfl) (by simp) ?_
     refine AllReadyH.cons rfl (fun KQ hKQ => ?_) (AllReadyH.cons rfl (fun KQ hKQ => ?_) AllReadyH.nil)
     focus
      go_simp
      go_at_call 24
      refine (Big_any tw3 _ y.natAbs K nb (by omega) Hlb.out).mono ?_
      rintro e tw4 ⟨_, rfl, ⟨sd, xd, bd, rfl, hd, vd, td⟩, gtw4⟩
      have id : IntV tw4 (.agg #[.slice sd xd.length xd.length, .bool bd]) ((y.natAbs : Int)) := ⟨sd, xd, bd, rfl, hd, vd, td⟩
      replace Ba := heap_kept gtw4 Ba
      replace Bb := heap_kept gtw4 Bb
      replace Bh := heap_kept gtw4 Bh
      replace na := na.kept gtw4
      replace nb := nb.kept gtw4
      replace ic := ic.kept gtw4
      replace hG := grown_trans hG gtw4
      replace hT := grown_trans hT gtw4
      clear gtw4
      clear hd vd td
      (try go_wp2_with fail)
      refine hKQ.out _ _ (by exact ⟨(box_cells Ba).1, (box_cells Ba).2.1, (box_cells Bb).1, (box_cells Bb).2.1⟩) (fun hHeld => ?_)
      clear hKQ KQ
      try simp only [Act.put, List.getElem_toArray, List.getElem_cons_zero, List.getElem_cons_succ, List.setIfInBounds_toArray, List.set_cons_zero, List.set_cons_succ]
      refine wpAnyH_ready (rs := [6]) (by kernel_rfl) (by simp) ?_
      refine AllReadyH.cons rfl (fun KQ hKQ => ?_) AllReadyH.nil
      have gA := World.grownBy_alloc tw4 (.cells #[.slice none 0 0, .bool false] 26) none
      have lohGg : w.heap.size ≤ tw4.heap.size := hG.size
      have lohTg : w0.heap.size ≤ tw4.heap.size := hT.size
      have ltag : w.heap.size < tw4.heap.size := heap_lt Ba
      have ltbg : w.heap.size + 1 < tw4.heap.size := heap_lt Bb
      have lthg : ph < tw4.heap.size := heap_lt Bh
      have Bg_ := heap_new tw4 (.cells #[.slice none 0 0, .bool false] 26) tw4.heap.size rfl
      replace Ba := heap_kept gA Ba
      replace Bb := heap_kept gA Bb
      replace Bh := heap_kept gA Bh
      replace na := na.kept gA
      replace nb := nb.kept gA
      replace ic := ic.kept gA
      replace id := id.kept gA
      replace hG := grown_trans hG gA
      replace hT := grown_trans hT gA
      clear gA
      go_simp
      generalize (tw4.alloc (.cells #[.slice none 0 0, .bool false] 26)) = tw5 at *
      generalize tw4.heap.size = pg at *
      have Bg := Bg_
      clear Bg_
      refine hKQ.out _ _ (by exact ⟨(box_cells Ba).1, (box_cells Ba).2.1, (box_cells Bb).1, (box_cells Bb).2.1⟩) (fun hHeld => ?_)
      clear hKQ KQ
      try simp only [Act.put, List.getElem_toArray, List.getElem_cons_zero, List.getElem_cons_succ, List.setIfInBounds_toArray, List.set_cons_zero, List.set_cons_succ]
     rotate_left 1
     focus
      have gA := World.grownBy_alloc tw3 (.cells #[.slice none 0 0, .bool false] 26) none
      have lohGg : w.heap.size ≤ tw3.heap.size := hG.size
      have lohTg : w0.heap.size ≤ tw3.heap.size := hT.size
      have ltag : w.heap.size < tw3.heap.size := heap_lt Ba
      have ltbg : w.heap.size + 1 < tw3.heap.size := heap_lt Bb
      have lthg : ph < tw3.heap.size := heap_lt Bh
      have Bg_ := heap_new tw3 (.cells #[.slice none 0 0, .bool false] 26) tw3.heap.size rfl
      replace Ba := heap_kept gA Ba
      replace Bb := heap_kept gA Bb
      replace Bh := heap_kept gA Bh
      replace na := na.kept gA
      replace nb := nb.kept gA
      replace ic := ic.kept gA
      replace hG := grown_trans hG gA
      replace hT := grown_trans hT gA
      clear gA
      go_simp
      generalize (tw3.alloc (.cells #[.slice none 0 0, .bool false] 26)) = tw4 at *
      generalize tw3.heap.size = pg at *
      have Bg := Bg_
      clear Bg_
      refine hKQ.out _ _ (by exact ⟨(box_cells Ba).1, (box_cells Ba).2.1, (box_cells Bb).1, (box_cells Bb).2.1⟩) (fun hHeld => ?_)
      clear hKQ KQ
      try simp only [Act.put, List.getElem_toArray, List.getElem_cons_zero, List.getElem_cons_succ, List.setIfInBounds_toArray, List.set_cons_zero, List.set_cons_succ]
      refine wpAnyH_ready (rs := [5]) (by kernel_rfl) (by simp) ?_
      refine AllReadyH.cons rfl (fun KQ hKQ => ?_) AllReadyH.nil
      go_simp
      go_at_call 24
      refine (Big_any tw4 _ y.natAbs K nb (by omega) Hlb.out).mono ?_
      rintro e tw5 ⟨_, rfl, ⟨sd, xd, bd, rfl, hd, vd, td⟩, gtw5⟩
      have id : IntV tw5 (.agg #[.slice sd xd.length xd.length, .bool bd]) ((y.natAbs : Int)) := ⟨sd, xd, bd, rfl, hd, vd, td⟩
      replace Ba := heap_kept gtw5 Ba
      replace Bb := heap_kept gtw5 Bb
      replace Bh := heap_kept gtw5 Bh
      replace Bg := heap_kept gtw5 Bg
      replace na := na.kept gtw5
      replace nb := nb.kept gtw5
      replace ic := ic.kept gtw5
      replace hG := grown_trans hG gtw5
      replace hT := grown_trans hT gtw5
      clear gtw5
      clear hd vd td
      (try go_wp2_with fail)
      refine hKQ.out _ _ (by exact ⟨(box_cells Ba).1, (box_cells Ba).2.1, (box_cells Bb).1, (box_cells Bb).2.1⟩) (fun hHeld => ?_)
      clear hKQ KQ
      try simp only [Act.put, List.getElem_toArray, List.getElem_cons_zero, List.getElem_cons_succ, List.setIfInBounds_toArray, List.set_cons_zero, List.set_cons_succ]
     rotate_left 1
    rotate_left 2
   rotate_left 6
   focus
    have gA := World.grownBy_alloc tw1 (.cells #[.slice none 0 0, .bool false] 26) none
    have lohGg : w.heap.size ≤ tw1.heap.size := hG.size
    have lohTg : w0.heap.size ≤ tw1.heap.size := hT.size
    have ltag : w.heap.size < tw1.heap.size := heap_lt Ba
    have ltbg : w.heap.size + 1 < tw1.heap.size := heap_lt Bb
    have Bg_ := heap_new tw1 (.cells #[.slice none 0 0, .bool false] 26) tw1.heap.size rfl
    replace Ba := heap_kept gA Ba
    replace Bb := heap_kept gA Bb
    replace na := na.kept gA
    replace nb := nb.kept gA
    replace hG := grown_trans hG gA
    replace hT := grown_trans hT gA
    clear gA
    go_simp
    generalize (tw1.alloc (.cells #[.slice none 0 0, .bool false] 26)) = tw2 at *
    generalize tw1.heap.size = pg at *
    have Bg := Bg_
    clear Bg_
    refine hKQ.out _ _ (by exact ⟨(box_cells Ba).1, (box_cells Ba).2.1, (box_cells Bb).1, (box_cells Bb).2.1⟩) (fun hHeld => ?_)
    clear hKQ KQ
    try simp only [Act.put, List.getElem_toArray, List.getElem_cons_zero, List.getElem_cons_succ, List.setIfInBounds_toArray, List.set_cons_zero, List.set_cons_succ]
    refine wpAnyH_ready (rs := [2, 7]) (by kernel_rfl) (by simp) ?_
    refine AllReadyH.cons rfl (fun KQ hKQ => ?_) (AllReadyH.cons rfl (fun KQ hKQ => ?_) AllReadyH.nil)
    focus
     go_simp
     go_at_call 24
     refine (Big_any tw2 _ x.natAbs K na (by omega) Hla.out).mono ?_
     rintro e tw3 ⟨_, rfl, ⟨sc, xc, bc, rfl, hc, vc, tc⟩, gtw3⟩
     have ic : IntV tw3 (.agg #[.slice sc xc.length xc.length, .bool bc]) ((x.natAbs : Int)) := ⟨sc, xc, bc, rfl, hc, vc, tc⟩
     replace Ba := heap_kept gtw3 Ba
     replace Bb := heap_kept gtw3 Bb
     replace Bg := heap_kept gtw3 Bg
     replace na := na.kept gtw3
     replace nb := nb.kept gtw3
     replace hG := grown_trans hG gtw3
     replace hT := grown_trans hT gtw3
     clear gtw3
     clear hc vc tc
     (try go_wp2_with fail)
     refine hKQ.out _ _ (by exact ⟨(box_cells Ba).1, (box_cells Ba).2.1, (box_cells Bb).1, (box_cells Bb).2.1⟩) (fun hHeld => ?_)
     clear hKQ KQ
     try simp only [Act.put, List.getElem_toArray, List.getElem_cons_zero, List.getElem_cons_succ, List.setIfInBounds_toArray, List.set_cons_zero, List.set_cons_succ]
     refine wpAnyH_ready (rs := [5, 7]) (by kernel_rfl) (by simp) ?_
     refine AllReadyH.cons rfl (fun KQ hKQ => ?_) (AllReadyH.cons rfl (fun KQ hKQ => ?_) AllReadyH.nil)
     focus
      go_simp
      go_at_call 24
      refine (Big_any tw3 _ y.natAbs K nb (by omega) Hlb.out).mono ?_
      rintro e tw4 ⟨_, rfl, ⟨sd, xd, bd, rfl, hd, vd, td⟩, gtw4⟩
      have id : IntV tw4 (.agg #[.slice sd xd.length xd.length, .bool bd]) ((y.natAbs : Int)) := ⟨sd, xd, bd, rfl, hd, vd, td⟩
      replace Ba := heap_kept gtw4 Ba
      replace Bb := heap_kept gtw4 Bb
      replace Bg := heap_kept gtw4 Bg
      replace na := na.kept gtw4
      replace nb := nb.kept gtw4
      replace ic := ic.kept gtw4
      replace hG := grown_trans hG gtw4
      replace hT := grown_trans hT gtw4
      clear gtw4
      clear hd vd td
      (try go_wp2_with fail)
      refine hKQ.out _ _ (by exact ⟨(box_cells Ba).1, (box_cells Ba).2.1, (box_cells Bb).1, (box_cells Bb).2.1⟩) (fun hHeld => ?_)
      clear hKQ KQ
      try simp only [Act.put, List.getElem_toArray, List.getElem_cons_zero, List.getElem_cons_succ, List.setIfInBounds_toArray, List.set_cons_zero, List.set_cons_succ]
      refine wpAnyH_ready (rs := [7]) (by kernel_rfl) (by simp) ?_
      refine AllReadyH.cons rfl (fun KQ hKQ => ?_) AllReadyH.nil
      have gA := World.grownBy_alloc tw4 (.cells #[.slice none 0 0, .bool false] 26) none
      have lohGh : w.heap.size ≤ tw4.heap.size := hG.size
      have lohTh : w0.heap.size ≤ tw4.heap.size := hT.size
      have ltah : w.heap.size < tw4.heap.size := heap_lt Ba
      have ltbh : w.heap.size + 1 < tw4.heap.size := heap_lt Bb
      have ltgh : pg < tw4.heap.size := heap_lt Bg
      have Bh_ := heap_new tw4 (.cells #[.slice none 0 0, .bool false] 26) tw4.heap.size rfl
      replace Ba := heap_kept gA Ba
      replace Bb := heap_kept gA Bb
      replace Bg := heap_kept gA Bg
      replace na := na.kept gA
      replace nb := nb.kept gA
      replace ic := ic.kept gA
      replace id := id.kept gA
      replace hG := grown_trans hG gA
      replace hT := grown_trans hT gA
      clear gA
      go_simp
      generalize (tw4.alloc (.cells #[.slice none 0 0, .bool false] 26)) = tw5 at *
      generalize tw4.heap.size = ph at *
      have Bh := Bh_
      clear Bh_
      refine hKQ.out _ _ (by exact ⟨(box_cells Ba).1, (box_cells Ba).2.1, (box_cells Bb).1, (box_cells Bb).2.1⟩) (fun hHeld => ?_)
      clear hKQ KQ
      try simp only [Act.put, List.getElem_toArray, List.getElem_cons_zero, List.getElem_cons_succ, List.setIfInBounds_toArray, List.set_cons_zero, List.set_cons_succ]
     rotate_left 1
     focus
      have gA := World.grownBy_alloc tw3 (.cells #[.slice none 0 0, .bool false] 26) none
      have lohGh : w.heap.size ≤ tw3.heap.size := hG.size
      have lohTh : w0.heap.size ≤ tw3.heap.size := hT.size
      have ltah : w.heap.size < tw3.heap.size := heap_lt Ba
      have ltbh : w.heap.size + 1 < tw3.heap.size := heap_lt Bb
      have ltgh : pg < tw3.heap.size := heap_lt Bg
      have Bh_ := heap_new tw3 (.cells #[.slice none 0 0, .bool false] 26) tw3.heap.size rfl
      replace Ba := heap_kept gA Ba
      replace Bb := heap_kept gA Bb
      replace Bg := heap_kept gA Bg
      replace na := na.kept gA
      replace nb := nb.kept gA
      replace ic := ic.kept gA
      replace hG := grown_trans hG gA
      replace hT := grown_trans hT gA
      clear gA
      go_simp
      generalize (tw3.alloc (.cells #[.slice none 0 0, .bool false] 26)) = tw4 at *
      generalize tw3.heap.size = ph at *
      have Bh := Bh_
      clear Bh_
      refine hKQ.out _ _ (by exact ⟨(box_cells Ba).1, (box_cells Ba).2.1, (box_cells Bb).1, (box_cells Bb).2.1⟩) (fun hHeld => ?_)
      clear hKQ KQ
      try simp only [Act.put, List.getElem_toArray, List.getElem_cons_zero, List.getElem_cons_succ, List.setIfInBounds_toArray, List.set_cons_zero, List.set_cons_succ]
      refine wpAnyH_ready (rs := [5]) (by kernel_rfl) (by simp) ?_
      refine AllReadyH.cons rfl (fun KQ hKQ => ?_) AllReadyH.nil
      go_simp
      go_at_call 24
      refine (Big_any tw4 _ y.natAbs K nb (by omega) Hlb.out).mono ?_
      rintro e tw5 ⟨_, rfl, ⟨sd, xd, bd, rfl, hd, vd, td⟩, gtw5⟩
      have id : IntV tw5 (.agg #[.slice sd xd.length xd.length, .bool bd]) ((y.natAbs : Int)) := ⟨sd, xd, bd, rfl, hd, vd, td⟩
      replace Ba := heap_kept gtw5 Ba
      replace Bb := heap_kept gtw5 Bb
      replace Bg := heap_kept gtw5 Bg
      replace Bh := heap_kept gtw5 Bh
      replace na := na.kept gtw5
      replace nb := nb.kept gtw5
      replace ic := ic.kept gtw5
      replace hG := grown_trans hG gtw5
      replace hT := grown_trans hT gtw5
      clear gtw5
      clear hd vd td
      (try go_wp2_with fail)
      refine hKQ.out _ _ (by exact ⟨(box_cells Ba).1, (box_cells Ba).2.1, (box_cells Bb).1, (box_cells Bb).2.1⟩) (fun hHeld => ?_)
      clear hKQ KQ
      try simp only [Act.put, List.getElem_toArray, List.getElem_cons_zero, List.getElem_cons_succ, List.setIfInBounds_toArray, List.set_cons_zero, List.set_cons_succ]
     rotate_left 1
    rotate_left 2
    focus
     have gA := World.grownBy_alloc tw2 (.cells #[.slice none 0 0, .bool false] 26) none
     have lohGh : w.heap.size ≤ tw2.heap.size := hG.size
     have lohTh : w0.heap.size ≤ tw2.heap.size := hT.size
     have ltah : w.heap.size < tw2.heap.size := heap_lt Ba
     have ltbh : w.heap.size + 1 < tw2.heap.size := heap_lt Bb
     have ltgh : pg < tw2.heap.size := heap_lt Bg
     have Bh_ := heap_new tw2 (.cells #[.slice none 0 0, .bool false] 26) tw2.heap.size rfl
     replace Ba := heap_kept gA Ba
     replace Bb := heap_kept gA Bb
     replace Bg := heap_kept gA Bg
     replace na := na.kept gA
     replace nb := nb.kept gA
     replace hG := grown_trans hG gA
     replace hT := grown_trans hT gA
     clear gA
     go_simp
     generalize (tw2.alloc (.cells #[.slice none 0 0, .bool false] 26)) = tw3 at *
     generalize tw2.heap.size = ph at *
     have Bh := Bh_
     clear Bh_
     refine hKQ.out _ _ (by exact ⟨(box_cells Ba).1, (box_cells Ba).2.1, (box_cells Bb).1, (box_cells Bb).2.1⟩) (fun hHeld => ?_)
     clear hKQ KQ
     try simp only [Act.put, List.getElem_toArray, List.getElem_cons_zero, List.getElem_cons_succ, List.setIfInBounds_toArray, List.set_cons_zero, List.set_cons_succ]
     refine wpAnyH_ready (rs := [2]) (by kernel_rfl) (by simp) ?_
     refine AllReadyH.cons rfl (fun KQ hKQ => ?_) AllReadyH.nil
     go_simp
     go_at_call 24
     refine (Big_any tw3 _ x.natAbs K na (by omega) Hla.out).mono ?_
     rintro e tw4 ⟨_, rfl, ⟨sc, xc, bc, rfl, hc, vc, tc⟩, gtw4⟩
     have ic : IntV tw4 (.agg #[.slice sc xc.length xc.length, .bool bc]) ((x.natAbs : Int)) := ⟨sc, xc, bc, rfl, hc, vc, tc⟩
     replace Ba := heap_kept gtw4 Ba
     replace Bb := heap_kept gtw4 Bb
     replace Bg := heap_kept gtw4 Bg
     replace Bh := heap_kept gtw4 Bh
     replace na := na.kept gtw4
     replace nb := nb.kept gtw4
     replace hG := grown_trans hG gtw4
     replace hT := grown_trans hT gtw4
     clear gtw4
     clear hc vc tc
     (try go_wp2_with fail)
     refine hKQ.out _ _ (by exact ⟨(box_cells Ba).1, (box_cells Ba).2.1, (box_cells Bb).1, (box_cells Bb).2.1⟩) (fun hHeld => ?_)
     clear hKQ KQ
     try simp only [Act.put, List.getElem_toArray, List.getElem_cons_zero, List.getElem_cons_succ, List.setIfInBounds_toArray, List.set_cons_zero, List.set_cons_succ]
     refine wpAnyH_ready (rs := [5]) (by kernel_rfl) (by simp) ?_
     refine AllReadyH.cons rfl (fun KQ hKQ => ?_) AllReadyH.nil
     go_simp
     go_at_call 24
     refine (Big_any tw4 _ y.natAbs K nb (by omega) Hlb.out).mono ?_
     rintro e tw5 ⟨_, rfl, ⟨sd, xd, bd, rfl, hd, vd, td⟩, gtw5⟩
     have id : IntV tw5 (.agg #[.slice sd xd.length xd.length, .bool bd]) ((y.natAbs : Int)) := ⟨sd, xd, bd, rfl, hd, vd, td⟩
     replace Ba := heap_kept gtw5 Ba
     replace Bb := heap_kept gtw5 Bb
     replace Bg := heap_kept gtw5 Bg
     replace Bh := heap_kept gtw5 Bh
     replace na := na.kept gtw5
     replace nb := nb.kept gtw5
     replace ic := ic.kept gtw5
     replace hG := grown_trans hG gtw5
     replace hT := grown_trans hT gtw5
     clear gtw5
     clear hd vd td
     (try go_wp2_with fail)
     refine hKQ.out _ _ (by exact ⟨(box_cells Ba).1, (box_cells Ba).2.1, (box_cells Bb).1, (box_cells Bb).2.1⟩) (fun hHeld => ?_)
     clear hKQ KQ
     try simp only [Act.put, List.getElem_toArray, List.getElem_cons_zero, List.getElem_cons_succ, List.setIfInBounds_toArray, List.set_cons_zero, List.set_cons_succ]
    rotate_left 1
   rotate_left 3
   focus
    have gA := World.grownBy_alloc tw1 (.cells #[.slice none 0 0, .bool false] 26) none
    have lohGh : w.heap.size ≤ tw1.heap.size := hG.size
    have lohTh : w0.heap.size ≤ tw1.heap.size := hT.size
    have ltah : w.heap.size < tw1.heap.size := heap_lt Ba
    have ltbh : w.heap.size + 1 < tw1.heap.size := heap_lt Bb
    have Bh_ := heap_new tw1 (.cells #[.slice none 0 0, .bool false] 26) tw1.heap.size rfl
    replace Ba := heap_kept gA Ba
    replace Bb := heap_kept gA Bb
    replace na := na.kept gA
    replace nb := nb.kept gA
    replace hG := grown_trans hG gA
    replace hT := grown_trans hT gA
    clear gA
    go_simp
    generalize (tw1.alloc (.cells #[.slice none 0 0, .bool false] 26)) = tw2 at *
    generalize tw1.heap.size = ph at *
    have Bh := Bh_
    clear Bh_
    refine hKQ.out _ _ (by exact ⟨(box_cells Ba).1, (box_cells Ba).2.1, (box_cells Bb).1, (box_cells Bb).2.1⟩) (fun hHeld => ?_)
    clear hKQ KQ
    try simp only [Act.put, List.getElem_toArray, List.getElem_cons_zero, List.getElem_cons_succ, List.setIfInBounds_toArray, List.set_cons_zero, List.set_cons_succ]
    refine wpAnyH_ready (rs := [2, 6]) (by kernel_rfl) (by simp) ?_
    refine AllReadyH.cons rfl (fun KQ hKQ => ?_) (AllReadyH.cons rfl (fun KQ hKQ => ?_) AllReadyH.nil)
    focus
     go_simp
     go_at_call 24
     refine (Big_any tw2 _ x.natAbs K na (by omega) Hla.out).mono ?_
     rintro e tw3 ⟨_, rfl, ⟨sc, xc, bc, rfl, hc, vc, tc⟩, gtw3⟩
     have ic : IntV tw3 (.agg #[.slice sc xc.length xc.length, .bool bc]) ((x.natAbs : Int)) := ⟨sc, xc, bc, rfl, hc, vc, tc⟩
     replace Ba := heap_kept gtw3 Ba
     replace Bb := heap_kept gtw3 Bb
     replace Bh := heap_kept gtw3 Bh
     replace na := na.kept gtw3
     replace nb := nb.kept gtw3
     replace hG := grown_trans hG gtw3
     replace hT := grown_trans hT gtw3
     clear gtw3
     clear hc vc tc
     (try go_wp2_with fail)
     refine hKQ.out _ _ (by exact ⟨(box_cells Ba).1, (box_cells Ba).2.1, (box_cells Bb).1, (box_cells Bb).2.1⟩) (fun hHeld => ?_)
     clear hKQ KQ
     try simp only [Act.put, List.getElem_toArray, List.getElem_cons_zero, List.getElem_cons_succ, List.setIfInBounds_toArray, List.set_cons_zero, List.set_cons_succ]
     refine wpAnyH_ready (rs := [5, 6]) (by kernel_rfl) (by simp) ?_
     refine AllReadyH.cons rfl (fun KQ hKQ => ?_) (AllReadyH.cons rfl (fun KQ hKQ => ?_) AllReadyH.nil)
     focus
      go_simp
      go_at_call 24
      refine (Big_any tw3 _ y.natAbs K nb (by omega) Hlb.out).mono ?_
      rintro e tw4 ⟨_, rfl, ⟨sd, xd, bd, rfl, hd, vd, td⟩, gtw4⟩
      have id : IntV tw4 (.agg #[.slice sd xd.length xd.length, .bool bd]) ((y.natAbs : Int)) := ⟨sd, xd, bd, rfl, hd, vd, td⟩
      replace Ba := heap_kept gtw4 Ba
      replace Bb := heap_kept gtw4 Bb
      replace Bh := heap_kept gtw4 Bh
      replace na := na.kept gtw4
      replace nb := nb.kept gtw4
      replace ic := ic.kept gtw4
      replace hG := grown_trans hG gtw4
      replace hT := grown_trans hT gtw4
      clear gtw4
      clear hd vd td
      (try go_wp2_with fail)
      refine hKQ.out _ _ (by exact ⟨(box_cells Ba).1, (box_cells Ba).2.1, (box_cells Bb).1, (box_cells Bb).2.1⟩) (fun hHeld => ?_)
      clear hKQ KQ
      try simp only [Act.put, List.getElem_toArray, List.getElem_cons_zero, List.getElem_cons_succ, List.setIfInBounds_toArray, List.set_cons_zero, List.set_cons_succ]
      refine wpAnyH_ready (rs := [6]) (by kernel_rfl) (by simp) ?_
      refine AllReadyH.cons rfl (fun KQ hKQ => ?_) AllReadyH.nil
      have gA := World.grownBy_alloc tw4 (.cells #[.slice none 0 0, .bool false] 26) none
      have lohGg : w.heap.size ≤ tw4.heap.size := hG.size
      have lohTg : w0.heap.size ≤ tw4.heap.size := hT.size
      have ltag : w.heap.size < tw4.heap.size := heap_lt Ba
      have ltbg : w.heap.size + 1 < tw4.heap.size := heap_lt Bb
      have lthg : ph < tw4.heap.size := heap_lt Bh
      have Bg_ := heap_new tw4 (.cells #[.slice none 0 0, .bool false] 26) tw4.heap.size rfl
      replace Ba := heap_kept gA Ba
      replace Bb := heap_kept gA Bb
      replace Bh := heap_kept gA Bh
      replace na := na.kept gA
      replace nb := nb.kept gA
      replace ic := ic.kept gA
      replace id := id.kept gA
      replace hG := grown_trans hG gA
      replace hT := grown_trans hT gA
      clear gA
      go_simp
      generalize (tw4.alloc (.cells #[.slice none 0 0, .bool false] 26)) = tw5 at *
      generalize tw4.heap.size = pg at *
      have Bg := Bg_
      clear Bg_
      refine hKQ.out _ _ (by exact ⟨(box_cells Ba).1, (box_cells Ba).2.1, (box_cells Bb).1, (box_cells Bb).2.1⟩) (fun hHeld => ?_)
      clear hKQ KQ
      try simp only [Act.put, List.getElem_toArray, List.getElem_cons_zero, List.getElem_cons_succ, List.setIfInBounds_toArray, List.set_cons_zero, List.set_cons_succ]
     rotate_left 1
     focus
      have gA := World.grownBy_alloc tw3 (.cells #[.slice none 0 0, .bool false] 26) none
      have lohGg : w.heap.size ≤ tw3.heap.size := hG.size
      have lohTg : w0.heap.size ≤ tw3.heap.size := hT.size
      have ltag : w.heap.size < tw3.heap.size := heap_lt Ba
      have ltbg : w.heap.size + 1 < tw3.heap.size := heap_lt Bb
      have lthg : ph < tw3.heap.size := heap_lt Bh
      have Bg_ := heap_new tw3 (.cells #[.slice none 0 0, .bool false] 26) tw3.heap.size rfl
      replace Ba := heap_kept gA Ba
      replace Bb := heap_kept gA Bb
      replace Bh := heap_kept gA Bh
      replace na := na.kept gA
      replace nb := nb.kept gA
      replace ic := ic.kept gA
      replace hG := grown_trans hG gA
      replace hT := grown_trans hT gA
      clear gA
      go_simp
      generalize (tw3.alloc (.cells #[.slice none 0 0, .bool false] 26)) = tw4 at *
      generalize tw3.heap.size = pg at *
      have Bg := Bg_
      clear Bg_
      refine hKQ.out _ _ (by exact ⟨(box_cells Ba).1, (box_cells Ba).2.1, (box_cells Bb).1, (box_cells Bb).2.1⟩) (fun hHeld => ?_)
      clear hKQ KQ
      try simp only [Act.put, List.getElem_toArray, List.getElem_cons_zero, List.getElem_cons_succ, List.setIfInBounds_toArray, List.set_cons_zero, List.set_cons_succ]
      refine wpAnyH_ready (rs := [5]) (by kernel_rfl) (by simp) ?_
      refine AllReadyH.cons rfl (fun KQ hKQ => ?_) AllReadyH.nil
      go_simp
      go_at_call 24
      refine (Big_any tw4 _ y.natAbs K nb (by omega) Hlb.out).mono ?_
      rintro e tw5 ⟨_, rfl, ⟨sd, xd, bd, rfl, hd, vd, td⟩, gtw5⟩
      have id : IntV tw5 (.agg #[.slice sd xd.length xd.length, .bool bd]) ((y.natAbs : Int)) := ⟨sd, xd, bd, rfl, hd, vd, td⟩
      replace Ba := heap_kept gtw5 Ba
      replace Bb := heap_kept gtw5 Bb
      replace Bh := heap_kept gtw5 Bh
      replace Bg := heap_kept gtw5 Bg
      replace na := na.kept gtw5
      replace nb := nb.kept gtw5
      replace ic := ic.kept gtw5
      replace hG := grown_trans hG gtw5
      replace hT := grown_trans hT gtw5
      clear gtw5
      clear hd vd td
      (try go_wp2_with fail)
      refine hKQ.out _ _ (by exact ⟨(box_cells Ba).1, (box_cells Ba).2.1, (box_cells Bb).1, (box_cells Bb).2.1⟩) (fun hHeld => ?_)
      clear hKQ KQ
      try simp only [Act.put, List.getElem_toArray, List.getElem_cons_zero, List.getElem_cons_succ, List.setIfInBounds_toArray, List.set_cons_zero, List.set_cons_succ]
     rotate_left 1
    rotate_left 2
    focus
     have gA := World.grownBy_alloc tw2 (.cells #[.slice none 0 0, .bool false] 26) none
     have lohGg : w.heap.size ≤ tw2.heap.size := hG.size
     have lohTg : w0.heap.size ≤ tw2.heap.size := hT.size
     have ltag : w.heap.size < tw2.heap.size := heap_lt Ba
     have ltbg : w.heap.size + 1 < tw2.heap.size := heap_lt Bb
     have lthg : ph < tw2.heap.size := heap_lt Bh
     have Bg_ := heap_new tw2 (.cells #[.slice none 0 0, .bool false] 26) tw2.heap.size rfl
     replace Ba := heap_kept gA Ba
     replace Bb := heap_kept gA Bb
     replace Bh := heap_kept gA Bh
     replace na := na.kept gA
     replace nb := nb.kept gA
     replace hG := grown_trans hG gA
     replace hT := grown_trans hT gA
     clear gA
     go_simp
     generalize (tw2.alloc (.cells #[.slice none 0 0, .bool false] 26)) = tw3 at *
     generalize tw2.heap.size = pg at *
     have Bg := Bg_
     clear Bg_
     refine hKQ.out _ _ (by exact ⟨(box_cells Ba).1, (box_cells Ba).2.1, (box_cells Bb).1, (box_cells Bb).2.1⟩) (fun hHeld => ?_)
     clear hKQ KQ
     try simp only [Act.put, List.getElem_toArray, List.getElem_cons_zero, List.getElem_cons_succ, List.setIfInBounds_toArray, List.set_cons_zero, List.set_cons_succ]
     refine wpAnyH_ready (rs := [2]) (by kernel_rfl) (by simp) ?_
     refine AllReadyH.cons rfl (fun KQ hKQ => ?_) AllReadyH.nil
     go_simp
     go_at_call 24
     refine (Big_any tw3 _ x.natAbs K na (by omega) Hla.out).mono ?_
     rintro e tw4 ⟨_, rfl, ⟨sc, xc, bc, rfl, hc, vc, tc⟩, gtw4⟩
     have ic : IntV tw4 (.agg #[.slice sc xc.length xc.length, .bool bc]) ((x.natAbs : Int)) := ⟨sc, xc, bc, rfl, hc, vc, tc⟩
     replace Ba := heap_kept gtw4 Ba
     replace Bb := heap_kept gtw4 Bb
     replace Bh := heap_kept gtw4 Bh
     replace Bg := heap_kept gtw4 Bg
     replace na := na.kept gtw4
     replace nb := nb.kept gtw4
     replace hG := grown_trans hG gtw4
     replace hT := grown_trans hT gtw4
     clear gtw4
     clear hc vc tc
     (try go_wp2_with fail)
     refine hKQ.out _ _ (by exact ⟨(box_cells Ba).1, (box_cells Ba).2.1, (box_cells Bb).1, (box_cells Bb).2.1⟩) (fun hHeld => ?_)
     clear hKQ KQ
     try simp only [Act.put, List.getElem_toArray, List.getElem_cons_zero, List.getElem_cons_succ, List.setIfInBounds_toArray, List.set_cons_zero, List.set_cons_succ]
     refine wpAnyH_ready (rs := [5]) (by kernel_rfl) (by simp) ?_
     refine AllReadyH.cons rfl (fun KQ hKQ => ?_) AllReadyH.nil
     go_simp
     go_at_call 24
     refine (Big_any tw4 _ y.natAbs K nb (by omega) Hlb.out).mono ?_
     rintro e tw5 ⟨_, rfl, ⟨sd, xd, bd, rfl, hd, vd, td⟩, gtw5⟩
     have id : IntV tw5 (.agg #[.slice sd xd.length xd.length, .bool bd]) ((y.natAbs : Int)) := ⟨sd, xd, bd, rfl, hd, vd, td⟩
     replace Ba := heap_kept gtw5 Ba
     replace Bb := heap_kept gtw5 Bb
     replace Bh := heap_kept gtw5 Bh
     replace Bg := heap_kept gtw5 Bg
     replace na := na.kept gtw5
     replace nb := nb.kept gtw5
     replace ic := ic.kept gtw5
     replace hG := grown_trans hG gtw5
     replace hT := grown_trans hT gtw5
     clear gtw5
     clear hd vd td
     (try go_wp2_with fail)
     refine hKQ.out _ _ (by exact ⟨(box_cells Ba).1, (box_cells Ba).2.1, (box_cells Bb).1, (box_cells Bb).2.1⟩) (fun hHeld => ?_)
     clear hKQ KQ
     try simp only [Act.put, List.getElem_toArray, List.getElem_cons_zero, List.getElem_cons_succ, List.setIfInBounds_toArray, List.set_cons_zero, List.set_cons_succ]
    rotate_left 1
   rotate_left 3
   all_goals (
    refine wpAnyH_ready (rs := [8]) (by kernel_rfl) (by simp) ?_
    refine AllReadyH.cons rfl (fun KQ hKQ => ?_) AllReadyH.nil
    obtain ⟨c0', c1', c2', c3'⟩ := box_cells Bg
    go_simp
    clear c0' c1' c2' c3'
    replace na := na.set2 Bg (.slice sc xc.length xc.length) (.bool bc)
    replace nb := nb.set2 Bg (.slice sc xc.length xc.length) (.bool bc)
    replace ic := ic.set2 Bg (.slice sc xc.length xc.length) (.bool bc)
    replace id := id.set2 Bg (.slice sc xc.length xc.length) (.bool bc)
    replace hG := grown_set2 (g := pg) hG (by omega) (.slice sc xc.length xc.length) (.bool bc)
    replace hT := grown_set2 (g := pg) hT (by omega) (.slice sc xc.length xc.length) (.bool bc)
    replace Ba := heap_unset2 Ba (show w.heap.size ≠ pg by omega) (.slice sc xc.length xc.length) (.bool bc)
    replace Bb := heap_unset2 Bb (show w.heap.size + 1 ≠ pg by omega) (.slice sc xc.length xc.length) (.bool bc)
    replace Bh := heap_unset2 Bh (show ph ≠ pg by omega) (.slice sc xc.length xc.length) (.bool bc)
    replace Bg := heap_set2 Bg (.slice sc xc.length xc.length) (.bool bc)
    generalize ((tw5.setCell ⟨pg, 0, none⟩ (.slice sc xc.length xc.length)).setCell ⟨pg, 1, none⟩ (.bool bc)) = tw6 at *
    refine hKQ.out _ _ (by exact ⟨(box_cells Ba).1, (box_cells Ba).2.1, (box_cells Bb).1, (box_cells Bb).2.1⟩) (fun hHeld => ?_)
    clear hKQ KQ
    try simp only [Act.put, List.getElem_toArray, List.getElem_cons_zero, List.getElem_cons_succ, List.setIfInBounds_toArray, List.set_cons_zero, List.set_cons_succ]
    refine wpAnyH_ready (rs := [9]) (by kernel_rfl) (by simp) ?_
    refine AllReadyH.cons rfl (fun KQ hKQ => ?_) AllReadyH.nil
    obtain ⟨c0', c1', c2', c3'⟩ := box_cells Bh
    go_simp
    clear c0' c1' c2' c3'
    replace na := na.set2 Bh (.slice sd xd.length xd.length) (.bool bd)
    replace nb := nb.set2 Bh (.slice sd xd.length xd.length) (.bool bd)
    replace ic := ic.set2 Bh (.slice sd xd.length xd.length) (.bool bd)
    replace id := id.set2 Bh (.slice sd xd.length xd.length) (.bool bd)
    replace hG := grown_set2 (g := ph) hG (by omega) (.slice sd xd.length xd.length) (.bool bd)
    replace hT := grown_set2 (g := ph) hT (by omega) (.slice sd xd.length xd.length) (.bool bd)
    replace Ba := heap_unset2 Ba (show w.heap.size ≠ ph by omega) (.slice sd xd.length xd.length) (.bool bd)
    replace Bb := heap_unset2 Bb (show w.heap.size + 1 ≠ ph by omega) (.slice sd xd.length xd.length) (.bool bd)
    replace Bg := heap_unset2 Bg (show pg ≠ ph by omega) (.slice sd xd.length xd.length) (.bool bd)
    replace Bh := heap_set2 Bh (.slice sd xd.length xd.length) (.bool bd)
    generalize ((tw6.setCell ⟨ph, 0, none⟩ (.slice sd xd.length xd.length)).setCell ⟨ph, 1, none⟩ (.bool bd)) = tw7 at *
    refine hKQ.out _ _ (by exact ⟨(box_cells Ba).1, (box_cells Ba).2.1, (box_cells Bb).1, (box_cells Bb).2.1⟩) (fun hHeld => ?_)
    clear hKQ KQ
    try simp only [Act.put, List.getElem_toArray, List.getElem_cons_zero, List.getElem_cons_succ, List.setIfInBounds_toArray, List.set_cons_zero, List.set_cons_succ]
    refine wpAnyH_done (by kernel_rfl) ?_ _
    go_wp2_with fail
    go_meet
    exact ⟨pg, ph, rfl, rfl, ⟨_, _, Bg, ic⟩, ⟨_, _, Bh, id⟩, by omega, by omega, by omega, hT⟩)
  case rest =>
   obtain ⟨pg, ph, rfl, rfl, Kg, Kh, hne, lg, lh, gc⟩ := hcut
   replace Ba := heap_kept gc Ba
   replace Bb := heap_kept gc Bb
   replace Bu := heap_kept gc Bu
   replace Bv := heap_kept gc Bv
   replace Bt := heap_kept gc Bt
   replace ia := ia.kept gc
   replace na := na.kept gc
   replace ib := ib.kept gc
   replace nb := nb.kept gc
   replace hG := grown_trans hG gc
   replace hT := grown_trans hT gc
   clear gc
   clear Ca0 Fa0 Ca1 Fa1 Cb0 Fb0 Cb1 Fb1 Cu0 Fu0 Cu1 Fu1 Cv0 Fv0 Cv1 Fv1 Ct0 Ft0 Ct1 Ft1
   obtain ⟨Ca0, Ca1, Fa0, Fa1⟩ := box_cells Ba
   obtain ⟨Cb0, Cb1, Fb0, Fb1⟩ := box_cells Bb
   obtain ⟨Cu0, Cu1, Fu0, Fu1⟩ := box_cells Bu
   obtain ⟨Cv0, Cv1, Fv0, Fv1⟩ := box_cells Bv
   obtain ⟨Ct0, Ct1, Ft0, Ft1⟩ := box_cells Bt
   go_wp2_with fail
   clear Ca0 Fa0 Ca1 Fa1 Cb0 Fb0 Cb1 Fb1 Cu0 Fu0 Cu1 Fu1 Cv0 Fv0 Cv1 Fv1 Ct0 Ft0 Ct1 Ft1
   refine (ZOf_any wc 1 (by omega) (by omega)).mono ?_
   rintro e w1 ⟨_, rfl, ⟨se, xe, be, rfl, he, ve, te⟩, gw1⟩
   have ie : IntV w1 (.agg #[.slice se xe.length xe.length, .bool be]) (1) := ⟨se, xe, be, rfl, he, ve, te⟩
   replace Ba := heap_kept gw1 Ba
   replace Bb := heap_kept gw1 Bb
   replace Bu := heap_kept gw1 Bu
   replace Bv := heap_kept gw1 Bv
   replace Bt := heap_kept gw1 Bt
   replace ia := ia.kept gw1
   replace na := na.kept gw1
   replace ib := ib.kept gw1
   replace nb := nb.kept gw1
   replace Kg := Kg.kept gw1
   replace Kh := Kh.kept gw1
   replace hG := grown_trans hG gw1
   replace hT := grown_trans hT gw1
   clear gw1
   clear he ve te
   obtain ⟨Ca0, Ca1, Fa0, Fa1⟩ := box_cells Ba
   obtain ⟨Cb0, Cb1, Fb0, Fb1⟩ := box_cells Bb
   obtain ⟨Cu0, Cu1, Fu0, Fu1⟩ := box_cells Bu
   obtain ⟨Cv0, Cv1, Fv0, Fv1⟩ := box_cells Bv
   obtain ⟨Ct0, Ct1, Ft0, Ft1⟩ := box_cells Bt
   have dg : Hid (pg < w1.heap.size) := Lib.hid Kg.lt
   have dh : Hid (ph < w1.heap.size) := Lib.hid Kh.lt
   have gbw1 := (grown_alloc (World.grownBy_alloc w1 (.cells #[.slice se xe.length xe.length, .bool be] 26) none) (.cells #[.slice none 0 0, .bool false] 26))
   have Be := heap_kept (World.grownBy_alloc _ (.cells #[.slice none 0 0, .bool false] 26) none) (heap_new w1 (.cells #[.slice se xe.length xe.length, .bool be] 26) (w1.heap.size) rfl)
   have Bj := (heap_new (w1.alloc (.cells #[.slice se xe.length xe.length, .bool be] 26)) (.cells #[.slice none 0 0, .bool false] 26) (w1.heap.size + 1) (by simp))
   have hzw1 : Hid (w.heap.size ≤ w1.heap.size) := Lib.hid hG.size
   have hlaw1 : Hid (w.heap.size < w1.heap.size) := Lib.hid (Array.getElem?_eq_some_iff.1 Ba).1
   have hlbw1 : Hid (w.heap.size + 1 < w1.heap.size) := Lib.hid (Array.getElem?_eq_some_iff.1 Bb).1
   have hluw1 : Hid (w.heap.size + 1 + 1 < w1.heap.size) := Lib.hid (Array.getElem?_eq_some_iff.1 Bu).1
   have hlvw1 : Hid (w.heap.size + 1 + 1 + 1 < w1.heap.size) := Lib.hid (Array.getElem?_eq_some_iff.1 Bv).1
   have hltw1 : Hid (w.heap.size + 1 + 1 + 1 + 1 < w1.heap.size) := Lib.hid (Array.getElem?_eq_some_iff.1 Bt).1
   clear Ca0 Fa0 Ca1 Fa1 Cb0 Fb0 Cb1 Fb1 Cu0 Fu0 Cu1 Fu1 Cv0 Fv0 Cv1 Fv1 Ct0 Ft0 Ct1 Ft1
   replace Ba := heap_kept gbw1 Ba
   replace Bb := heap_kept gbw1 Bb
   replace Bu := heap_kept gbw1 Bu
   replace Bv := heap_kept gbw1 Bv
   replace Bt := heap_kept gbw1 Bt
   replace ia := ia.kept gbw1
   replace na := na.kept gbw1
   replace ib := ib.kept gbw1
   replace nb := nb.kept gbw1
   replace Kg := Kg.kept gbw1
   replace Kh := Kh.kept gbw1
   replace ie := ie.kept gbw1
   replace hG := grown_trans hG gbw1
   replace hT := grown_trans hT gbw1
   clear gbw1
   obtain ⟨Ca0, Ca1, Fa0, Fa1⟩ := box_cells Ba
   obtain ⟨Cb0, Cb1, Fb0, Fb1⟩ := box_cells Bb
   obtain ⟨Cu0, Cu1, Fu0, Fu1⟩ := box_cells Bu
   obtain ⟨Cv0, Cv1, Fv0, Fv1⟩ := box_cells Bv
   obtain ⟨Ct0, Ct1, Ft0, Ft1⟩ := box_cells Bt
   obtain ⟨Ce0, Ce1, Fe0, Fe1⟩ := box_cells Be
   obtain ⟨Cj0, Cj1, Fj0, Fj1⟩ := box_cells Bj
   go_wp2_with fail
   generalize ((w1.alloc (.cells #[.slice se xe.length xe.length, .bool be] 26)).alloc (.cells #[.slice none 0 0, .bool false] 26)) = w2 at *
   generalize w1.heap.size = aw1 at *
   replace hzw1 := hzw1.out
   replace hlaw1 := hlaw1.out
   replace hlbw1 := hlbw1.out
   replace hluw1 := hluw1.out
   replace hlvw1 := hlvw1.out
   replace hltw1 := hltw1.out
   have Ke : BoxI w2 (aw1) 1 := ⟨_, _, Be, ie⟩
   replace dg := dg.out
   replace dh := dh.out
   have Kj : BoxI w2 (aw1 + 1) 0 := ⟨_, _, Bj, IntV.zero _⟩
   skip
   have HST := Lib.hid (BInv.start x.natAbs y.natAbs)
   clear ia ib na nb ie hG Ba Bb Bu Bv Bt Be Bj
   clear Ca0 Fa0 Ca1 Fa1 Cb0 Fb0 Cb1 Fb1 Cu0 Fu0 Cu1 Fu1 Cv0 Fv0 Cv1 Fv1 Ct0 Ft0 Ct1 Ft1 Ce0 Fe0 Ce1 Fe1 Cj0 Fj0 Cj1 Fj1
   go_loopg [] y.natAbs (fun gh wr => ∃ (G N : Nat) (X Y P Q : Int), N ≤ gh ∧ Hid (BInv x.natAbs y.natAbs G N X Y P Q) ∧ Hid (G < B ^ (K + 1) ∧ N < B ^ (K + 1)) ∧ BoxI wr pg G ∧ BoxI wr ph N ∧ BoxI wr (aw1) X ∧ BoxI wr (aw1 + 1) Y ∧ w0.grownBy wr none)
   case atStart => exact ⟨x.natAbs, y.natAbs, 1, 0, 0, 1, Nat.le_refl _, HST.out, ⟨l2.out, l3.out⟩, Kg, Kh, Ke, Kj, hT⟩
   case round =>
    clear hT Kg Kh Ke Kj
    obtain ⟨G, N, X, Y, P, Q, hgh, HI, HB, Kg, Kh, Ke, Kj, hT⟩ := hrel
    have hG := grown_trans HG9.out hT
    have Ba := heap_kept hT Ha9.out
    have Bb := heap_kept hT Hb9.out
    have Bu := heap_kept hT Hu9.out
    have Bv := heap_kept hT Hv9.out
    have Bt := heap_kept hT Ht9.out
    have ia := Ia9.out.kept hT
    have ib := Ib9.out.kept hT
    obtain ⟨sg, xg, bg, Bg, ig⟩ := Kg.open
    obtain ⟨sh, xh, bh, Bh, ih⟩ := Kh.open
    obtain ⟨se, xe, be, Be, ie⟩ := Ke.open
    obtain ⟨sj, xj, bj, Bj, ij⟩ := Kj.open
    have HBD := Lib.hid (HI.out.bd Hlb.out)
    obtain ⟨Ca0, Ca1, Fa0, Fa1⟩ := box_cells Ba
    obtain ⟨Cb0, Cb1, Fb0, Fb1⟩ := box_cells Bb
    obtain ⟨Cu0, Cu1, Fu0, Fu1⟩ := box_cells Bu
    obtain ⟨Cv0, Cv1, Fv0, Fv1⟩ := box_cells Bv
    obtain ⟨Ct0, Ct1, Ft0, Ft1⟩ := box_cells Bt
    obtain ⟨Cg0, Cg1, Fg0, Fg1⟩ := box_cells Bg
    obtain ⟨Ch0, Ch1, Fh0, Fh1⟩ := box_cells Bh
    obtain ⟨Ce0, Ce1, Fe0, Fe1⟩ := box_cells Be
    obtain ⟨Cj0, Cj1, Fj0, Fj1⟩ := box_cells Bj
    by_cases hN : 0 < N
    ·
     have HGN := Lib.hid (HI.out.step hN)
     have HN := Lib.hid hN
     have hml := Nat.mod_lt G hN
     have HML := Lib.hid hml
     clear hN hml
     go_wp2_with fail
     clear Ca0 Fa0 Ca1 Fa1 Cb0 Fb0 Cb1 Fb1 Cu0 Fu0 Cu1 Fu1 Cv0 Fv0 Cv1 Fv1 Ct0 Ft0 Ct1 Ft1 Cg0 Fg0 Cg1 Fg1 Ch0 Fh0 Ch1 Fh1 Ce0 Fe0 Ce1 Fe1 Cj0 Fj0 Cj1 Fj1
     refine (Sign_any wr _ (N : Int) (K + 1) ih (by omega) (by rw [Int.natAbs_natCast]; exact HB.out.2)).mono ?_
     rintro e rw3 ⟨rfl, grw3⟩
     rw [Int.sign_eq_one_of_pos (show (0 : Int) < (N : Int) by have := HN.out; omega)]
     replace Ba := heap_kept grw3 Ba
     replace Bb := heap_kept grw3 Bb
     replace Bu := heap_kept grw3 Bu
     replace Bv := heap_kept grw3 Bv
     replace Bt := heap_kept grw3 Bt
     replace Bg := heap_kept grw3 Bg
     replace Bh := heap_kept grw3 Bh
     replace Be := heap_kept grw3 Be
     replace Bj := heap_kept grw3 Bj
     replace ia := ia.kept grw3
     replace ib := ib.kept grw3
     replace ig := ig.kept grw3
     replace ih := ih.kept grw3
     replace ie := ie.kept grw3
     replace ij := ij.kept grw3
     replace hG := grown_trans hG grw3
     replace hT := grown_trans hT grw3
     clear grw3
     obtain ⟨Ca0, Ca1, Fa0, Fa1⟩ := box_cells Ba
     obtain ⟨Cb0, Cb1, Fb0, Fb1⟩ := box_cells Bb
     obtain ⟨Cu0, Cu1, Fu0, Fu1⟩ := box_cells Bu
     obtain ⟨Cv0, Cv1, Fv0, Fv1⟩ := box_cells Bv
     obtain ⟨Ct0, Ct1, Ft0, Ft1⟩ := box_cells Bt
     obtain ⟨Cg0, Cg1, Fg0, Fg1⟩ := box_cells Bg
     obtain ⟨Ch0, Ch1, Fh0, Fh1⟩ := box_cells Bh
     obtain ⟨Ce0, Ce1, Fe0, Fe1⟩ := box_cells Be
     obtain ⟨Cj0, Cj1, Fj0, Fj1⟩ := box_cells Bj
     go_wp2_with fail
     clear Ca0 Fa0 Ca1 Fa1 Cb0 Fb0 Cb1 Fb1 Cu0 Fu0 Cu1 Fu1 Cv0 Fv0 Cv1 Fv1 Ct0 Ft0 Ct1 Ft1 Cg0 Fg0 Cg1 Fg1 Ch0 Fh0 Ch1 Fh1 Ce0 Fe0 Ce1 Fe1 Cj0 Fj0 Cj1 Fj1
     refine (ZFloor_nat rw3 _ _ G N (K + 1) ig ih (by omega) HB.out.1 HB.out.2 HN.out).mono ?_
     rintro e rw4 ⟨_, _, rfl, ⟨sq, xq, bq, rfl, hq, vq, tq⟩, ⟨sr, xr, br, rfl, hr, vr, tr⟩, grw4⟩
     have iq : IntV rw4 (.agg #[.slice sq xq.length xq.length, .bool bq]) (((G / N : Nat) : Int)) := ⟨sq, xq, bq, rfl, hq, vq, tq⟩
     have ir : IntV rw4 (.agg #[.slice sr xr.length xr.length, .bool br]) (((G % N : Nat) : Int)) := ⟨sr, xr, br, rfl, hr, vr, tr⟩
     replace Ba := heap_kept grw4 Ba
     replace Bb := heap_kept grw4 Bb
     replace Bu := heap_kept grw4 Bu
     replace Bv := heap_kept grw4 Bv
     replace Bt := heap_kept grw4 Bt
     replace Bg := heap_kept grw4 Bg
     replace Bh := heap_kept grw4 Bh
     replace Be := heap_kept grw4 Be
     replace Bj := heap_kept grw4 Bj
     replace ia := ia.kept grw4
     replace ib := ib.kept grw4
     replace ig := ig.kept grw4
     replace ih := ih.kept grw4
     replace ie := ie.kept grw4
     replace ij := ij.kept grw4
     replace hG := grown_trans hG grw4
     replace hT := grown_trans hT grw4
     clear grw4
     clear hq vq tq
     clear hr vr tr
     obtain ⟨Ca0, Ca1, Fa0, Fa1⟩ := box_cells Ba
     obtain ⟨Cb0, Cb1, Fb0, Fb1⟩ := box_cells Bb
     obtain ⟨Cu0, Cu1, Fu0, Fu1⟩ := box_cells Bu
     obtain ⟨Cv0, Cv1, Fv0, Fv1⟩ := box_cells Bv
     obtain ⟨Ct0, Ct1, Ft0, Ft1⟩ := box_cells Bt
     obtain ⟨Cg0, Cg1, Fg0, Fg1⟩ := box_cells Bg
     obtain ⟨Ch0, Ch1, Fh0, Fh1⟩ := box_cells Bh
     obtain ⟨Ce0, Ce1, Fe0, Fe1⟩ := box_cells Be
     obtain ⟨Cj0, Cj1, Fj0, Fj1⟩ := box_cells Bj
     have gbrw4 := (grown_alloc (World.grownBy_alloc rw4 (.cells #[.slice sq xq.length xq.length, .bool bq] 26) none) (.cells #[.slice sr xr.length xr.length, .bool br] 26))
     have Bq := heap_kept (World.grownBy_alloc _ (.cells #[.slice sr xr.length xr.length, .bool br] 26) none) (heap_new rw4 (.cells #[.slice sq xq.length xq.length, .bool bq] 26) (rw4.heap.size) rfl)
     have Br := (heap_new (rw4.alloc (.cells #[.slice sq xq.length xq.length, .bool bq] 26)) (.cells #[.slice sr xr.length xr.length, .bool br] 26) (rw4.heap.size + 1) (by simp))
     have hzrw4 : Hid (w.heap.size ≤ rw4.heap.size) := Lib.hid hG.size
     have hlarw4 : Hid (w.heap.size < rw4.heap.size) := Lib.hid (Array.getElem?_eq_some_iff.1 Ba).1
     have hlbrw4 : Hid (w.heap.size + 1 < rw4.heap.size) := Lib.hid (Array.getElem?_eq_some_iff.1 Bb).1
     have hlurw4 : Hid (w.heap.size + 1 + 1 < rw4.heap.size) := Lib.hid (Array.getElem?_eq_some_iff.1 Bu).1
     have hlvrw4 : Hid (w.heap.size + 1 + 1 + 1 < rw4.heap.size) := Lib.hid (Array.getElem?_eq_some_iff.1 Bv).1
     have hltrw4 : Hid (w.heap.size + 1 + 1 + 1 + 1 < rw4.heap.size) := Lib.hid (Array.getElem?_eq_some_iff.1 Bt).1
     have hlgrw4 : Hid (pg < rw4.heap.size) := Lib.hid (Array.getElem?_eq_some_iff.1 Bg).1
     have hlhrw4 : Hid (ph < rw4.heap.size) := Lib.hid (Array.getElem?_eq_some_iff.1 Bh).1
     have hlerw4 : Hid (aw1 < rw4.heap.size) := Lib.hid (Array.getElem?_eq_some_iff.1 Be).1
     have hljrw4 : Hid (aw1 + 1 < rw4.heap.size) := Lib.hid (Array.getElem?_eq_some_iff.1 Bj).1
     clear Ca0 Fa0 Ca1 Fa1 Cb0 Fb0 Cb1 Fb1 Cu0 Fu0 Cu1 Fu1 Cv0 Fv0 Cv1 Fv1 Ct0 Ft0 Ct1 Ft1 Cg0 Fg0 Cg1 Fg1 Ch0 Fh0 Ch1 Fh1 Ce0 Fe0 Ce1 Fe1 Cj0 Fj0 Cj1 Fj1
     replace Ba := heap_kept gbrw4 Ba
     replace Bb := heap_kept gbrw4 Bb
     replace Bu := heap_kept gbrw4 Bu
     replace Bv := heap_kept gbrw4 Bv
     replace Bt := heap_kept gbrw4 Bt
     replace Bg := heap_kept gbrw4 Bg
     replace Bh := heap_kept gbrw4 Bh
     replace Be := heap_kept gbrw4 Be
     replace Bj := heap_kept gbrw4 Bj
     replace ia := ia.kept gbrw4
     replace ib := ib.kept gbrw4
     replace ig := ig.kept gbrw4
     replace ih := ih.kept gbrw4
     replace ie := ie.kept gbrw4
     replace ij := ij.kept gbrw4
     replace iq := iq.kept gbrw4
     replace ir := ir.kept gbrw4
     replace hG := grown_trans hG gbrw4
     replace hT := grown_trans hT gbrw4
     clear gbrw4
     obtain ⟨Ca0, Ca1, Fa0, Fa1⟩ := box_cells Ba
     obtain ⟨Cb0, Cb1, Fb0, Fb1⟩ := box_cells Bb
     obtain ⟨Cu0, Cu1, Fu0, Fu1⟩ := box_cells Bu
     obtain ⟨Cv0, Cv1, Fv0, Fv1⟩ := box_cells Bv
     obtain ⟨Ct0, Ct1, Ft0, Ft1⟩ := box_cells Bt
     obtain ⟨Cg0, Cg1, Fg0, Fg1⟩ := box_cells Bg
     obtain ⟨Ch0, Ch1, Fh0, Fh1⟩ := box_cells Bh
     obtain ⟨Ce0, Ce1, Fe0, Fe1⟩ := box_cells Be
     obtain ⟨Cj0, Cj1, Fj0, Fj1⟩ := box_cells Bj
     obtain ⟨Cq0, Cq1, Fq0, Fq1⟩ := box_cells Bq
     obtain ⟨Cr0, Cr1, Fr0, Fr1⟩ := box_cells Br
     go_wp2_with fail
     generalize ((rw4.alloc (.cells #[.slice sq xq.length xq.length, .bool bq] 26)).alloc (.cells #[.slice sr xr.length xr.length, .bool br] 26)) = rw5 at *
     generalize rw4.heap.size = arw4 at *
     replace hzrw4 := hzrw4.out
     replace hlarw4 := hlarw4.out
     replace hlbrw4 := hlbrw4.out
     replace hlurw4 := hlurw4.out
     replace hlvrw4 := hlvrw4.out
     replace hltrw4 := hltrw4.out
     replace hlgrw4 := hlgrw4.out
     replace hlhrw4 := hlhrw4.out
     replace hlerw4 := hlerw4.out
     replace hljrw4 := hljrw4.out
     obtain ⟨W5, hW5⟩ : ∃ W5, W5 = ((((rw5.setCell ⟨pg, 0, none⟩ (.slice sh xh.length xh.length)).setCell ⟨pg, 1, none⟩ (.bool bh)).setCell ⟨ph, 0, none⟩ (.slice sr xr.length xr.length)).setCell ⟨ph, 1, none⟩ (.bool br)).drew := ⟨_, rfl⟩
     obtain ⟨y1, y2, y3, y4, y5⟩ := lay_two Bg Bh hne hW5
     have za := y3 _ _ (show w.heap.size ≠ pg by omega) (show w.heap.size ≠ ph by omega) Ba
     have zb := y3 _ _ (show w.heap.size + 1 ≠ pg by omega) (show w.heap.size + 1 ≠ ph by omega) Bb
     have zu := y3 _ _ (show w.heap.size + 1 + 1 ≠ pg by omega) (show w.heap.size + 1 + 1 ≠ ph by omega) Bu
     have zv := y3 _ _ (show w.heap.size + 1 + 1 + 1 ≠ pg by omega) (show w.heap.size + 1 + 1 + 1 ≠ ph by omega) Bv
     have zt := y3 _ _ (show w.heap.size + 1 + 1 + 1 + 1 ≠ pg by omega) (show w.heap.size + 1 + 1 + 1 + 1 ≠ ph by omega) Bt
     have ze := y3 _ _ (show aw1 ≠ pg by omega) (show aw1 ≠ ph by omega) Be
     have zj := y3 _ _ (show aw1 + 1 ≠ pg by omega) (show aw1 + 1 ≠ ph by omega) Bj
     have zq := y3 _ _ (show arw4 ≠ pg by omega) (show arw4 ≠ ph by omega) Bq
     have zr := y3 _ _ (show arw4 + 1 ≠ pg by omega) (show arw4 + 1 ≠ ph by omega) Br
     have zia := y4 _ _ ia
     have zib := y4 _ _ ib
     have zig := y4 _ _ ig
     have zih := y4 _ _ ih
     have zie := y4 _ _ ie
     have zij := y4 _ _ ij
     have ziq := y4 _ _ iq
     have zir := y4 _ _ ir
     have zG := y5 _ hG (by omega) (by omega)
     have zT := y5 _ hT lg lh
     clear y3 y4 y5 Ba Bb Bu Bv Bt Be Bj Bq Br hG hT ia ib ig ih ie ij iq ir
     go_region
     rw [← hW5]
     clear hW5 Bg Bh
     clear Ca0 Fa0 Ca1 Fa1 Cb0 Fb0 Cb1 Fb1 Cu0 Fu0 Cu1 Fu1 Cv0 Fv0 Cv1 Fv1 Ct0 Ft0 Ct1 Ft1 Cg0 Fg0 Cg1 Fg1 Ch0 Fh0 Ch1 Fh1 Ce0 Fe0 Ce1 Fe1 Cj0 Fj0 Cj1 Fj1 Cq0 Fq0 Cq1 Fq1 Cr0 Fr0 Cr1 Fr1
     have Ba := za
     have Bb := zb
     have Bu := zu
     have Bv := zv
     have Bt := zt
     have Be := ze
     have Bj := zj
     have Bq := zq
     have Br := zr
     have Bg := y1
     have Bh := y2
     have ia := zia
     have ib := zib
     have ig := zig
     have ih := zih
     have ie := zie
     have ij := zij
     have iq := ziq
     have ir := zir
     have hG := zG
     have hT := zT
     clear y1 y2 zG zT za zb zu zv zt ze zj zq zr zia zib zig zih zie zij ziq zir
     obtain ⟨Ca0, Ca1, Fa0, Fa1⟩ := box_cells Ba
     obtain ⟨Cb0, Cb1, Fb0, Fb1⟩ := box_cells Bb
     obtain ⟨Cu0, Cu1, Fu0, Fu1⟩ := box_cells Bu
     obtain ⟨Cv0, Cv1, Fv0, Fv1⟩ := box_cells Bv
     obtain ⟨Ct0, Ct1, Ft0, Ft1⟩ := box_cells Bt
     obtain ⟨Cg0, Cg1, Fg0, Fg1⟩ := box_cells Bg
     obtain ⟨Ch0, Ch1, Fh0, Fh1⟩ := box_cells Bh
     obtain ⟨Ce0, Ce1, Fe0, Fe1⟩ := box_cells Be
     obtain ⟨Cj0, Cj1, Fj0, Fj1⟩ := box_cells Bj
     obtain ⟨Cq0, Cq1, Fq0, Fq1⟩ := box_cells Bq
     obtain ⟨Cr0, Cr1, Fr0, Fr1⟩ := box_cells Br
     go_wp2_with fail
     have lq : (((G / N : Nat) : Int)).natAbs < B ^ (K + 1) := by rw [Int.natAbs_natCast]; exact Nat.lt_of_le_of_lt (Nat.div_le_self G N) HB.out.1
     have lm := zmul_bd lq HBD.out.2
     have LQ := Lib.hid lq
     have LM := Lib.hid lm
     clear lq lm
     clear Ca0 Fa0 Ca1 Fa1 Cb0 Fb0 Cb1 Fb1 Cu0 Fu0 Cu1 Fu1 Cv0 Fv0 Cv1 Fv1 Ct0 Ft0 Ct1 Ft1 Cg0 Fg0 Cg1 Fg1 Ch0 Fh0 Ch1 Fh1 Ce0 Fe0 Ce1 Fe1 Cj0 Fj0 Cj1 Fj1 Cq0 Fq0 Cq1 Fq1 Cr0 Fr0 Cr1 Fr1
     clear Ba Bb Bu Bv Bt Br
     clear ia ib ig
     obtain ⟨Cq0, Cq1, Fq0, Fq1⟩ := box_cells Bq
     refine wp_region_held_drew (S := fun w' => w'.cell? ⟨arw4, 0, none⟩ = some (.slice sq xq.length xq.length) ∧ w'.cell? ⟨arw4, 1, none⟩ = some (.bool bq)) (by kernel_rfl) (by exact ⟨Cq0, Cq1⟩) (fun hHeld => ?_)
     have gd : W5.grownBy W5.drew none := grown_drew (grown_refl _ _)
     clear Cq0 Fq0 Cq1 Fq1
     replace Bg := heap_kept gd Bg
     replace Bh := heap_kept gd Bh
     replace Be := heap_kept gd Be
     replace Bj := heap_kept gd Bj
     replace Bq := heap_kept gd Bq
     replace ih := ih.kept gd
     replace ie := ie.kept gd
     replace ij := ij.kept gd
     replace iq := iq.kept gd
     replace ir := ir.kept gd
     replace hG := grown_trans hG gd
     replace hT := grown_trans hT gd
     clear gd
     generalize W5.drew = rcw6 at *
     refine wpAnyH_take (i := 2) (v := ?_) rfl (by kernel_rfl) (by kernel_rfl) (by kernel_rfl) (fun _ _ _ h => h) (Or.inl ⟨by rfl, ?_⟩) (by assumption) ?_
     rotate_left
     · (intro w hSw; (try dsimp only at hSw); go_simp; (try with_reducible rfl))
     try simp only [Act.put, List.getElem_toArray, List.getElem_cons_zero, List.getElem_cons_succ, List.setIfInBounds_toArray, List.set_cons_zero, List.set_cons_succ]
     refine wpAnyH_ready (rs := [0, 1, 3]) (by kernel_rfl) (by simp) ?_
     refine AllReadyH.cons rfl (fun KQ hKQ => ?_) (AllReadyH.cons rfl (fun KQ hKQ => ?_) (AllReadyH.cons rfl (fun KQ hKQ => ?_) AllReadyH.nil))
     focus
      obtain ⟨c0', c1', c2', c3'⟩ := box_cells Bj
      go_simp
      refine hKQ.out _ _ (by exact ⟨(box_cells Bq).1, (box_cells Bq).2.1⟩) (fun hHeld => ?_)
      clear hKQ KQ
      try simp only [Act.put, List.getElem_toArray, List.getElem_cons_zero, List.getElem_cons_succ, List.setIfInBounds_toArray, List.set_cons_zero, List.set_cons_succ]
      refine wpAnyH_ready (rs := [1, 3]) (by kernel_rfl) (by simp) ?_
      refine AllReadyH.cons rfl (fun KQ hKQ => ?_) (AllReadyH.cons rfl (fun KQ hKQ => ?_) AllReadyH.nil)
      focus
       obtain ⟨c0', c1', c2', c3'⟩ := box_cells Be
       go_simp
       refine hKQ.out _ _ (by exact ⟨(box_cells Bq).1, (box_cells Bq).2.1⟩) (fun hHeld => ?_)
       clear hKQ KQ
       try simp only [Act.put, List.getElem_toArray, List.getElem_cons_zero, List.getElem_cons_succ, List.setIfInBounds_toArray, List.set_cons_zero, List.set_cons_succ]
       refine wpAnyH_ready (rs := [3]) (by kernel_rfl) (by simp) ?_
       refine AllReadyH.cons rfl (fun KQ hKQ => ?_) AllReadyH.nil
       obtain ⟨c0', c1', c2', c3'⟩ := box_cells Bj
       go_simp
       refine hKQ.out _ _ (by exact ⟨(box_cells Bq).1, (box_cells Bq).2.1⟩) (fun hHeld => ?_)
       clear hKQ KQ
       try simp only [Act.put, List.getElem_toArray, List.getElem_cons_zero, List.getElem_cons_succ, List.setIfInBounds_toArray, List.set_cons_zero, List.set_cons_succ]
       refine wpAnyH_ready (rs := [4]) (by kernel_rfl) (by simp) ?_
       refine AllReadyH.cons rfl (fun KQ hKQ => ?_) AllReadyH.nil
       go_simp
       go_at_call 36
       refine (ZMul_any rcw6 _ _ ((G / N : Nat) : Int) Y (K + 1) iq ij (by omega) LQ.out HBD.out.2).mono ?_
       rintro e rcw7 ⟨_, rfl, ⟨sm, xm, bm, rfl, hm, vm, tm⟩, grcw7⟩
       have im : IntV rcw7 (.agg #[.slice sm xm.length xm.length, .bool bm]) (((G / N : Nat) : Int) * Y) := ⟨sm, xm, bm, rfl, hm, vm, tm⟩
       replace Bg := heap_kept grcw7 Bg
       replace Bh := heap_kept grcw7 Bh
       replace Be := heap_kept grcw7 Be
       replace Bj := heap_kept grcw7 Bj
       replace Bq := heap_kept grcw7 Bq
       replace ih := ih.kept grcw7
       replace ie := ie.kept grcw7
       replace ij := ij.kept grcw7
       replace iq := iq.kept grcw7
       replace ir := ir.kept grcw7
       replace hG := grown_trans hG grcw7
       replace hT := grown_trans hT grcw7
       clear grcw7
       clear hm vm tm
       (try go_wp2_with fail)
       refine hKQ.out _ _ (by exact ⟨(box_cells Bq).1, (box_cells Bq).2.1⟩) (fun hHeld => ?_)
       clear hKQ KQ
       try simp only [Act.put, List.getElem_toArray, List.getElem_cons_zero, List.getElem_cons_succ, List.setIfInBounds_toArray, List.set_cons_zero, List.set_cons_succ]
       refine wpAnyH_ready (rs := [5]) (by kernel_rfl) (by simp) ?_
       refine AllReadyH.cons rfl (fun KQ hKQ => ?_) AllReadyH.nil
       go_simp
       go_at_call 31
       refine (ZSub_any rcw7 _ _ X (((G / N : Nat) : Int) * Y) (K + 1 + (K + 1)) ie im (by omega) (bw HBD.out.1 (by omega)) LM.out).mono ?_
       rintro e rcw8 ⟨_, rfl, ⟨ss, xs, bs, rfl, hs, vs, ts⟩, grcw8⟩
       have is : IntV rcw8 (.agg #[.slice ss xs.length xs.length, .bool bs]) (X - ((G / N : Nat) : Int) * Y) := ⟨ss, xs, bs, rfl, hs, vs, ts⟩
       replace Bg := heap_kept grcw8 Bg
       replace Bh := heap_kept grcw8 Bh
       replace Be := heap_kept grcw8 Be
       replace Bj := heap_kept grcw8 Bj
       replace Bq := heap_kept grcw8 Bq
       replace ih := ih.kept grcw8
       replace ie := ie.kept grcw8
       replace ij := ij.kept grcw8
       replace iq := iq.kept grcw8
       replace ir := ir.kept grcw8
       replace im := im.kept grcw8
       replace hG := grown_trans hG grcw8
       replace hT := grown_trans hT grcw8
       clear grcw8
       clear hs vs ts
       (try go_wp2_with fail)
       refine hKQ.out _ _ (by exact ⟨(box_cells Bq).1, (box_cells Bq).2.1⟩) (fun hHeld => ?_)
       clear hKQ KQ
       try simp only [Act.put, List.getElem_toArray, List.getElem_cons_zero, List.getElem_cons_succ, List.setIfInBounds_toArray, List.set_cons_zero, List.set_cons_succ]
      rotate_left 1
      focus
       obtain ⟨c0', c1', c2', c3'⟩ := box_cells Bj
       go_simp
       refine hKQ.out _ _ (by exact ⟨(box_cells Bq).1, (box_cells Bq).2.1⟩) (fun hHeld => ?_)
       clear hKQ KQ
       try simp only [Act.put, List.getElem_toArray, List.getElem_cons_zero, List.getElem_cons_succ, List.setIfInBounds_toArray, List.set_cons_zero, List.set_cons_succ]
       refine wpAnyH_ready (rs := [1, 4]) (by kernel_rfl) (by simp) ?_
       refine AllReadyH.cons rfl (fun KQ hKQ => ?_) (AllReadyH.cons rfl (fun KQ hKQ => ?_) AllReadyH.nil)
       focus
        obtain ⟨c0', c1', c2', c3'⟩ := box_cells Be
        go_simp
        refine hKQ.out _ _ (by exact ⟨(box_cells Bq).1, (box_cells Bq).2.1⟩) (fun hHeld => ?_)
        clear hKQ KQ
        try simp only [Act.put, List.getElem_toArray, List.getElem_cons_zero, List.getElem_cons_succ, List.setIfInBounds_toArray, List.set_cons_zero, List.set_cons_succ]
        refine wpAnyH_ready (rs := [4]) (by kernel_rfl) (by simp) ?_
        refine AllReadyH.cons rfl (fun KQ hKQ => ?_) AllReadyH.nil
        go_simp
        go_at_call 36
        refine (ZMul_any rcw6 _ _ ((G / N : Nat) : Int) Y (K + 1) iq ij (by omega) LQ.out HBD.out.2).mono ?_
        rintro e rcw7 ⟨_, rfl, ⟨sm, xm, bm, rfl, hm, vm, tm⟩, grcw7⟩
        have im : IntV rcw7 (.agg #[.slice sm xm.length xm.length, .bool bm]) (((G / N : Nat) : Int) * Y) := ⟨sm, xm, bm, rfl, hm, vm, tm⟩
        replace Bg := heap_kept grcw7 Bg
        replace Bh := heap_kept grcw7 Bh
        replace Be := heap_kept grcw7 Be
        replace Bj := heap_kept grcw7 Bj
        replace Bq := heap_kept grcw7 Bq
        replace ih := ih.kept grcw7
        replace ie := ie.kept grcw7
        replace ij := ij.kept grcw7
        replace iq := iq.kept grcw7
        replace ir := ir.kept grcw7
        replace hG := grown_trans hG grcw7
        replace hT := grown_trans hT grcw7
        clear grcw7
        clear hm vm tm
        (try go_wp2_with fail)
        refine hKQ.out _ _ (by exact ⟨(box_cells Bq).1, (box_cells Bq).2.1⟩) (fun hHeld => ?_)
        clear hKQ KQ
        try simp only [Act.put, List.getElem_toArray, List.getElem_cons_zero, List.getElem_cons_succ, List.setIfInBounds_toArray, List.set_cons_zero, List.set_cons_succ]
        refine wpAnyH_ready (rs := [5]) (by kernel_rfl) (by simp) ?_
        refine AllReadyH.cons rfl (fun KQ hKQ => ?_) AllReadyH.nil
        go_simp
        go_at_call 31
        refine (ZSub_any rcw7 _ _ X (((G / N : Nat) : Int) * Y) (K + 1 + (K + 1)) ie im (by omega) (bw HBD.out.1 (by omega)) LM.out).mono ?_
        rintro e rcw8 ⟨_, rfl, ⟨ss, xs, bs, rfl, hs, vs, ts⟩, grcw8⟩
        have is : IntV rcw8 (.agg #[.slice ss xs.length xs.length, .bool bs]) (X - ((G / N : Nat) : Int) * Y) := ⟨ss, xs, bs, rfl, hs, vs, ts⟩
        replace Bg := heap_kept grcw8 Bg
        replace Bh := heap_kept grcw8 Bh
        replace Be := heap_kept grcw8 Be
        replace Bj := heap_kept grcw8 Bj
        replace Bq := heap_kept grcw8 Bq
        replace ih := ih.kept grcw8
        replace ie := ie.kept grcw8
        replace ij := ij.kept grcw8
        replace iq := iq.kept grcw8
        replace ir := ir.kept grcw8
        replace im := im.kept grcw8
        replace hG := grown_trans hG grcw8
        replace hT := grown_trans hT grcw8
        clear grcw8
        clear hs vs ts
        (try go_wp2_with fail)
        refine hKQ.out _ _ (by exact ⟨(box_cells Bq).1, (box_cells Bq).2.1⟩) (fun hHeld => ?_)
        clear hKQ KQ
        try simp only [Act.put, List.getElem_toArray, List.getElem_cons_zero, List.getElem_cons_succ, List.setIfInBounds_toArray, List.set_cons_zero, List.set_cons_succ]
       rotate_left 1
       focus
        go_simp
        go_at_call 36
        refine (ZMul_any rcw6 _ _ ((G / N : Nat) : Int) Y (K + 1) iq ij (by omega) LQ.out HBD.out.2).mono ?_
        rintro e rcw7 ⟨_, rfl, ⟨sm, xm, bm, rfl, hm, vm, tm⟩, grcw7⟩
        have im : IntV rcw7 (.agg #[.slice sm xm.length xm.length, .bool bm]) (((G / N : Nat) : Int) * Y) := ⟨sm, xm, bm, rfl, hm, vm, tm⟩
        replace Bg := heap_kept grcw7 Bg
        replace Bh := heap_kept grcw7 Bh
        replace Be := heap_kept grcw7 Be
        replace Bj := heap_kept grcw7 Bj
        replace Bq := heap_kept grcw7 Bq
        replace ih := ih.kept grcw7
        replace ie := ie.kept grcw7
        replace ij := ij.kept grcw7
        replace iq := iq.kept grcw7
        replace ir := ir.kept grcw7
        replace hG := grown_trans hG grcw7
        replace hT := grown_trans hT grcw7
        clear grcw7
        clear hm vm tm
        (try go_wp2_with fail)
        refine hKQ.out _ _ (by exact ⟨(box_cells Bq).1, (box_cells Bq).2.1⟩) (fun hHeld => ?_)
        clear hKQ KQ
        try simp only [Act.put, List.getElem_toArray, List.getElem_cons_zero, List.getElem_cons_succ, List.setIfInBounds_toArray, List.set_cons_zero, List.set_cons_succ]
        refine wpAnyH_ready (rs := [1]) (by kernel_rfl) (by simp) ?_
        refine AllReadyH.cons rfl (fun KQ hKQ => ?_) AllReadyH.nil
        obtain ⟨c0', c1', c2', c3'⟩ := box_cells Be
        go_simp
        refine hKQ.out _ _ (by exact ⟨(box_cells Bq).1, (box_cells Bq).2.1⟩) (fun hHeld => ?_)
        clear hKQ KQ
        try simp only [Act.put, List.getElem_toArray, List.getElem_cons_zero, List.getElem_cons_succ, List.setIfInBounds_toArray, List.set_cons_zero, List.set_cons_succ]
        refine wpAnyH_ready (rs := [5]) (by kernel_rfl) (by simp) ?_
        refine AllReadyH.cons rfl (fun KQ hKQ => ?_) AllReadyH.nil
        go_simp
        go_at_call 31
        refine (ZSub_any rcw7 _ _ X (((G / N : Nat) : Int) * Y) (K + 1 + (K + 1)) ie im (by omega) (bw HBD.out.1 (by omega)) LM.out).mono ?_
        rintro e rcw8 ⟨_, rfl, ⟨ss, xs, bs, rfl, hs, vs, ts⟩, grcw8⟩
        have is : IntV rcw8 (.agg #[.slice ss xs.length xs.length, .bool bs]) (X - ((G / N : Nat) : Int) * Y) := ⟨ss, xs, bs, rfl, hs, vs, ts⟩
        replace Bg := heap_kept grcw8 Bg
        replace Bh := heap_kept grcw8 Bh
        replace Be := heap_kept grcw8 Be
        replace Bj := heap_kept grcw8 Bj
        replace Bq := heap_kept grcw8 Bq
        replace ih := ih.kept grcw8
        replace ie := ie.kept grcw8
        replace ij := ij.kept grcw8
        replace iq := iq.kept grcw8
        replace ir := ir.kept grcw8
        replace im := im.kept grcw8
        replace hG := grown_trans hG grcw8
        replace hT := grown_trans hT grcw8
        clear grcw8
        clear hs vs ts
        (try go_wp2_with fail)
        refine hKQ.out _ _ (by exact ⟨(box_cells Bq).1, (box_cells Bq).2.1⟩) (fun hHeld => ?_)
        clear hKQ KQ
        try simp only [Act.put, List.getElem_toArray, List.getElem_cons_zero, List.getElem_cons_succ, List.setIfInBounds_toArray, List.set_cons_zero, List.set_cons_succ]
       rotate_left 1
      rotate_left 2
     rotate_left 3
     focus
      obtain ⟨c0', c1', c2', c3'⟩ := box_cells Be
      go_simp
      refine hKQ.out _ _ (by exact ⟨(box_cells Bq).1, (box_cells Bq).2.1⟩) (fun hHeld => ?_)
      clear hKQ KQ
      try simp only [Act.put, List.getElem_toArray, List.getElem_cons_zero, List.getElem_cons_succ, List.setIfInBounds_toArray, List.set_cons_zero, List.set_cons_succ]
      refine wpAnyH_ready (rs := [0, 3]) (by kernel_rfl) (by simp) ?_
      refine AllReadyH.cons rfl (fun KQ hKQ => ?_) (AllReadyH.cons rfl (fun KQ hKQ => ?_) AllReadyH.nil)
      focus
       obtain ⟨c0', c1', c2', c3'⟩ := box_cells Bj
       go_simp
       refine hKQ.out _ _ (by exact ⟨(box_cells Bq).1, (box_cells Bq).2.1⟩) (fun hHeld => ?_)
       clear hKQ KQ
       try simp only [Act.put, List.getElem_toArray, List.getElem_cons_zero, List.getElem_cons_succ, List.setIfInBounds_toArray, List.set_cons_zero, List.set_cons_succ]
       refine wpAnyH_ready (rs := [3]) (by kernel_rfl) (by simp) ?_
       refine AllReadyH.cons rfl (fun KQ hKQ => ?_) AllReadyH.nil
       obtain ⟨c0', c1', c2', c3'⟩ := box_cells Bj
       go_simp
       refine hKQ.out _ _ (by exact ⟨(box_cells Bq).1, (box_cells Bq).2.1⟩) (fun hHeld => ?_)
       clear hKQ KQ
       try simp only [Act.put, List.getElem_toArray, List.getElem_cons_zero, List.getElem_cons_succ, List.setIfInBounds_toArray, List.set_cons_zero, List.set_cons_succ]
       refine wpAnyH_ready (rs := [4]) (by kernel_rfl) (by simp) ?_
       refine AllReadyH.cons rfl (fun KQ hKQ => ?_) AllReadyH.nil
       go_simp
       go_at_call 36
       refine (ZMul_any rcw6 _ _ ((G / N : Nat) : Int) Y (K + 1) iq ij (by omega) LQ.out HBD.out.2).mono ?_
       rintro e rcw7 ⟨_, rfl, ⟨sm, xm, bm, rfl, hm, vm, tm⟩, grcw7⟩
       have im : IntV rcw7 (.agg #[.slice sm xm.length xm.length, .bool bm]) (((G / N : Nat) : Int) * Y) := ⟨sm, xm, bm, rfl, hm, vm, tm⟩
       replace Bg := heap_kept grcw7 Bg
       replace Bh := heap_kept grcw7 Bh
       replace Be := heap_kept grcw7 Be
       replace Bj := heap_kept grcw7 Bj
       replace Bq := heap_kept grcw7 Bq
       replace ih := ih.kept grcw7
       replace ie := ie.kept grcw7
       replace ij := ij.kept grcw7
       replace iq := iq.kept grcw7
       replace ir := ir.kept grcw7
       replace hG := grown_trans hG grcw7
       replace hT := grown_trans hT grcw7
       clear grcw7
       clear hm vm tm
       (try go_wp2_with fail)
       refine hKQ.out _ _ (by exact ⟨(box_cells Bq).1, (box_cells Bq).2.1⟩) (fun hHeld => ?_)
       clear hKQ KQ
       try simp only [Act.put, List.getElem_toArray, List.getElem_cons_zero, List.getElem_cons_succ, List.setIfInBounds_toArray, List.set_cons_zero, List.set_cons_succ]
       refine wpAnyH_ready (rs := [5]) (by kernel_rfl) (by simp) ?_
       refine AllReadyH.cons rfl (fun KQ hKQ => ?_) AllReadyH.nil
       go_simp
       go_at_call 31
       refine (ZSub_any rcw7 _ _ X (((G / N : Nat) : Int) * Y) (K + 1 + (K + 1)) ie im (by omega) (bw HBD.out.1 (by omega)) LM.out).mono ?_
       rintro e rcw8 ⟨_, rfl, ⟨ss, xs, bs, rfl, hs, vs, ts⟩, grcw8⟩
       have is : IntV rcw8 (.agg #[.slice ss xs.length xs.length, .bool bs]) (X - ((G / N : Nat) : Int) * Y) := ⟨ss, xs, bs, rfl, hs, vs, ts⟩
       replace Bg := heap_kept grcw8 Bg
       replace Bh := heap_kept grcw8 Bh
       replace Be := heap_kept grcw8 Be
       replace Bj := heap_kept grcw8 Bj
       replace Bq := heap_kept grcw8 Bq
       replace ih := ih.kept grcw8
       replace ie := ie.kept grcw8
       replace ij := ij.kept grcw8
       replace iq := iq.kept grcw8
       replace ir := ir.kept grcw8
       replace im := im.kept grcw8
       replace hG := grown_trans hG grcw8
       replace hT := grown_trans hT grcw8
       clear grcw8
       clear hs vs ts
       (try go_wp2_with fail)
       refine hKQ.out _ _ (by exact ⟨(box_cells Bq).1, (box_cells Bq).2.1⟩) (fun hHeld => ?_)
       clear hKQ KQ
       try simp only [Act.put, List.getElem_toArray, List.getElem_cons_zero, List.getElem_cons_succ, List.setIfInBounds_toArray, List.set_cons_zero, List.set_cons_succ]
      rotate_left 1
      focus
       obtain ⟨c0', c1', c2', c3'⟩ := box_cells Bj
       go_simp
       refine hKQ.out _ _ (by exact ⟨(box_cells Bq).1, (box_cells Bq).2.1⟩) (fun hHeld => ?_)
       clear hKQ KQ
       try simp only [Act.put, List.getElem_toArray, List.getElem_cons_zero, List.getElem_cons_succ, List.setIfInBounds_toArray, List.set_cons_zero, List.set_cons_succ]
       refine wpAnyH_ready (rs := [0, 4]) (by kernel_rfl) (by simp) ?_
       refine AllReadyH.cons rfl (fun KQ hKQ => ?_) (AllReadyH.cons rfl (fun KQ hKQ => ?_) AllReadyH.nil)
       focus
        obtain ⟨c0', c1', c2', c3'⟩ := box_cells Bj
        go_simp
        refine hKQ.out _ _ (by exact ⟨(box_cells Bq).1, (box_cells Bq).2.1⟩) (fun hHeld => ?_)
        clear hKQ KQ
        try simp only [Act.put, List.getElem_toArray, List.getElem_cons_zero, List.getElem_cons_succ, List.setIfInBounds_toArray, List.set_cons_zero, List.set_cons_succ]
        refine wpAnyH_ready (rs := [4]) (by kernel_rfl) (by simp) ?_
        refine AllReadyH.cons rfl (fun KQ hKQ => ?_) AllReadyH.nil
        go_simp
        go_at_call 36
        refine (ZMul_any rcw6 _ _ ((G / N : Nat) : Int) Y (K + 1) iq ij (by omega) LQ.out HBD.out.2).mono ?_
        rintro e rcw7 ⟨_, rfl, ⟨sm, xm, bm, rfl, hm, vm, tm⟩, grcw7⟩
        have im : IntV rcw7 (.agg #[.slice sm xm.length xm.length, .bool bm]) (((G / N : Nat) : Int) * Y) := ⟨sm, xm, bm, rfl, hm, vm, tm⟩
        replace Bg := heap_kept grcw7 Bg
        replace Bh := heap_kept grcw7 Bh
        replace Be := heap_kept grcw7 Be
        replace Bj := heap_kept grcw7 Bj
        replace Bq := heap_kept grcw7 Bq
        replace ih := ih.kept grcw7
        replace ie := ie.kept grcw7
        replace ij := ij.kept grcw7
        replace iq := iq.kept grcw7
        replace ir := ir.kept grcw7
        replace hG := grown_trans hG grcw7
        replace hT := grown_trans hT grcw7
        clear grcw7
        clear hm vm tm
        (try go_wp2_with fail)
        refine hKQ.out _ _ (by exact ⟨(box_cells Bq).1, (box_cells Bq).2.1⟩) (fun hHeld => ?_)
        clear hKQ KQ
        try simp only [Act.put, List.getElem_toArray, List.getElem_cons_zero, List.getElem_cons_succ, List.setIfInBounds_toArray, List.set_cons_zero, List.set_cons_succ]
        refine wpAnyH_ready (rs := [5]) (by kernel_rfl) (by simp) ?_
        refine AllReadyH.cons rfl (fun KQ hKQ => ?_) AllReadyH.nil
        go_simp
        go_at_call 31
        refine (ZSub_any rcw7 _ _ X (((G / N : Nat) : Int) * Y) (K + 1 + (K + 1)) ie im (by omega) (bw HBD.out.1 (by omega)) LM.out).mono ?_
        rintro e rcw8 ⟨_, rfl, ⟨ss, xs, bs, rfl, hs, vs, ts⟩, grcw8⟩
        have is : IntV rcw8 (.agg #[.slice ss xs.length xs.length, .bool bs]) (X - ((G / N : Nat) : Int) * Y) := ⟨ss, xs, bs, rfl, hs, vs, ts⟩
        replace Bg := heap_kept grcw8 Bg
        replace Bh := heap_kept grcw8 Bh
        replace Be := heap_kept grcw8 Be
        replace Bj := heap_kept grcw8 Bj
        replace Bq := heap_kept grcw8 Bq
        replace ih := ih.kept grcw8
        replace ie := ie.kept grcw8
        replace ij := ij.kept grcw8
        replace iq := iq.kept grcw8
        replace ir := ir.kept grcw8
        replace im := im.kept grcw8
        replace hG := grown_trans hG grcw8
        replace hT := grown_trans hT grcw8
        clear grcw8
        clear hs vs ts
        (try go_wp2_with fail)
        refine hKQ.out _ _ (by exact ⟨(box_cells Bq).1, (box_cells Bq).2.1⟩) (fun hHeld => ?_)
        clear hKQ KQ
        try simp only [Act.put, List.getElem_toArray, List.getElem_cons_zero, List.getElem_cons_succ, List.setIfInBounds_toArray, List.set_cons_zero, List.set_cons_succ]
       rotate_left 1
       focus
        go_simp
        go_at_call 36
        refine (ZMul_any rcw6 _ _ ((G / N : Nat) : Int) Y (K + 1) iq ij (by omega) LQ.out HBD.out.2).mono ?_
        rintro e rcw7 ⟨_, rfl, ⟨sm, xm, bm, rfl, hm, vm, tm⟩, grcw7⟩
        have im : IntV rcw7 (.agg #[.slice sm xm.length xm.length, .bool bm]) (((G / N : Nat) : Int) * Y) := ⟨sm, xm, bm, rfl, hm, vm, tm⟩
        replace Bg := heap_kept grcw7 Bg
        replace Bh := heap_kept grcw7 Bh
        replace Be := heap_kept grcw7 Be
        replace Bj := heap_kept grcw7 Bj
        replace Bq := heap_kept grcw7 Bq
        replace ih := ih.kept grcw7
        replace ie := ie.kept grcw7
        replace ij := ij.kept grcw7
        replace iq := iq.kept grcw7
        replace ir := ir.kept grcw7
        replace hG := grown_trans hG grcw7
        replace hT := grown_trans hT grcw7
        clear grcw7
        clear hm vm tm
        (try go_wp2_with fail)
        refine hKQ.out _ _ (by exact ⟨(box_cells Bq).1, (box_cells Bq).2.1⟩) (fun hHeld => ?_)
        clear hKQ KQ
        try simp only [Act.put, List.getElem_toArray, List.getElem_cons_zero, List.getElem_cons_succ, List.setIfInBounds_toArray, List.set_cons_zero, List.set_cons_succ]
        refine wpAnyH_ready (rs := [0, 5]) (by kernel_rfl) (by simp) ?_
        refine AllReadyH.cons rfl (fun KQ hKQ => ?_) (AllReadyH.cons rfl (fun KQ hKQ => ?_) AllReadyH.nil)
        focus
         obtain ⟨c0', c1', c2', c3'⟩ := box_cells Bj
         go_simp
         refine hKQ.out _ _ (by exact ⟨(box_cells Bq).1, (box_cells Bq).2.1⟩) (fun hHeld => ?_)
         clear hKQ KQ
         try simp only [Act.put, List.getElem_toArray, List.getElem_cons_zero, List.getElem_cons_succ, List.setIfInBounds_toArray, List.set_cons_zero, List.set_cons_succ]
         refine wpAnyH_ready (rs := [5]) (by kernel_rfl) (by simp) ?_
         refine AllReadyH.cons rfl (fun KQ hKQ => ?_) AllReadyH.nil
         go_simp
         go_at_call 31
         refine (ZSub_any rcw7 _ _ X (((G / N : Nat) : Int) * Y) (K + 1 + (K + 1)) ie im (by omega) (bw HBD.out.1 (by omega)) LM.out).mono ?_
         rintro e rcw8 ⟨_, rfl, ⟨ss, xs, bs, rfl, hs, vs, ts⟩, grcw8⟩
         have is : IntV rcw8 (.agg #[.slice ss xs.length xs.length, .bool bs]) (X - ((G / N : Nat) : Int) * Y) := ⟨ss, xs, bs, rfl, hs, vs, ts⟩
         replace Bg := heap_kept grcw8 Bg
         replace Bh := heap_kept grcw8 Bh
         replace Be := heap_kept grcw8 Be
         replace Bj := heap_kept grcw8 Bj
         replace Bq := heap_kept grcw8 Bq
         replace ih := ih.kept grcw8
         replace ie := ie.kept grcw8
         replace ij := ij.kept grcw8
         replace iq := iq.kept grcw8
         replace ir := ir.kept grcw8
         replace im := im.kept grcw8
         replace hG := grown_trans hG grcw8
         replace hT := grown_trans hT grcw8
         clear grcw8
         clear hs vs ts
         (try go_wp2_with fail)
         refine hKQ.out _ _ (by exact ⟨(box_cells Bq).1, (box_cells Bq).2.1⟩) (fun hHeld => ?_)
         clear hKQ KQ
         try simp only [Act.put, List.getElem_toArray, List.getElem_cons_zero, List.getElem_cons_succ, List.setIfInBounds_toArray, List.set_cons_zero, List.set_cons_succ]
        rotate_left 1
        focus
         go_simp
         go_at_call 31
         refine (ZSub_any rcw7 _ _ X (((G / N : Nat) : Int) * Y) (K + 1 + (K + 1)) ie im (by omega) (bw HBD.out.1 (by omega)) LM.out).mono ?_
         rintro e rcw8 ⟨_, rfl, ⟨ss, xs, bs, rfl, hs, vs, ts⟩, grcw8⟩
         have is : IntV rcw8 (.agg #[.slice ss xs.length xs.length, .bool bs]) (X - ((G / N : Nat) : Int) * Y) := ⟨ss, xs, bs, rfl, hs, vs, ts⟩
         replace Bg := heap_kept grcw8 Bg
         replace Bh := heap_kept grcw8 Bh
         replace Be := heap_kept grcw8 Be
         replace Bj := heap_kept grcw8 Bj
         replace Bq := heap_kept grcw8 Bq
         replace ih := ih.kept grcw8
         replace ie := ie.kept grcw8
         replace ij := ij.kept grcw8
         replace iq := iq.kept grcw8
         replace ir := ir.kept grcw8
         replace im := im.kept grcw8
         replace hG := grown_trans hG grcw8
         replace hT := grown_trans hT grcw8
         clear grcw8
         clear hs vs ts
         (try go_wp2_with fail)
         refine hKQ.out _ _ (by exact ⟨(box_cells Bq).1, (box_cells Bq).2.1⟩) (fun hHeld => ?_)
         clear hKQ KQ
         try simp only [Act.put, List.getElem_toArray, List.getElem_cons_zero, List.getElem_cons_succ, List.setIfInBounds_toArray, List.set_cons_zero, List.set_cons_succ]
         refine wpAnyH_ready (rs := [0]) (by kernel_rfl) (by simp) ?_
         refine AllReadyH.cons rfl (fun KQ hKQ => ?_) AllReadyH.nil
         obtain ⟨c0', c1', c2', c3'⟩ := box_cells Bj
         go_simp
         refine hKQ.out _ _ (by exact ⟨(box_cells Bq).1, (box_cells Bq).2.1⟩) (fun hHeld => ?_)
         clear hKQ KQ
         try simp only [Act.put, List.getElem_toArray, List.getElem_cons_zero, List.getElem_cons_succ, List.setIfInBounds_toArray, List.set_cons_zero, List.set_cons_succ]
        rotate_left 1
       rotate_left 2
      rotate_left 3
     rotate_left 4
     focus
      obtain ⟨c0', c1', c2', c3'⟩ := box_cells Bj
      go_simp
      refine hKQ.out _ _ (by exact ⟨(box_cells Bq).1, (box_cells Bq).2.1⟩) (fun hHeld => ?_)
      clear hKQ KQ
      try simp only [Act.put, List.getElem_toArray, List.getElem_cons_zero, List.getElem_cons_succ, List.setIfInBounds_toArray, List.set_cons_zero, List.set_cons_succ]
      refine wpAnyH_ready (rs := [0, 1, 4]) (by kernel_rfl) (by simp) ?_
      refine AllReadyH.cons rfl (fun KQ hKQ => ?_) (AllReadyH.cons rfl (fun KQ hKQ => ?_) (AllReadyH.cons rfl (fun KQ hKQ => ?_) AllReadyH.nil))
      focus
       obtain ⟨c0', c1', c2', c3'⟩ := box_cells Bj
       go_simp
       refine hKQ.out _ _ (by exact ⟨(box_cells Bq).1, (box_cells Bq).2.1⟩) (fun hHeld => ?_)
       clear hKQ KQ
       try simp only [Act.put, List.getElem_toArray, List.getElem_cons_zero, List.getElem_cons_succ, List.setIfInBounds_toArray, List.set_cons_zero, List.set_cons_succ]
       refine wpAnyH_ready (rs := [1, 4]) (by kernel_rfl) (by simp) ?_
       refine AllReadyH.cons rfl (fun KQ hKQ => ?_) (AllReadyH.cons rfl (fun KQ hKQ => ?_) AllReadyH.nil)
       focus
        obtain ⟨c0', c1', c2', c3'⟩ := box_cells Be
        go_simp
        refine hKQ.out _ _ (by exact ⟨(box_cells Bq).1, (box_cells Bq).2.1⟩) (fun hHeld => ?_)
        clear hKQ KQ
        try simp only [Act.put, List.getElem_toArray, List.getElem_cons_zero, List.getElem_cons_succ, List.setIfInBounds_toArray, List.set_cons_zero, List.set_cons_succ]
        refine wpAnyH_ready (rs := [4]) (by kernel_rfl) (by simp) ?_
        refine AllReadyH.cons rfl (fun KQ hKQ => ?_) AllReadyH.nil
        go_simp
        go_at_call 36
        refine (ZMul_any rcw6 _ _ ((G / N : Nat) : Int) Y (K + 1) iq ij (by omega) LQ.out HBD.out.2).mono ?_
        rintro e rcw7 ⟨_, rfl, ⟨sm, xm, bm, rfl, hm, vm, tm⟩, grcw7⟩
        have im : IntV rcw7 (.agg #[.slice sm xm.length xm.length, .bool bm]) (((G / N : Nat) : Int) * Y) := ⟨sm, xm, bm, rfl, hm, vm, tm⟩
        replace Bg := heap_kept grcw7 Bg
        replace Bh := heap_kept grcw7 Bh
        replace Be := heap_kept grcw7 Be
        replace Bj := heap_kept grcw7 Bj
        replace Bq := heap_kept grcw7 Bq
        replace ih := ih.kept grcw7
        replace ie := ie.kept grcw7
        replace ij := ij.kept grcw7
        replace iq := iq.kept grcw7
        replace ir := ir.kept grcw7
        replace hG := grown_trans hG grcw7
        replace hT := grown_trans hT grcw7
        clear grcw7
        clear hm vm tm
        (try go_wp2_with fail)
        refine hKQ.out _ _ (by exact ⟨(box_cells Bq).1, (box_cells Bq).2.1⟩) (fun hHeld => ?_)
        clear hKQ KQ
        try simp only [Act.put, List.getElem_toArray, List.getElem_cons_zero, List.getElem_cons_succ, List.setIfInBounds_toArray, List.set_cons_zero, List.set_cons_succ]
        refine wpAnyH_ready (rs := [5]) (by kernel_rfl) (by simp) ?_
        refine AllReadyH.cons rfl (fun KQ hKQ => ?_) AllReadyH.nil
        go_simp
        go_at_call 31
        refine (ZSub_any rcw7 _ _ X (((G / N : Nat) : Int) * Y) (K + 1 + (K + 1)) ie im (by omega) (bw HBD.out.1 (by omega)) LM.out).mono ?_
        rintro e rcw8 ⟨_, rfl, ⟨ss, xs, bs, rfl, hs, vs, ts⟩, grcw8⟩
        have is : IntV rcw8 (.agg #[.slice ss xs.length xs.length, .bool bs]) (X - ((G / N : Nat) : Int) * Y) := ⟨ss, xs, bs, rfl, hs, vs, ts⟩
        replace Bg := heap_kept grcw8 Bg
        replace Bh := heap_kept grcw8 Bh
        replace Be := heap_kept grcw8 Be
        replace Bj := heap_kept grcw8 Bj
        replace Bq := heap_kept grcw8 Bq
        replace ih := ih.kept grcw8
        replace ie := ie.kept grcw8
        replace ij := ij.kept grcw8
        replace iq := iq.kept grcw8
        replace ir := ir.kept grcw8
        replace im := im.kept grcw8
        replace hG := grown_trans hG grcw8
        replace hT := grown_trans hT grcw8
        clear grcw8
        clear hs vs ts
        (try go_wp2_with fail)
        refine hKQ.out _ _ (by exact ⟨(box_cells Bq).1, (box_cells Bq).2.1⟩) (fun hHeld => ?_)
        clear hKQ KQ
        try simp only [Act.put, List.getElem_toArray, List.getElem_cons_zero, List.getElem_cons_succ, List.setIfInBounds_toArray, List.set_cons_zero, List.set_cons_succ]
       rotate_left 1
       focus
        go_simp
        go_at_call 36
        refine (ZMul_any rcw6 _ _ ((G / N : Nat) : Int) Y (K + 1) iq ij (by omega) LQ.out HBD.out.2).mono ?_
        rintro e rcw7 ⟨_, rfl, ⟨sm, xm, bm, rfl, hm, vm, tm⟩, grcw7⟩
        have im : IntV rcw7 (.agg #[.slice sm xm.length xm.length, .bool bm]) (((G / N : Nat) : Int) * Y) := ⟨sm, xm, bm, rfl, hm, vm, tm⟩
        replace Bg := heap_kept grcw7 Bg
        replace Bh := heap_kept grcw7 Bh
        replace Be := heap_kept grcw7 Be
        replace Bj := heap_kept grcw7 Bj
        replace Bq := heap_kept grcw7 Bq
        replace ih := ih.kept grcw7
        replace ie := ie.kept grcw7
        replace ij := ij.kept grcw7
        replace iq := iq.kept grcw7
        replace ir := ir.kept grcw7
        replace hG := grown_trans hG grcw7
        replace hT := grown_trans hT grcw7
        clear grcw7
        clear hm vm tm
        (try go_wp2_with fail)
        refine hKQ.out _ _ (by exact ⟨(box_cells Bq).1, (box_cells Bq).2.1⟩) (fun hHeld => ?_)
        clear hKQ KQ
        try simp only [Act.put, List.getElem_toArray, List.getElem_cons_zero, List.getElem_cons_succ, List.setIfInBounds_toArray, List.set_cons_zero, List.set_cons_succ]
        refine wpAnyH_ready (rs := [1]) (by kernel_rfl) (by simp) ?_
        refine AllReadyH.cons rfl (fun KQ hKQ => ?_) AllReadyH.nil
        obtain ⟨c0', c1', c2', c3'⟩ := box_cells Be
        go_simp
        refine hKQ.out _ _ (by exact ⟨(box_cells Bq).1, (box_cells Bq).2.1⟩) (fun hHeld => ?_)
        clear hKQ KQ
        try simp only [Act.put, List.getElem_toArray, List.getElem_cons_zero, List.getElem_cons_succ, List.setIfInBounds_toArray, List.set_cons_zero, List.set_cons_succ]
        refine wpAnyH_ready (rs := [5]) (by kernel_rfl) (by simp) ?_
        refine AllReadyH.cons rfl (fun KQ hKQ => ?_) AllReadyH.nil
        go_simp
        go_at_call 31
        refine (ZSub_any rcw7 _ _ X (((G / N : Nat) : Int) * Y) (K + 1 + (K + 1)) ie im (by omega) (bw HBD.out.1 (by omega)) LM.out).mono ?_
        rintro e rcw8 ⟨_, rfl, ⟨ss, xs, bs, rfl, hs, vs, ts⟩, grcw8⟩
        have is : IntV rcw8 (.agg #[.slice ss xs.length xs.length, .bool bs]) (X - ((G / N : Nat) : Int) * Y) := ⟨ss, xs, bs, rfl, hs, vs, ts⟩
        replace Bg := heap_kept grcw8 Bg
        replace Bh := heap_kept grcw8 Bh
        replace Be := heap_kept grcw8 Be
        replace Bj := heap_kept grcw8 Bj
        replace Bq := heap_kept grcw8 Bq
        replace ih := ih.kept grcw8
        replace ie := ie.kept grcw8
        replace ij := ij.kept grcw8
        replace iq := iq.kept grcw8
        replace ir := ir.kept grcw8
        replace im := im.kept grcw8
        replace hG := grown_trans hG grcw8
        replace hT := grown_trans hT grcw8
        clear grcw8
        clear hs vs ts
        (try go_wp2_with fail)
        refine hKQ.out _ _ (by exact ⟨(box_cells Bq).1, (box_cells Bq).2.1⟩) (fun hHeld => ?_)
        clear hKQ KQ
        try simp only [Act.put, List.getElem_toArray, List.getElem_cons_zero, List.getElem_cons_succ, List.setIfInBounds_toArray, List.set_cons_zero, List.set_cons_succ]
       rotate_left 1
      rotate_left 2
      focus
       obtain ⟨c0', c1', c2', c3'⟩ := box_cells Be
       go_simp
       refine hKQ.out _ _ (by exact ⟨(box_cells Bq).1, (box_cells Bq).2.1⟩) (fun hHeld => ?_)
       clear hKQ KQ
       try simp only [Act.put, List.getElem_toArray, List.getElem_cons_zero, List.getElem_cons_succ, List.setIfInBounds_toArray, List.set_cons_zero, List.set_cons_succ]
       refine wpAnyH_ready (rs := [0, 4]) (by kernel_rfl) (by simp) ?_
       refine AllReadyH.cons rfl (fun KQ hKQ => ?_) (AllReadyH.cons rfl (fun KQ hKQ => ?_) AllReadyH.nil)
       focus
        obtain ⟨c0', c1', c2', c3'⟩ := box_cells Bj
        go_simp
        refine hKQ.out _ _ (by exact ⟨(box_cells Bq).1, (box_cells Bq).2.1⟩) (fun hHeld => ?_)
        clear hKQ KQ
        try simp only [Act.put, List.getElem_toArray, List.getElem_cons_zero, List.getElem_cons_succ, List.setIfInBounds_toArray, List.set_cons_zero, List.set_cons_succ]
        refine wpAnyH_ready (rs := [4]) (by kernel_rfl) (by simp) ?_
        refine AllReadyH.cons rfl (fun KQ hKQ => ?_) AllReadyH.nil
        go_simp
        go_at_call 36
        refine (ZMul_any rcw6 _ _ ((G / N : Nat) : Int) Y (K + 1) iq ij (by omega) LQ.out HBD.out.2).mono ?_
        rintro e rcw7 ⟨_, rfl, ⟨sm, xm, bm, rfl, hm, vm, tm⟩, grcw7⟩
        have im : IntV rcw7 (.agg #[.slice sm xm.length xm.length, .bool bm]) (((G / N : Nat) : Int) * Y) := ⟨sm, xm, bm, rfl, hm, vm, tm⟩
        replace Bg := heap_kept grcw7 Bg
        replace Bh := heap_kept grcw7 Bh
        replace Be := heap_kept grcw7 Be
        replace Bj := heap_kept grcw7 Bj
        replace Bq := heap_kept grcw7 Bq
        replace ih := ih.kept grcw7
        replace ie := ie.kept grcw7
        replace ij := ij.kept grcw7
        replace iq := iq.kept grcw7
        replace ir := ir.kept grcw7
        replace hG := grown_trans hG grcw7
        replace hT := grown_trans hT grcw7
        clear grcw7
        clear hm vm tm
        (try go_wp2_with fail)
        refine hKQ.out _ _ (by exact ⟨(box_cells Bq).1, (box_cells Bq).2.1⟩) (fun hHeld => ?_)
        clear hKQ KQ
        try simp only [Act.put, List.getElem_toArray, List.getElem_cons_zero, List.getElem_cons_succ, List.setIfInBounds_toArray, List.set_cons_zero, List.set_cons_succ]
        refine wpAnyH_ready (rs := [5]) (by kernel_rfl) (by simp) ?_
        refine AllReadyH.cons rfl (fun KQ hKQ => ?_) AllReadyH.nil
        go_simp
        go_at_call 31
        refine (ZSub_any rcw7 _ _ X (((G / N : Nat) : Int) * Y) (K + 1 + (K + 1)) ie im (by omega) (bw HBD.out.1 (by omega)) LM.out).mono ?_
        rintro e rcw8 ⟨_, rfl, ⟨ss, xs, bs, rfl, hs, vs, ts⟩, grcw8⟩
        have is : IntV rcw8 (.agg #[.slice ss xs.length xs.length, .bool bs]) (X - ((G / N : Nat) : Int) * Y) := ⟨ss, xs, bs, rfl, hs, vs, ts⟩
        replace Bg := heap_kept grcw8 Bg
        replace Bh := heap_kept grcw8 Bh
        replace Be := heap_kept grcw8 Be
        replace Bj := heap_kept grcw8 Bj
        replace Bq := heap_kept grcw8 Bq
        replace ih := ih.kept grcw8
        replace ie := ie.kept grcw8
        replace ij := ij.kept grcw8
        replace iq := iq.kept grcw8
        replace ir := ir.kept grcw8
        replace im := im.kept grcw8
        replace hG := grown_trans hG grcw8
        replace hT := grown_trans hT grcw8
        clear grcw8
        clear hs vs ts
        (try go_wp2_with fail)
        refine hKQ.out _ _ (by exact ⟨(box_cells Bq).1, (box_cells Bq).2.1⟩) (fun hHeld => ?_)
        clear hKQ KQ
        try simp only [Act.put, List.getElem_toArray, List.getElem_cons_zero, List.getElem_cons_succ, List.setIfInBounds_toArray, List.set_cons_zero, List.set_cons_succ]
       rotate_left 1
       focus
        go_simp
        go_at_call 36
        refine (ZMul_any rcw6 _ _ ((G / N : Nat) : Int) Y (K + 1) iq ij (by omega) LQ.out HBD.out.2).mono ?_
        rintro e rcw7 ⟨_, rfl, ⟨sm, xm, bm, rfl, hm, vm, tm⟩, grcw7⟩
        have im : IntV rcw7 (.agg #[.slice sm xm.length xm.length, .bool bm]) (((G / N : Nat) : Int) * Y) := ⟨sm, xm, bm, rfl, hm, vm, tm⟩
        replace Bg := heap_kept grcw7 Bg
        replace Bh := heap_kept grcw7 Bh
        replace Be := heap_kept grcw7 Be
        replace Bj := heap_kept grcw7 Bj
        replace Bq := heap_kept grcw7 Bq
        replace ih := ih.kept grcw7
        replace ie := ie.kept grcw7
        replace ij := ij.kept grcw7
        replace iq := iq.kept grcw7
        replace ir := ir.kept grcw7
        replace hG := grown_trans hG grcw7
        replace hT := grown_trans hT grcw7
        clear grcw7
        clear hm vm tm
        (try go_wp2_with fail)
        refine hKQ.out _ _ (by exact ⟨(box_cells Bq).1, (box_cells Bq).2.1⟩) (fun hHeld => ?_)
        clear hKQ KQ
        try simp only [Act.put, List.getElem_toArray, List.getElem_cons_zero, List.getElem_cons_succ, List.setIfInBounds_toArray, List.set_cons_zero, List.set_cons_succ]
        refine wpAnyH_ready (rs := [0, 5]) (by kernel_rfl) (by simp) ?_
        refine AllReadyH.cons rfl (fun KQ hKQ => ?_) (AllReadyH.cons rfl (fun KQ hKQ => ?_) AllReadyH.nil)
        focus
         obtain ⟨c0', c1', c2', c3'⟩ := box_cells Bj
         go_simp
         refine hKQ.out _ _ (by exact ⟨(box_cells Bq).1, (box_cells Bq).2.1⟩) (fun hHeld => ?_)
         clear hKQ KQ
         try simp only [Act.put, List.getElem_toArray, List.getElem_cons_zero, List.getElem_cons_succ, List.setIfInBounds_toArray, List.set_cons_zero, List.set_cons_succ]
         refine wpAnyH_ready (rs := [5]) (by kernel_rfl) (by simp) ?_
         refine AllReadyH.cons rfl (fun KQ hKQ => ?_) AllReadyH.nil
         go_simp
         go_at_call 31
         refine (ZSub_any rcw7 _ _ X (((G / N : Nat) : Int) * Y) (K + 1 + (K + 1)) ie im (by omega) (bw HBD.out.1 (by omega)) LM.out).mono ?_
         rintro e rcw8 ⟨_, rfl, ⟨ss, xs, bs, rfl, hs, vs, ts⟩, grcw8⟩
         have is : IntV rcw8 (.agg #[.slice ss xs.length xs.length, .bool bs]) (X - ((G / N : Nat) : Int) * Y) := ⟨ss, xs, bs, rfl, hs, vs, ts⟩
         replace Bg := heap_kept grcw8 Bg
         replace Bh := heap_kept grcw8 Bh
         replace Be := heap_kept grcw8 Be
         replace Bj := heap_kept grcw8 Bj
         replace Bq := heap_kept grcw8 Bq
         replace ih := ih.kept grcw8
         replace ie := ie.kept grcw8
         replace ij := ij.kept grcw8
         replace iq := iq.kept grcw8
         replace ir := ir.kept grcw8
         replace im := im.kept grcw8
         replace hG := grown_trans hG grcw8
         replace hT := grown_trans hT grcw8
         clear grcw8
         clear hs vs ts
         (try go_wp2_with fail)
         refine hKQ.out _ _ (by exact ⟨(box_cells Bq).1, (box_cells Bq).2.1⟩) (fun hHeld => ?_)
         clear hKQ KQ
         try simp only [Act.put, List.getElem_toArray, List.getElem_cons_zero, List.getElem_cons_succ, List.setIfInBounds_toArray, List.set_cons_zero, List.set_cons_succ]
        rotate_left 1
        focus
         go_simp
         go_at_call 31
         refine (ZSub_any rcw7 _ _ X (((G / N : Nat) : Int) * Y) (K + 1 + (K + 1)) ie im (by omega) (bw HBD.out.1 (by omega)) LM.out).mono ?_
         rintro e rcw8 ⟨_, rfl, ⟨ss, xs, bs, rfl, hs, vs, ts⟩, grcw8⟩
         have is : IntV rcw8 (.agg #[.slice ss xs.length xs.length, .bool bs]) (X - ((G / N : Nat) : Int) * Y) := ⟨ss, xs, bs, rfl, hs, vs, ts⟩
         replace Bg := heap_kept grcw8 Bg
         replace Bh := heap_kept grcw8 Bh
         replace Be := heap_kept grcw8 Be
         replace Bj := heap_kept grcw8 Bj
         replace Bq := heap_kept grcw8 Bq
         replace ih := ih.kept grcw8
         replace ie := ie.kept grcw8
         replace ij := ij.kept grcw8
         replace iq := iq.kept grcw8
         replace ir := ir.kept grcw8
         replace im := im.kept grcw8
         replace hG := grown_trans hG grcw8
         replace hT := grown_trans hT grcw8
         clear grcw8
         clear hs vs ts
         (try go_wp2_with fail)
         refine hKQ.out _ _ (by exact ⟨(box_cells Bq).1, (box_cells Bq).2.1⟩) (fun hHeld => ?_)
         clear hKQ KQ
         try simp only [Act.put, List.getElem_toArray, List.getElem_cons_zero, List.getElem_cons_succ, List.setIfInBounds_toArray, List.set_cons_zero, List.set_cons_succ]
         refine wpAnyH_ready (rs := [0]) (by kernel_rfl) (by simp) ?_
         refine AllReadyH.cons rfl (fun KQ hKQ => ?_) AllReadyH.nil
         obtain ⟨c0', c1', c2', c3'⟩ := box_cells Bj
         go_simp
         refine hKQ.out _ _ (by exact ⟨(box_cells Bq).1, (box_cells Bq).2.1⟩) (fun hHeld => ?_)
         clear hKQ KQ
         try simp only [Act.put, List.getElem_toArray, List.getElem_cons_zero, List.getElem_cons_succ, List.setIfInBounds_toArray, List.set_cons_zero, List.set_cons_succ]
        rotate_left 1
       rotate_left 2
      rotate_left 3
      focus
       go_simp
       go_at_call 36
       refine (ZMul_any rcw6 _ _ ((G / N : Nat) : Int) Y (K + 1) iq ij (by omega) LQ.out HBD.out.2).mono ?_
       rintro e rcw7 ⟨_, rfl, ⟨sm, xm, bm, rfl, hm, vm, tm⟩, grcw7⟩
       have im : IntV rcw7 (.agg #[.slice sm xm.length xm.length, .bool bm]) (((G / N : Nat) : Int) * Y) := ⟨sm, xm, bm, rfl, hm, vm, tm⟩
       replace Bg := heap_kept grcw7 Bg
       replace Bh := heap_kept grcw7 Bh
       replace Be := heap_kept grcw7 Be
       replace Bj := heap_kept grcw7 Bj
       replace Bq := heap_kept grcw7 Bq
       replace ih := ih.kept grcw7
       replace ie := ie.kept grcw7
       replace ij := ij.kept grcw7
       replace iq := iq.kept grcw7
       replace ir := ir.kept grcw7
       replace hG := grown_trans hG grcw7
       replace hT := grown_trans hT grcw7
       clear grcw7
       clear hm vm tm
       (try go_wp2_with fail)
       refine hKQ.out _ _ (by exact ⟨(box_cells Bq).1, (box_cells Bq).2.1⟩) (fun hHeld => ?_)
       clear hKQ KQ
       try simp only [Act.put, List.getElem_toArray, List.getElem_cons_zero, List.getElem_cons_succ, List.setIfInBounds_toArray, List.set_cons_zero, List.set_cons_succ]
       refine wpAnyH_ready (rs := [0, 1]) (by kernel_rfl) (by simp) ?_
       refine AllReadyH.cons rfl (fun KQ hKQ => ?_) (AllReadyH.cons rfl (fun KQ hKQ => ?_) AllReadyH.nil)
       focus
        obtain ⟨c0', c1', c2', c3'⟩ := box_cells Bj
        go_simp
        refine hKQ.out _ _ (by exact ⟨(box_cells Bq).1, (box_cells Bq).2.1⟩) (fun hHeld => ?_)
        clear hKQ KQ
        try simp only [Act.put, List.getElem_toArray, List.getElem_cons_zero, List.getElem_cons_succ, List.setIfInBounds_toArray, List.set_cons_zero, List.set_cons_succ]
        refine wpAnyH_ready (rs := [1]) (by kernel_rfl) (by simp) ?_
        refine AllReadyH.cons rfl (fun KQ hKQ => ?_) AllReadyH.nil
        obtain ⟨c0', c1', c2', c3'⟩ := box_cells Be
        go_simp
        refine hKQ.out _ _ (by exact ⟨(box_cells Bq).1, (box_cells Bq).2.1⟩) (fun hHeld => ?_)
        clear hKQ KQ
        try simp only [Act.put, List.getElem_toArray, List.getElem_cons_zero, List.getElem_cons_succ, List.setIfInBounds_toArray, List.set_cons_zero, List.set_cons_succ]
        refine wpAnyH_ready (rs := [5]) (by kernel_rfl) (by simp) ?_
        refine AllReadyH.cons rfl (fun KQ hKQ => ?_) AllReadyH.nil
        go_simp
        go_at_call 31
        refine (ZSub_any rcw7 _ _ X (((G / N : Nat) : Int) * Y) (K + 1 + (K + 1)) ie im (by omega) (bw HBD.out.1 (by omega)) LM.out).mono ?_
        rintro e rcw8 ⟨_, rfl, ⟨ss, xs, bs, rfl, hs, vs, ts⟩, grcw8⟩
        have is : IntV rcw8 (.agg #[.slice ss xs.length xs.length, .bool bs]) (X - ((G / N : Nat) : Int) * Y) := ⟨ss, xs, bs, rfl, hs, vs, ts⟩
        replace Bg := heap_kept grcw8 Bg
        replace Bh := heap_kept grcw8 Bh
        replace Be := heap_kept grcw8 Be
        replace Bj := heap_kept grcw8 Bj
        replace Bq := heap_kept grcw8 Bq
        replace ih := ih.kept grcw8
        replace ie := ie.kept grcw8
        replace ij := ij.kept grcw8
        replace iq := iq.kept grcw8
        replace ir := ir.kept grcw8
        replace im := im.kept grcw8
        replace hG := grown_trans hG grcw8
        replace hT := grown_trans hT grcw8
        clear grcw8
        clear hs vs ts
        (try go_wp2_with fail)
        refine hKQ.out _ _ (by exact ⟨(box_cells Bq).1, (box_cells Bq).2.1⟩) (fun hHeld => ?_)
        clear hKQ KQ
        try simp only [Act.put, List.getElem_toArray, List.getElem_cons_zero, List.getElem_cons_succ, List.setIfInBounds_toArray, List.set_cons_zero, List.set_cons_succ]
       rotate_left 1
       focus
        obtain ⟨c0', c1', c2', c3'⟩ := box_cells Be
        go_simp
        refine hKQ.out _ _ (by exact ⟨(box_cells Bq).1, (box_cells Bq).2.1⟩) (fun hHeld => ?_)
        clear hKQ KQ
        try simp only [Act.put, List.getElem_toArray, List.getElem_cons_zero, List.getElem_cons_succ, List.setIfInBounds_toArray, List.set_cons_zero, List.set_cons_succ]
        refine wpAnyH_ready (rs := [0, 5]) (by kernel_rfl) (by simp) ?_
        refine AllReadyH.cons rfl (fun KQ hKQ => ?_) (AllReadyH.cons rfl (fun KQ hKQ => ?_) AllReadyH.nil)
        focus
         obtain ⟨c0', c1', c2', c3'⟩ := box_cells Bj
         go_simp
         refine hKQ.out _ _ (by exact ⟨(box_cells Bq).1, (box_cells Bq).2.1⟩) (fun hHeld => ?_)
         clear hKQ KQ
         try simp only [Act.put, List.getElem_toArray, List.getElem_cons_zero, List.getElem_cons_succ, List.setIfInBounds_toArray, List.set_cons_zero, List.set_cons_succ]
         refine wpAnyH_ready (rs := [5]) (by kernel_rfl) (by simp) ?_
         refine AllReadyH.cons rfl (fun KQ hKQ => ?_) AllReadyH.nil
         go_simp
         go_at_call 31
         refine (ZSub_any rcw7 _ _ X (((G / N : Nat) : Int) * Y) (K + 1 + (K + 1)) ie im (by omega) (bw HBD.out.1 (by omega)) LM.out).mono ?_
         rintro e rcw8 ⟨_, rfl, ⟨ss, xs, bs, rfl, hs, vs, ts⟩, grcw8⟩
         have is : IntV rcw8 (.agg #[.slice ss xs.length xs.length, .bool bs]) (X - ((G / N : Nat) : Int) * Y) := ⟨ss, xs, bs, rfl, hs, vs, ts⟩
         replace Bg := heap_kept grcw8 Bg
         replace Bh := heap_kept grcw8 Bh
         replace Be := heap_kept grcw8 Be
         replace Bj := heap_kept grcw8 Bj
         replace Bq := heap_kept grcw8 Bq
         replace ih := ih.kept grcw8
         replace ie := ie.kept grcw8
         replace ij := ij.kept grcw8
         replace iq := iq.kept grcw8
         replace ir := ir.kept grcw8
         replace im := im.kept grcw8
         replace hG := grown_trans hG grcw8
         replace hT := grown_trans hT grcw8
         clear grcw8
         clear hs vs ts
         (try go_wp2_with fail)
         refine hKQ.out _ _ (by exact ⟨(box_cells Bq).1, (box_cells Bq).2.1⟩) (fun hHeld => ?_)
         clear hKQ KQ
         try simp only [Act.put, List.getElem_toArray, List.getElem_cons_zero, List.getElem_cons_succ, List.setIfInBounds_toArray, List.set_cons_zero, List.set_cons_succ]
        rotate_left 1
        focus
         go_simp
         go_at_call 31
         refine (ZSub_any rcw7 _ _ X (((G / N : Nat) : Int) * Y) (K + 1 + (K + 1)) ie im (by omega) (bw HBD.out.1 (by omega)) LM.out).mono ?_
         rintro e rcw8 ⟨_, rfl, ⟨ss, xs, bs, rfl, hs, vs, ts⟩, grcw8⟩
         have is : IntV rcw8 (.agg #[.slice ss xs.length xs.length, .bool bs]) (X - ((G / N : Nat) : Int) * Y) := ⟨ss, xs, bs, rfl, hs, vs, ts⟩
         replace Bg := heap_kept grcw8 Bg
         replace Bh := heap_kept grcw8 Bh
         replace Be := heap_kept grcw8 Be
         replace Bj := heap_kept grcw8 Bj
         replace Bq := heap_kept grcw8 Bq
         replace ih := ih.kept grcw8
         replace ie := ie.kept grcw8
         replace ij := ij.kept grcw8
         replace iq := iq.kept grcw8
         replace ir := ir.kept grcw8
         replace im := im.kept grcw8
         replace hG := grown_trans hG grcw8
         replace hT := grown_trans hT grcw8
         clear grcw8
         clear hs vs ts
         (try go_wp2_with fail)
         refine hKQ.out _ _ (by exact ⟨(box_cells Bq).1, (box_cells Bq).2.1⟩) (fun hHeld => ?_)
         clear hKQ KQ
         try simp only [Act.put, List.getElem_toArray, List.getElem_cons_zero, List.getElem_cons_succ, List.setIfInBounds_toArray, List.set_cons_zero, List.set_cons_succ]
         refine wpAnyH_ready (rs := [0]) (by kernel_rfl) (by simp) ?_
         refine AllReadyH.cons rfl (fun KQ hKQ => ?_) AllReadyH.nil
         obtain ⟨c0', c1', c2', c3'⟩ := box_cells Bj
         go_simp
         refine hKQ.out _ _ (by exact ⟨(box_cells Bq).1, (box_cells Bq).2.1⟩) (fun hHeld => ?_)
         clear hKQ KQ
         try simp only [Act.put, List.getElem_toArray, List.getElem_cons_zero, List.getElem_cons_succ, List.setIfInBounds_toArray, List.set_cons_zero, List.set_cons_succ]
        rotate_left 1
       rotate_left 2
      rotate_left 3
     rotate_left 8
     all_goals (
      refine wpAnyH_ready (rs := [6]) (by kernel_rfl) (by simp) ?_
      refine AllReadyH.cons rfl (fun KQ hKQ => ?_) AllReadyH.nil
      obtain ⟨c0', c1', c2', c3'⟩ := box_cells Be
      go_simp
      clear c0' c1' c2' c3'
      replace ih := ih.set2 Be (.slice sj xj.length xj.length) (.bool bj)
      replace ie := ie.set2 Be (.slice sj xj.length xj.length) (.bool bj)
      replace ij := ij.set2 Be (.slice sj xj.length xj.length) (.bool bj)
      replace iq := iq.set2 Be (.slice sj xj.length xj.length) (.bool bj)
      replace ir := ir.set2 Be (.slice sj xj.length xj.length) (.bool bj)
      replace im := im.set2 Be (.slice sj xj.length xj.length) (.bool bj)
      replace is := is.set2 Be (.slice sj xj.length xj.length) (.bool bj)
      replace hG := grown_set2 (g := aw1) hG (by omega) (.slice sj xj.length xj.length) (.bool bj)
      replace hT := grown_set2 (g := aw1) hT (by omega) (.slice sj xj.length xj.length) (.bool bj)
      replace Bg := heap_unset2 Bg (show pg ≠ aw1 by omega) (.slice sj xj.length xj.length) (.bool bj)
      replace Bh := heap_unset2 Bh (show ph ≠ aw1 by omega) (.slice sj xj.length xj.length) (.bool bj)
      replace Bj := heap_unset2 Bj (show aw1 + 1 ≠ aw1 by omega) (.slice sj xj.length xj.length) (.bool bj)
      replace Bq := heap_unset2 Bq (show arw4 ≠ aw1 by omega) (.slice sj xj.length xj.length) (.bool bj)
      replace Be := heap_set2 Be (.slice sj xj.length xj.length) (.bool bj)
      generalize ((rcw8.setCell ⟨aw1, 0, none⟩ (.slice sj xj.length xj.length)).setCell ⟨aw1, 1, none⟩ (.bool bj)) = rcw9 at *
      refine hKQ.out _ _ (by exact ⟨(box_cells Bq).1, (box_cells Bq).2.1⟩) (fun hHeld => ?_)
      clear hKQ KQ
      try simp only [Act.put, List.getElem_toArray, List.getElem_cons_zero, List.getElem_cons_succ, List.setIfInBounds_toArray, List.set_cons_zero, List.set_cons_succ]
      refine wpAnyH_ready (rs := [7]) (by kernel_rfl) (by simp) ?_
      refine AllReadyH.cons rfl (fun KQ hKQ => ?_) AllReadyH.nil
      obtain ⟨c0', c1', c2', c3'⟩ := box_cells Bj
      go_simp
      clear c0' c1' c2' c3'
      replace ih := ih.set2 Bj (.slice ss xs.length xs.length) (.bool bs)
      replace ie := ie.set2 Bj (.slice ss xs.length xs.length) (.bool bs)
      replace ij := ij.set2 Bj (.slice ss xs.length xs.length) (.bool bs)
      replace iq := iq.set2 Bj (.slice ss xs.length xs.length) (.bool bs)
      replace ir := ir.set2 Bj (.slice ss xs.length xs.length) (.bool bs)
      replace im := im.set2 Bj (.slice ss xs.length xs.length) (.bool bs)
      replace is := is.set2 Bj (.slice ss xs.length xs.length) (.bool bs)
      replace hG := grown_set2 (g := aw1 + 1) hG (by omega) (.slice ss xs.length xs.length) (.bool bs)
      replace hT := grown_set2 (g := aw1 + 1) hT (by omega) (.slice ss xs.length xs.length) (.bool bs)
      replace Bg := heap_unset2 Bg (show pg ≠ aw1 + 1 by omega) (.slice ss xs.length xs.length) (.bool bs)
      replace Bh := heap_unset2 Bh (show ph ≠ aw1 + 1 by omega) (.slice ss xs.length xs.length) (.bool bs)
      replace Be := heap_unset2 Be (show aw1 ≠ aw1 + 1 by omega) (.slice ss xs.length xs.length) (.bool bs)
      replace Bq := heap_unset2 Bq (show arw4 ≠ aw1 + 1 by omega) (.slice ss xs.length xs.length) (.bool bs)
      replace Bj := heap_set2 Bj (.slice ss xs.length xs.length) (.bool bs)
      generalize ((rcw9.setCell ⟨aw1 + 1, 0, none⟩ (.slice ss xs.length xs.length)).setCell ⟨aw1 + 1, 1, none⟩ (.bool bs)) = rcw10 at *
      refine hKQ.out _ _ (by exact ⟨(box_cells Bq).1, (box_cells Bq).2.1⟩) (fun hHeld => ?_)
      clear hKQ KQ
      try simp only [Act.put, List.getElem_toArray, List.getElem_cons_zero, List.getElem_cons_succ, List.setIfInBounds_toArray, List.set_cons_zero, List.set_cons_succ]
      refine wpAnyH_done (by kernel_rfl) ?_ _
      go_wp2_with fail
      go_roundg (G % N)
      case measure => have := HML.out; omega
      case rel => exact ⟨N, G % N, Y, X - ((G / N : Nat) : Int) * Y, Q, P - ((G / N : Nat) : Int) * Q, Nat.le_refl _, HGN.out, ⟨HB.out.2, Nat.lt_trans HML.out HB.out.2⟩, ⟨_, _, Bg, ih⟩, ⟨_, _, Bh, ir⟩, ⟨_, _, Be, ij⟩, ⟨_, _, Bj, is⟩, hT⟩)
    ·
     obtain rfl : N = 0 := by omega
     clear hN
     obtain ⟨hg1, hg2⟩ := HI.out.end_good
     have HG1 := Lib.hid hg1
     have HG2 := Lib.hid hg2
     clear hg1 hg2
     go_wp2_with fail
     clear Ca0 Fa0 Ca1 Fa1 Cb0 Fb0 Cb1 Fb1 Cu0 Fu0 Cu1 Fu1 Cv0 Fv0 Cv1 Fv1 Ct0 Ft0 Ct1 Ft1 Cg0 Fg0 Cg1 Fg1 Ch0 Fh0 Ch1 Fh1 Ce0 Fe0 Ce1 Fe1 Cj0 Fj0 Cj1 Fj1
     refine (Sign_any wr _ ((0 : Nat) : Int) (K + 1) ih (by omega) (Nat.pow_pos B_pos)).mono ?_
     rintro e ew3 ⟨rfl, gew3⟩
     rw [show ((0 : Nat) : Int).sign = 0 from rfl]
     replace Ba := heap_kept gew3 Ba
     replace Bb := heap_kept gew3 Bb
     replace Bu := heap_kept gew3 Bu
     replace Bv := heap_kept gew3 Bv
     replace Bt := heap_kept gew3 Bt
     replace Bg := heap_kept gew3 Bg
     replace Bh := heap_kept gew3 Bh
     replace Be := heap_kept gew3 Be
     replace Bj := heap_kept gew3 Bj
     replace ia := ia.kept gew3
     replace ib := ib.kept gew3
     replace ig := ig.kept gew3
     replace ih := ih.kept gew3
     replace ie := ie.kept gew3
     replace ij := ij.kept gew3
     replace hG := grown_trans hG gew3
     replace hT := grown_trans hT gew3
     clear gew3
     obtain ⟨Ca0, Ca1, Fa0, Fa1⟩ := box_cells Ba
     obtain ⟨Cb0, Cb1, Fb0, Fb1⟩ := box_cells Bb
     obtain ⟨Cu0, Cu1, Fu0, Fu1⟩ := box_cells Bu
     obtain ⟨Cv0, Cv1, Fv0, Fv1⟩ := box_cells Bv
     obtain ⟨Ct0, Ct1, Ft0, Ft1⟩ := box_cells Bt
     obtain ⟨Cg0, Cg1, Fg0, Fg1⟩ := box_cells Bg
     obtain ⟨Ch0, Ch1, Fh0, Fh1⟩ := box_cells Bh
     obtain ⟨Ce0, Ce1, Fe0, Fe1⟩ := box_cells Be
     obtain ⟨Cj0, Cj1, Fj0, Fj1⟩ := box_cells Bj
     go_wp2_with fail
     obtain ⟨sgn, hsg⟩ : ∃ k, x.sign = k := ⟨_, rfl⟩
     have HSG := Lib.hid hsg
     have hsb := sign_bd x
     rw [hsg] at hsb
     have HSB := Lib.hid hsb
     have lsg : Hid (sgn.natAbs < B ^ (K + 1)) := Lib.hid (Nat.lt_of_le_of_lt (show sgn.natAbs ≤ 1 by omega) l1.out)
     clear hsg hsb
     go_cut [] (fun wx => BoxI wx pg (G : Int) ∧ BoxI wx (aw1) (X * sgn) ∧ w0.grownBy wx none)
     case first =>
      clear Ca0 Fa0 Ca1 Fa1 Cb0 Fb0 Cb1 Fb1 Cu0 Fu0 Cu1 Fu1 Cv0 Fv0 Cv1 Fv1 Ct0 Ft0 Ct1 Ft1 Cg0 Fg0 Cg1 Fg1 Ch0 Fh0 Ch1 Fh1 Ce0 Fe0 Ce1 Fe1 Cj0 Fj0 Cj1 Fj1
      clear Bb Bu Bv Bt Bh Bj
      clear ib ih ij
      obtain ⟨Ca0, Ca1, Fa0, Fa1⟩ := box_cells Ba
      refine wp_region_held_drew (S := fun w' => w'.cell? ⟨w.heap.size, 0, none⟩ = some (.slice sa xa.length xa.length) ∧ w'.cell? ⟨w.heap.size, 1, none⟩ = some (.bool ba)) (by kernel_rfl) (by exact ⟨Ca0, Ca1⟩) (fun hHeld => ?_)
      have gd : ew3.grownBy ew3.drew none := grown_drew (grown_refl _ _)
      clear Ca0 Fa0 Ca1 Fa1
      replace Ba := heap_kept gd Ba
      replace Bg := heap_kept gd Bg
      replace Be := heap_kept gd Be
      replace ia := ia.kept gd
      replace ig := ig.kept gd
      replace ie := ie.kept gd
      replace hG := grown_trans hG gd
      replace hT := grown_trans hT gd
      clear gd
      generalize ew3.drew = edw4 at *
      refine wpAnyH_take (i := 1) (v := ?_) rfl (by kernel_rfl) (by kernel_rfl) (by kernel_rfl) (fun _ _ _ h => h) (Or.inl ⟨by rfl, ?_⟩) (by assumption) ?_
      rotate_left
      · (intro w hSw; (try dsimp only at hSw); go_simp; (try with_reducible rfl))
      try simp only [Act.put, List.getElem_toArray, List.getElem_cons_zero, List.getElem_cons_succ, List.setIfInBounds_toArray, List.set_cons_zero, List.set_cons_succ]
      refine wpAnyH_ready (rs := [0, 2]) (by kernel_rfl) (by simp) ?_
      refine AllReadyH.cons rfl (fun KQ hKQ => ?_) (AllReadyH.cons rfl (fun KQ hKQ => ?_) AllReadyH.nil)
      focus
       obtain ⟨c0', c1', c2', c3'⟩ := box_cells Be
       go_simp
       refine hKQ.out _ _ (by exact ⟨(box_cells Ba).1, (box_cells Ba).2.1⟩) (fun hHeld => ?_)
       clear hKQ KQ
       try simp only [Act.put, List.getElem_toArray, List.getElem_cons_zero, List.getElem_cons_succ, List.setIfInBounds_toArray, List.set_cons_zero, List.set_cons_succ]
       refine wpAnyH_ready (rs := [2]) (by kernel_rfl) (by simp) ?_
       refine AllReadyH.cons rfl (fun KQ hKQ => ?_) AllReadyH.nil
       go_simp
       go_at_call 20
       refine (Sign_any edw4 _ x K ia (by omega) Hla.out).mono ?_
       rintro e edw5 ⟨rfl, gedw5⟩
       rw [HSG.out]
       replace Ba := heap_kept gedw5 Ba
       replace Bg := heap_kept gedw5 Bg
       replace Be := heap_kept gedw5 Be
       replace ia := ia.kept gedw5
       replace ig := ig.kept gedw5
       replace ie := ie.kept gedw5
       replace hG := grown_trans hG gedw5
       replace hT := grown_trans hT gedw5
       clear gedw5
       (try go_wp2_with fail)
       refine hKQ.out _ _ (by exact ⟨(box_cells Ba).1, (box_cells Ba).2.1⟩) (fun hHeld => ?_)
       clear hKQ KQ
       try simp only [Act.put, List.getElem_toArray, List.getElem_cons_zero, List.getElem_cons_succ, List.setIfInBounds_toArray, List.set_cons_zero, List.set_cons_succ]
       refine wpAnyH_ready (rs := [3]) (by kernel_rfl) (by simp) ?_
       refine AllReadyH.cons rfl (fun KQ hKQ => ?_) AllReadyH.nil
       go_simp
       go_at_call 19
       refine (ZOf_any edw5 sgn (by have := HSB.out; omega) (by have := HSB.out; omega)).mono ?_
       rintro e edw6 ⟨_, rfl, ⟨sm, xm, bm, rfl, hm, vm, tm⟩, gedw6⟩
       have im : IntV edw6 (.agg #[.slice sm xm.length xm.length, .bool bm]) (sgn) := ⟨sm, xm, bm, rfl, hm, vm, tm⟩
       replace Ba := heap_kept gedw6 Ba
       replace Bg := heap_kept gedw6 Bg
       replace Be := heap_kept gedw6 Be
       replace ia := ia.kept gedw6
       replace ig := ig.kept gedw6
       replace ie := ie.kept gedw6
       replace hG := grown_trans hG gedw6
       replace hT := grown_trans hT gedw6
       clear gedw6
       clear hm vm tm
       (try go_wp2_with fail)
       refine hKQ.out _ _ (by exact ⟨(box_cells Ba).1, (box_cells Ba).2.1⟩) (fun hHeld => ?_)
       clear hKQ KQ
       try simp only [Act.put, List.getElem_toArray, List.getElem_cons_zero, List.getElem_cons_succ, List.setIfInBounds_toArray, List.set_cons_zero, List.set_cons_succ]
       refine wpAnyH_ready (rs := [4]) (by kernel_rfl) (by simp) ?_
       refine AllReadyH.cons rfl (fun KQ hKQ => ?_) AllReadyH.nil
       go_simp
       go_at_call 36
       refine (ZMul_any edw6 _ _ X sgn (K + 1) ie im (by omega) HBD.out.1 lsg.out).mono ?_
       rintro e edw7 ⟨_, rfl, ⟨ss, xs, bs, rfl, hs, vs, ts⟩, gedw7⟩
       have is : IntV edw7 (.agg #[.slice ss xs.length xs.length, .bool bs]) (X * sgn) := ⟨ss, xs, bs, rfl, hs, vs, ts⟩
       replace Ba := heap_kept gedw7 Ba
       replace Bg := heap_kept gedw7 Bg
       replace Be := heap_kept gedw7 Be
       replace ia := ia.kept gedw7
       replace ig := ig.kept gedw7
       replace ie := ie.kept gedw7
       replace im := im.kept gedw7
       replace hG := grown_trans hG gedw7
       replace hT := grown_trans hT gedw7
       clear gedw7
       clear hs vs ts
       (try go_wp2_with fail)
       refine hKQ.out _ _ (by exact ⟨(box_cells Ba).1, (box_cells Ba).2.1⟩) (fun hHeld => ?_)
       clear hKQ KQ
       try simp only [Act.put, List.getElem_toArray, List.getElem_cons_zero, List.getElem_cons_succ, List.setIfInBounds_toArray, List.set_cons_zero, List.set_cons_succ]
      rotate_left 1
      focus
       go_simp
       go_at_call 20
       refine (Sign_any edw4 _ x K ia (by omega) Hla.out).mono ?_
       rintro e edw5 ⟨rfl, gedw5⟩
       rw [HSG.out]
       replace Ba := heap_kept gedw5 Ba
       replace Bg := heap_kept gedw5 Bg
       replace Be := heap_kept gedw5 Be
       replace ia := ia.kept gedw5
       replace ig := ig.kept gedw5
       replace ie := ie.kept gedw5
       replace hG := grown_trans hG gedw5
       replace hT := grown_trans hT gedw5
       clear gedw5
       (try go_wp2_with fail)
       refine hKQ.out _ _ (by exact ⟨(box_cells Ba).1, (box_cells Ba).2.1⟩) (fun hHeld => ?_)
       clear hKQ KQ
       try simp only [Act.put, List.getElem_toArray, List.getElem_cons_zero, List.getElem_cons_succ, List.setIfInBounds_toArray, List.set_cons_zero, List.set_cons_succ]
       refine wpAnyH_ready (rs := [0, 3]) (by kernel_rfl) (by simp) ?_
       refine AllReadyH.cons rfl (fun KQ hKQ => ?_) (AllReadyH.cons rfl (fun KQ hKQ => ?_) AllReadyH.nil)
       focus
        obtain ⟨c0', c1', c2', c3'⟩ := box_cells Be
        go_simp
        refine hKQ.out _ _ (by exact ⟨(box_cells Ba).1, (box_cells Ba).2.1⟩) (fun hHeld => ?_)
        clear hKQ KQ
        try simp only [Act.put, List.getElem_toArray, List.getElem_cons_zero, List.getElem_cons_succ, List.setIfInBounds_toArray, List.set_cons_zero, List.set_cons_succ]
        refine wpAnyH_ready (rs := [3]) (by kernel_rfl) (by simp) ?_
        refine AllReadyH.cons rfl (fun KQ hKQ => ?_) AllReadyH.nil
        go_simp
        go_at_call 19
        refine (ZOf_any edw5 sgn (by have := HSB.out; omega) (by have := HSB.out; omega)).mono ?_
        rintro e edw6 ⟨_, rfl, ⟨sm, xm, bm, rfl, hm, vm, tm⟩, gedw6⟩
        have im : IntV edw6 (.agg #[.slice sm xm.length xm.length, .bool bm]) (sgn) := ⟨sm, xm, bm, rfl, hm, vm, tm⟩
        replace Ba := heap_kept gedw6 Ba
        replace Bg := heap_kept gedw6 Bg
        replace Be := heap_kept gedw6 Be
        replace ia := ia.kept gedw6
        replace ig := ig.kept gedw6
        replace ie := ie.kept gedw6
        replace hG := grown_trans hG gedw6
        replace hT := grown_trans hT gedw6
        clear gedw6
        clear hm vm tm
        (try go_wp2_with fail)
        refine hKQ.out _ _ (by exact ⟨(box_cells Ba).1, (box_cells Ba).2.1⟩) (fun hHeld => ?_)
        clear hKQ KQ
        try simp only [Act.put, List.getElem_toArray, List.getElem_cons_zero, List.getElem_cons_succ, List.setIfInBounds_toArray, List.set_cons_zero, List.set_cons_succ]
        refine wpAnyH_ready (rs := [4]) (by kernel_rfl) (by simp) ?_
        refine AllReadyH.cons rfl (fun KQ hKQ => ?_) AllReadyH.nil
        go_simp
        go_at_call 36
        refine (ZMul_any edw6 _ _ X sgn (K + 1) ie im (by omega) HBD.out.1 lsg.out).mono ?_
        rintro e edw7 ⟨_, rfl, ⟨ss, xs, bs, rfl, hs, vs, ts⟩, gedw7⟩
        have is : IntV edw7 (.agg #[.slice ss xs.length xs.length, .bool bs]) (X * sgn) := ⟨ss, xs, bs, rfl, hs, vs, ts⟩
        replace Ba := heap_kept gedw7 Ba
        replace Bg := heap_kept gedw7 Bg
        replace Be := heap_kept gedw7 Be
        replace ia := ia.kept gedw7
        replace ig := ig.kept gedw7
        replace ie := ie.kept gedw7
        replace im := im.kept gedw7
        replace hG := grown_trans hG gedw7
        replace hT := grown_trans hT gedw7
        clear gedw7
        clear hs vs ts
        (try go_wp2_with fail)
        refine hKQ.out _ _ (by exact ⟨(box_cells Ba).1, (box_cells Ba).2.1⟩) (fun hHeld => ?_)
        clear hKQ KQ
        try simp only [Act.put, List.getElem_toArray, List.getElem_cons_zero, List.getElem_cons_succ, List.setIfInBounds_toArray, List.set_cons_zero, List.set_cons_succ]
       rotate_left 1
       focus
        go_simp
        go_at_call 19
        refine (ZOf_any edw5 sgn (by have := HSB.out; omega) (by have := HSB.out; omega)).mono ?_
        rintro e edw6 ⟨_, rfl, ⟨sm, xm, bm, rfl, hm, vm, tm⟩, gedw6⟩
        have im : IntV edw6 (.agg #[.slice sm xm.length xm.length, .bool bm]) (sgn) := ⟨sm, xm, bm, rfl, hm, vm, tm⟩
        replace Ba := heap_kept gedw6 Ba
        replace Bg := heap_kept gedw6 Bg
        replace Be := heap_kept gedw6 Be
        replace ia := ia.kept gedw6
        replace ig := ig.kept gedw6
        replace ie := ie.kept gedw6
        replace hG := grown_trans hG gedw6
        replace hT := grown_trans hT gedw6
        clear gedw6
        clear hm vm tm
        (try go_wp2_with fail)
        refine hKQ.out _ _ (by exact ⟨(box_cells Ba).1, (box_cells Ba).2.1⟩) (fun hHeld => ?_)
        clear hKQ KQ
        try simp only [Act.put, List.getElem_toArray, List.getElem_cons_zero, List.getElem_cons_succ, List.setIfInBounds_toArray, List.set_cons_zero, List.set_cons_succ]
        refine wpAnyH_ready (rs := [0]) (by kernel_rfl) (by simp) ?_
        refine AllReadyH.cons rfl (fun KQ hKQ => ?_) AllReadyH.nil
        obtain ⟨c0', c1', c2', c3'⟩ := box_cells Be
        go_simp
        refine hKQ.out _ _ (by exact ⟨(box_cells Ba).1, (box_cells Ba).2.1⟩) (fun hHeld => ?_)
        clear hKQ KQ
        try simp only [Act.put, List.getElem_toArray, List.getElem_cons_zero, List.getElem_cons_succ, List.setIfInBounds_toArray, List.set_cons_zero, List.set_cons_succ]
        refine wpAnyH_ready (rs := [4]) (by kernel_rfl) (by simp) ?_
        refine AllReadyH.cons rfl (fun KQ hKQ => ?_) AllReadyH.nil
        go_simp
        go_at_call 36
        refine (ZMul_any edw6 _ _ X sgn (K + 1) ie im (by omega) HBD.out.1 lsg.out).mono ?_
        rintro e edw7 ⟨_, rfl, ⟨ss, xs, bs, rfl, hs, vs, ts⟩, gedw7⟩
        have is : IntV edw7 (.agg #[.slice ss xs.length xs.length, .bool bs]) (X * sgn) := ⟨ss, xs, bs, rfl, hs, vs, ts⟩
        replace Ba := heap_kept gedw7 Ba
        replace Bg := heap_kept gedw7 Bg
        replace Be := heap_kept gedw7 Be
        replace ia := ia.kept gedw7
        replace ig := ig.kept gedw7
        replace ie := ie.kept gedw7
        replace im := im.kept gedw7
        replace hG := grown_trans hG gedw7
        replace hT := grown_trans hT gedw7
        clear gedw7
        clear hs vs ts
        (try go_wp2_with fail)
        refine hKQ.out _ _ (by exact ⟨(box_cells Ba).1, (box_cells Ba).2.1⟩) (fun hHeld => ?_)
        clear hKQ KQ
        try simp only [Act.put, List.getElem_toArray, List.getElem_cons_zero, List.getElem_cons_succ, List.setIfInBounds_toArray, List.set_cons_zero, List.set_cons_succ]
       rotate_left 1
      rotate_left 2
      all_goals (
       refine wpAnyH_ready (rs := [5]) (by kernel_rfl) (by simp) ?_
       refine AllReadyH.cons rfl (fun KQ hKQ => ?_) AllReadyH.nil
       obtain ⟨c0', c1', c2', c3'⟩ := box_cells Be
       go_simp
       clear c0' c1' c2' c3'
       replace ia := ia.set2 Be (.slice ss xs.length xs.length) (.bool bs)
       replace ig := ig.set2 Be (.slice ss xs.length xs.length) (.bool bs)
       replace ie := ie.set2 Be (.slice ss xs.length xs.length) (.bool bs)
       replace im := im.set2 Be (.slice ss xs.length xs.length) (.bool bs)
       replace is := is.set2 Be (.slice ss xs.length xs.length) (.bool bs)
       replace hG := grown_set2 (g := aw1) hG (by omega) (.slice ss xs.length xs.length) (.bool bs)
       replace hT := grown_set2 (g := aw1) hT (by omega) (.slice ss xs.length xs.length) (.bool bs)
       replace Ba := heap_unset2 Ba (show w.heap.size ≠ aw1 by omega) (.slice ss xs.length xs.length) (.bool bs)
       replace Bg := heap_unset2 Bg (show pg ≠ aw1 by omega) (.slice ss xs.length xs.length) (.bool bs)
       replace Be := heap_set2 Be (.slice ss xs.length xs.length) (.bool bs)
       generalize ((edw7.setCell ⟨aw1, 0, none⟩ (.slice ss xs.length xs.length)).setCell ⟨aw1, 1, none⟩ (.bool bs)) = edw8 at *
       refine hKQ.out _ _ (by exact ⟨(box_cells Ba).1, (box_cells Ba).2.1⟩) (fun hHeld => ?_)
       clear hKQ KQ
       try simp only [Act.put, List.getElem_toArray, List.getElem_cons_zero, List.getElem_cons_succ, List.setIfInBounds_toArray, List.set_cons_zero, List.set_cons_succ]
       refine wpAnyH_done (by kernel_rfl) ?_ _
       go_wp2_with fail
       go_meet
       exact ⟨⟨_, _, Bg, ig⟩, ⟨_, _, Be, is⟩, hT⟩)
     case rest =>
      clear hG hT ia ib ig ih ie ij Ba Bb Bu Bv Bt Bg Bh Be Bj
      obtain ⟨Kg, Ke, hT⟩ := hcut
      have hG := grown_trans HG9.out hT
      have Ba := heap_kept hT Ha9.out
      have Bb := heap_kept hT Hb9.out
      have Bu := heap_kept hT Hu9.out
      have Bv := heap_kept hT Hv9.out
      have Bt := heap_kept hT Ht9.out
      have ia := Ia9.out.kept hT
      have ib := Ib9.out.kept hT
      obtain ⟨sg, xg, bg, Bg, ig⟩ := Kg.open
      obtain ⟨se, xe, be, Be, ie⟩ := Ke.open
      have lu : (X * sgn).natAbs < B ^ (K + 1 + (K + 1)) := zmul_bd HBD.out.1 lsg.out
      have lau : (x * (X * sgn)).natAbs < B ^ (K + 1 + (K + 1) + (K + 1 + (K + 1))) := zmul_bd (bw Hla.out (by omega)) lu
      have lgG : ((G : Int)).natAbs < B ^ (K + 1 + (K + 1) + (K + 1 + (K + 1))) := by rw [Int.natAbs_natCast]; exact bw HB.out.1 (by omega)
      have lsu : ((G : Int) - x * (X * sgn)).natAbs < B ^ (K + 1 + (K + 1) + (K + 1 + (K + 1)) + 1) := zsub_bd lgG lau
      obtain ⟨R9, C9, hfl⟩ := floor_or ((G : Int) - x * (X * sgn)) y (K + 1 + (K + 1) + (K + 1 + (K + 1)) + 1) (by omega) lsu (bw Hlb.out (by omega))
      have HFL := Lib.hid hfl
      have LU := Lib.hid lu
      have LAU := Lib.hid lau
      have LGG := Lib.hid lgG
      clear lu lau lgG lsu hfl
      obtain ⟨Z9, hZ9⟩ : ∃ Z, (if y = 0 then 0 else ((G : Int) - x * (X * sgn)) / y) = Z := ⟨_, rfl⟩
      rw [hZ9] at HFL
      have HZ9 := Lib.hid hZ9
      clear hZ9
      obtain ⟨Ca0, Ca1, Fa0, Fa1⟩ := box_cells Ba
      obtain ⟨Cb0, Cb1, Fb0, Fb1⟩ := box_cells Bb
      obtain ⟨Cu0, Cu1, Fu0, Fu1⟩ := box_cells Bu
      obtain ⟨Cv0, Cv1, Fv0, Fv1⟩ := box_cells Bv
      obtain ⟨Ct0, Ct1, Ft0, Ft1⟩ := box_cells Bt
      obtain ⟨Cg0, Cg1, Fg0, Fg1⟩ := box_cells Bg
      obtain ⟨Ce0, Ce1, Fe0, Fe1⟩ := box_cells Be
      go_wp2_with fail
      go_cut [14] (fun p wx => ∃ py, p = .pointer (some ⟨py, 0, none⟩) ∧ BoxI wx py Z9 ∧ BoxI wx pg (G : Int) ∧ BoxI wx (aw1) (X * sgn) ∧ w0.heap.size ≤ py ∧ w0.grownBy wx none)
      case first =>
       clear Ca0 Fa0 Ca1 Fa1 Cb0 Fb0 Cb1 Fb1 Cu0 Fu0 Cu1 Fu1 Cv0 Fv0 Cv1 Fv1 Ct0 Ft0 Ct1 Ft1 Cg0 Fg0 Cg1 Fg1 Ce0 Fe0 Ce1 Fe1
       clear Bu Bv Bt
       obtain ⟨Ca0, Ca1, Fa0, Fa1⟩ := box_cells Ba
       obtain ⟨Cb0, Cb1, Fb0, Fb1⟩ := box_cells Bb
       obtain ⟨Cg0, Cg1, Fg0, Fg1⟩ := box_cells Bg
       obtain ⟨Ce0, Ce1, Fe0, Fe1⟩ := box_cells Be
       refine wp_region_held_drew (S := fun w' => w'.cell? ⟨pg, 0, none⟩ = some (.slice sg xg.length xg.length) ∧ w'.cell? ⟨pg, 1, none⟩ = some (.bool bg) ∧ w'.cell? ⟨w.heap.size, 0, none⟩ = some (.slice sa xa.length xa.length) ∧ w'.cell? ⟨w.heap.size, 1, none⟩ = some (.bool ba) ∧ w'.cell? ⟨aw1, 0, none⟩ = some (.slice se xe.length xe.length) ∧ w'.cell? ⟨aw1, 1, none⟩ = some (.bool be) ∧ w'.cell? ⟨w.heap.size + 1, 0, none⟩ = some (.slice sb xb.length xb.length) ∧ w'.cell? ⟨w.heap.size + 1, 1, none⟩ = some (.bool bb)) (by kernel_rfl) (by exact ⟨Cg0, Cg1, Ca0, Ca1, Ce0, Ce1, Cb0, Cb1⟩) (fun hHeld => ?_)
       have gd : wc.grownBy wc.drew none := grown_drew (grown_refl _ _)
       clear Ca0 Fa0 Ca1 Fa1 Cb0 Fb0 Cb1 Fb1 Cg0 Fg0 Cg1 Fg1 Ce0 Fe0 Ce1 Fe1
       replace Ba := heap_kept gd Ba
       replace Bb := heap_kept gd Bb
       replace Bg := heap_kept gd Bg
       replace Be := heap_kept gd Be
       replace ia := ia.kept gd
       replace ib := ib.kept gd
       replace ig := ig.kept gd
       replace ie := ie.kept gd
       replace hG := grown_trans hG gd
       replace hT := grown_trans hT gd
       clear gd
       generalize wc.drew = efw4 at *
       refine wpAnyH_take (i := 0) (v := ?_) rfl (by kernel_rfl) (by kernel_rfl) (by kernel_rfl) (fun _ _ _ h => h) (Or.inl ⟨by rfl, ?_⟩) (by assumption) ?_
       rotate_left
       · (intro w hSw; (try dsimp only at hSw); go_simp; (try with_reducible rfl))
       try simp only [Act.put, List.getElem_toArray, List.getElem_cons_zero, List.getElem_cons_succ, List.setIfInBounds_toArray, List.set_cons_zero, List.set_cons_succ]
       refine wpAnyH_take (i := 1) (v := ?_) rfl (by kernel_rfl) (by kernel_rfl) (by kernel_rfl) (fun _ _ _ h => h) (Or.inl ⟨by rfl, ?_⟩) (by assumption) ?_
       rotate_left
       · (intro w hSw; (try dsimp only at hSw); go_simp; (try with_reducible rfl))
       try simp only [Act.put, List.getElem_toArray, List.getElem_cons_zero, List.getElem_cons_succ, List.setIfInBounds_toArray, List.set_cons_zero, List.set_cons_succ]
       refine wpAnyH_take (i := 2) (v := ?_) rfl (by kernel_rfl) (by kernel_rfl) (by kernel_rfl) (fun _ _ _ h => h) (Or.inl ⟨by rfl, ?_⟩) (by assumption) ?_
       rotate_left
       · (intro w hSw; (try dsimp only at hSw); go_simp; (try with_reducible rfl))
       try simp only [Act.put, List.getElem_toArray, List.getElem_cons_zero, List.getElem_cons_succ, List.setIfInBounds_toArray, List.set_cons_zero, List.set_cons_succ]
       refine wpAnyH_take (i := 5) (v := ?_) rfl (by kernel_rfl) (by kernel_rfl) (by kernel_rfl) (fun _ _ _ h => h) (Or.inl ⟨by rfl, ?_⟩) (by assumption) ?_
       rotate_left
       · (intro w hSw; (try dsimp only at hSw); go_simp; (try with_reducible rfl))
       try simp only [Act.put, List.getElem_toArray, List.getElem_cons_zero, List.getElem_cons_succ, List.setIfInBounds_toArray, List.set_cons_zero, List.set_cons_succ]
       refine wpAnyH_ready (rs := [3, 11, 12]) (by kernel_rfl) (by simp) ?_
       refine AllReadyH.cons rfl (fun KQ hKQ => ?_) (AllReadyH.cons rfl (fun KQ hKQ => ?_) (AllReadyH.cons rfl (fun KQ hKQ => ?_) AllReadyH.nil))
       focus
        go_simp
        go_at_call 36
        refine (ZMul_any efw4 _ _ x (X * sgn) (K + 1 + (K + 1)) ia ie (by omega) (bw Hla.out (by omega)) LU.out).mono ?_
        rintro e efw5 ⟨_, rfl, ⟨sm, xm, bm, rfl, hm, vm, tm⟩, gefw5⟩
        have im : IntV efw5 (.agg #[.slice sm xm.length xm.length, .bool bm]) (x * (X * sgn)) := ⟨sm, xm, bm, rfl, hm, vm, tm⟩
        replace Ba := heap_kept gefw5 Ba
        replace Bb := heap_kept gefw5 Bb
        replace Bg := heap_kept gefw5 Bg
        replace Be := heap_kept gefw5 Be
        replace ia := ia.kept gefw5
        replace ib := ib.kept gefw5
        replace ig := ig.kept gefw5
        replace ie := ie.kept gefw5
        replace hG := grown_trans hG gefw5
        replace hT := grown_trans hT gefw5
        clear gefw5
        clear hm vm tm
        (try go_wp2_with fail)
        refine hKQ.out _ _ (by exact ⟨(box_cells Bg).1, (box_cells Bg).2.1, (box_cells Ba).1, (box_cells Ba).2.1, (box_cells Be).1, (box_cells Be).2.1, (box_cells Bb).1, (box_cells Bb).2.1⟩) (fun hHeld => ?_)
        clear hKQ KQ
        try simp only [Act.put, List.getElem_toArray, List.getElem_cons_zero, List.getElem_cons_succ, List.setIfInBounds_toArray, List.set_cons_zero, List.set_cons_succ]
        refine wpAnyH_ready (rs := [4, 11, 12]) (by kernel_rfl) (by simp) ?_
        refine AllReadyH.cons rfl (fun KQ hKQ => ?_) (AllReadyH.cons rfl (fun KQ hKQ => ?_) (AllReadyH.cons rfl (fun KQ hKQ => ?_) AllReadyH.nil))
        focus
         go_simp
         go_at_call 31
         refine (ZSub_any efw5 _ _ (G : Int) (x * (X * sgn)) (K + 1 + (K + 1) + (K + 1 + (K + 1))) ig im (by omega) LGG.out LAU.out).mono ?_
         rintro e efw6 ⟨_, rfl, ⟨ss, xs, bs, rfl, hs, vs, ts⟩, gefw6⟩
         have is : IntV efw6 (.agg #[.slice ss xs.length xs.length, .bool bs]) ((G : Int) - x * (X * sgn)) := ⟨ss, xs, bs, rfl, hs, vs, ts⟩
         replace Ba := heap_kept gefw6 Ba
         replace Bb := heap_kept gefw6 Bb
         replace Bg := heap_kept gefw6 Bg
         replace Be := heap_kept gefw6 Be
         replace ia := ia.kept gefw6
         replace ib := ib.kept gefw6
         replace ig := ig.kept gefw6
         replace ie := ie.kept gefw6
         replace im := im.kept gefw6
         replace hG := grown_trans hG gefw6
         replace hT := grown_trans hT gefw6
         clear gefw6
         clear hs vs ts
         (try go_wp2_with fail)
         refine hKQ.out _ _ (by exact ⟨(box_cells Bg).1, (box_cells Bg).2.1, (box_cells Ba).1, (box_cells Ba).2.1, (box_cells Be).1, (box_cells Be).2.1, (box_cells Bb).1, (box_cells Bb).2.1⟩) (fun hHeld => ?_)
         clear hKQ KQ
         try simp only [Act.put, List.getElem_toArray, List.getElem_cons_zero, List.getElem_cons_succ, List.setIfInBounds_toArray, List.set_cons_zero, List.set_cons_succ]
         refine wpAnyH_ready (rs := [6, 11, 12]) (by kernel_rfl) (by simp) ?_
         refine AllReadyH.cons rfl (fun KQ hKQ => ?_) (AllReadyH.cons rfl (fun KQ hKQ => ?_) (AllReadyH.cons rfl (fun KQ hKQ => ?_) AllReadyH.nil))
         focus
          go_simp
          go_at_call 38
          refine (HFL.out efw6 _ _ is ib).mono ?_
          rintro e efw7 ⟨_, _, rfl, ⟨sq, xq, bq, rfl, hq, vq, tq⟩, ⟨sr, xr, br, rfl, hr, vr, tr⟩, gefw7⟩
          have iq : IntV efw7 (.agg #[.slice sq xq.length xq.length, .bool bq]) (Z9) := ⟨sq, xq, bq, rfl, hq, vq, tq⟩
          have ir : IntV efw7 (.agg #[.slice sr xr.length xr.length, .bool br]) (R9) := ⟨sr, xr, br, rfl, hr, vr, tr⟩
          replace Ba := heap_kept gefw7 Ba
          replace Bb := heap_kept gefw7 Bb
          replace Bg := heap_kept gefw7 Bg
          replace Be := heap_kept gefw7 Be
          replace ia := ia.kept gefw7
          replace ib := ib.kept gefw7
          replace ig := ig.kept gefw7
          replace ie := ie.kept gefw7
          replace im := im.kept gefw7
          replace is := is.kept gefw7
          replace hG := grown_trans hG gefw7
          replace hT := grown_trans hT gefw7
          clear gefw7
          clear hq vq tq
          clear hr vr tr
          (try go_wp2_with fail)
          refine hKQ.out _ _ (by exact ⟨(box_cells Bg).1, (box_cells Bg).2.1, (box_cells Ba).1, (box_cells Ba).2.1, (box_cells Be).1, (box_cells Be).2.1, (box_cells Bb).1, (box_cells Bb).2.1⟩) (fun hHeld => ?_)
          clear hKQ KQ
          try simp only [Act.put, List.getElem_toArray, List.getElem_cons_zero, List.getElem_cons_succ, List.setIfInBounds_toArray, List.set_cons_zero, List.set_cons_succ]
          refine wpAnyH_take (i := 7) (v := ?_) rfl (by kernel_rfl) (by kernel_rfl) (by kernel_rfl) (fun _ _ _ h => h) (Or.inl ⟨by rfl, ?_⟩) (by assumption) ?_
          rotate_left
          · (intro w hSw; (try dsimp only at hSw); go_simp; (try with_reducible rfl))
          try simp only [Act.put, List.getElem_toArray, List.getElem_cons_zero, List.getElem_cons_succ, List.setIfInBounds_toArray, List.set_cons_zero, List.set_cons_succ]
          refine wpAnyH_take (i := 8) (v := ?_) rfl (by kernel_rfl) (by kernel_rfl) (by kernel_rfl) (fun _ _ _ h => h) (Or.inl ⟨by rfl, ?_⟩) (by assumption) ?_
          rotate_left
          · (intro w hSw; (try dsimp only at hSw); go_simp; (try with_reducible rfl))
          try simp only [Act.put, List.getElem_toArray, List.getElem_cons_zero, List.getElem_cons_succ, List.setIfInBounds_toArray, List.set_cons_zero, List.set_cons_succ]
          refine wpAnyH_take (i := 9) (v := ?_) rfl (by kernel_rfl) (by kernel_rfl) (by kernel_rfl) (fun _ _ _ h => h) (Or.inl ⟨by rfl, ?_⟩) (by assumption) ?_
          rotate_left
          · (intro w hSw; (try dsimp only at hSw); go_simp; (try with_reducible rfl))
          try simp only [Act.put, List.getElem_toArray, List.getElem_cons_zero, List.getElem_cons_succ, List.setIfInBounds_toArray, List.set_cons_zero, List.set_cons_succ]
          refine wpAnyH_take (i := 10) (v := ?_) rfl (by kernel_rfl) (by kernel_rfl) (by kernel_rfl) (fun _ _ _ h => h) (Or.inl ⟨by rfl, ?_⟩) (by assumption) ?_
          rotate_left
          · (intro w hSw; (try dsimp only at hSw); go_simp; (try with_reducible rfl))
          try simp only [Act.put, List.getElem_toArray, List.getElem_cons_zero, List.getElem_cons_succ, List.setIfInBounds_toArray, List.set_cons_zero, List.set_cons_succ]
          refine wpAnyH_ready (rs := [11, 12]) (by kernel_rfl) (by simp) ?_
          refine AllReadyH.cons rfl (fun KQ hKQ => ?_) (AllReadyH.cons rfl (fun KQ hKQ => ?_) AllReadyH.nil)
          focus
           have gA := World.grownBy_alloc efw7 (.cells #[.slice none 0 0, .bool false] 26) none
           have lohGk : w.heap.size ≤ efw7.heap.size := hG.size
           have lohTk : w0.heap.size ≤ efw7.heap.size := hT.size
           have ltak : w.heap.size < efw7.heap.size := heap_lt Ba
           have ltbk : w.heap.size + 1 < efw7.heap.size := heap_lt Bb
           have ltgk : pg < efw7.heap.size := heap_lt Bg
           have ltek : aw1 < efw7.heap.size := heap_lt Be
           have Bk_ := heap_new efw7 (.cells #[.slice none 0 0, .bool false] 26) efw7.heap.size rfl
           replace Ba := heap_kept gA Ba
           replace Bb := heap_kept gA Bb
           replace Bg := heap_kept gA Bg
           replace Be := heap_kept gA Be
           replace ia := ia.kept gA
           replace ib := ib.kept gA
           replace ig := ig.kept gA
           replace ie := ie.kept gA
           replace im := im.kept gA
           replace is := is.kept gA
           replace iq := iq.kept gA
           replace ir := ir.kept gA
           replace hG := grown_trans hG gA
           replace hT := grown_trans hT gA
           clear gA
           go_simp
           generalize (efw7.alloc (.cells #[.slice none 0 0, .bool false] 26)) = efw8 at *
           generalize efw7.heap.size = pk at *
           have Bk := Bk_
           clear Bk_
           refine hKQ.out _ _ (by exact ⟨(box_cells Bg).1, (box_cells Bg).2.1, (box_cells Ba).1, (box_cells Ba).2.1, (box_cells Be).1, (box_cells Be).2.1, (box_cells Bb).1, (box_cells Bb).2.1⟩) (fun hHeld => ?_)
           clear hKQ KQ
           try simp only [Act.put, List.getElem_toArray, List.getElem_cons_zero, List.getElem_cons_succ, List.setIfInBounds_toArray, List.set_cons_zero, List.set_cons_succ]
           refine wpAnyH_ready (rs := [12]) (by kernel_rfl) (by simp) ?_
           refine AllReadyH.cons rfl (fun KQ hKQ => ?_) AllReadyH.nil
           have gA := World.grownBy_alloc efw8 (.cells #[.slice none 0 0, .bool false] 26) none
           have lohGl : w.heap.size ≤ efw8.heap.size := hG.size
           have lohTl : w0.heap.size ≤ efw8.heap.size := hT.size
           have ltal : w.heap.size < efw8.heap.size := heap_lt Ba
           have ltbl : w.heap.size + 1 < efw8.heap.size := heap_lt Bb
           have ltgl : pg < efw8.heap.size := heap_lt Bg
           have ltel : aw1 < efw8.heap.size := heap_lt Be
           have ltkl : pk < efw8.heap.size := heap_lt Bk
           have Bl_ := heap_new efw8 (.cells #[.slice none 0 0, .bool false] 26) efw8.heap.size rfl
           replace Ba := heap_kept gA Ba
           replace Bb := heap_kept gA Bb
           replace Bg := heap_kept gA Bg
           replace Be := heap_kept gA Be
           replace Bk := heap_kept gA Bk
           replace ia := ia.kept gA
           replace ib := ib.kept gA
           replace ig := ig.kept gA
           replace ie := ie.kept gA
           replace im := im.kept gA
           replace is := is.kept gA
           replace iq := iq.kept gA
           replace ir := ir.kept gA
           replace hG := grown_trans hG gA
           replace hT := grown_trans hT gA
           clear gA
           go_simp
           generalize (efw8.alloc (.cells #[.slice none 0 0, .bool false] 26)) = efw9 at *
           generalize efw8.heap.size = pl at *
           have Bl := Bl_
           clear Bl_
           refine hKQ.out _ _ (by exact ⟨(box_cells Bg).1, (box_cells Bg).2.1, (box_cells Ba).1, (box_cells Ba).2.1, (box_cells Be).1, (box_cells Be).2.1, (box_cells Bb).1, (box_cells Bb).2.1⟩) (fun hHeld => ?_)
           clear hKQ KQ
           try simp only [Act.put, List.getElem_toArray, List.getElem_cons_zero, List.getElem_cons_succ, List.setIfInBounds_toArray, List.set_cons_zero, List.set_cons_succ]
          rotate_left 1
          focus
           have gA := World.grownBy_alloc efw7 (.cells #[.slice none 0 0, .bool false] 26) none
           have lohGl : w.heap.size ≤ efw7.heap.size := hG.size
           have lohTl : w0.heap.size ≤ efw7.heap.size := hT.size
           have ltal : w.heap.size < efw7.heap.size := heap_lt Ba
           have ltbl : w.heap.size + 1 < efw7.heap.size := heap_lt Bb
           have ltgl : pg < efw7.heap.size := heap_lt Bg
           have ltel : aw1 < efw7.heap.size := heap_lt Be
           have Bl_ := heap_new efw7 (.cells #[.slice none 0 0, .bool false] 26) efw7.heap.size rfl
           replace Ba := heap_kept gA Ba
           replace Bb := heap_kept gA Bb
           replace Bg := heap_kept gA Bg
           replace Be := heap_kept gA Be
           replace ia := ia.kept gA
           replace ib := ib.kept gA
           replace ig := ig.kept gA
           replace ie := ie.kept gA
           replace im := im.kept gA
           replace is := is.kept gA
           replace iq := iq.kept gA
           replace ir := ir.kept gA
           replace hG := grown_trans hG gA
           replace hT := grown_trans hT gA
           clear gA
           go_simp
           generalize (efw7.alloc (.cells #[.slice none 0 0, .bool false] 26)) = efw8 at *
           generalize efw7.heap.size = pl at *
           have Bl := Bl_
           clear Bl_
           refine hKQ.out _ _ (by exact ⟨(box_cells Bg).1, (box_cells Bg).2.1, (box_cells Ba).1, (box_cells Ba).2.1, (box_cells Be).1, (box_cells Be).2.1, (box_cells Bb).1, (box_cells Bb).2.1⟩) (fun hHeld => ?_)
           clear hKQ KQ
           try simp only [Act.put, List.getElem_toArray, List.getElem_cons_zero, List.getElem_cons_succ, List.setIfInBounds_toArray, List.set_cons_zero, List.set_cons_succ]
           refine wpAnyH_ready (rs := [11]) (by kernel_rfl) (by simp) ?_
           refine AllReadyH.cons rfl (fun KQ hKQ => ?_) AllReadyH.nil
           have gA := World.grownBy_alloc efw8 (.cells #[.slice none 0 0, .bool false] 26) none
           have lohGk : w.heap.size ≤ efw8.heap.size := hG.size
           have lohTk : w0.heap.size ≤ efw8.heap.size := hT.size
           have ltak : w.heap.size < efw8.heap.size := heap_lt Ba
           have ltbk : w.heap.size + 1 < efw8.heap.size := heap_lt Bb
           have ltgk : pg < efw8.heap.size := heap_lt Bg
           have ltek : aw1 < efw8.heap.size := heap_lt Be
           have ltlk : pl < efw8.heap.size := heap_lt Bl
           have Bk_ := heap_new efw8 (.cells #[.slice none 0 0, .bool false] 26) efw8.heap.size rfl
           replace Ba := heap_kept gA Ba
           replace Bb := heap_kept gA Bb
           replace Bg := heap_kept gA Bg
           replace Be := heap_kept gA Be
           replace Bl := heap_kept gA Bl
           replace ia := ia.kept gA
           replace ib := ib.kept gA
           replace ig := ig.kept gA
           replace ie := ie.kept gA
           replace im := im.kept gA
           replace is := is.kept gA
           replace iq := iq.kept gA
           replace ir := ir.kept gA
           replace hG := grown_trans hG gA
           replace hT := grown_trans hT gA
           clear gA
           go_simp
           generalize (efw8.alloc (.cells #[.slice none 0 0, .bool false] 26)) = efw9 at *
           generalize efw8.heap.size = pk at *
           have Bk := Bk_
           clear Bk_
           refine hKQ.out _ _ (by exact ⟨(box_cells Bg).1, (box_cells Bg).2.1, (box_cells Ba).1, (box_cells Ba).2.1, (box_cells Be).1, (box_cells Be).2.1, (box_cells Bb).1, (box_cells Bb).2.1⟩) (fun hHeld => ?_)
           clear hKQ KQ
           try simp only [Act.put, List.getElem_toArray, List.getElem_cons_zero, List.getElem_cons_succ, List.setIfInBounds_toArray, List.set_cons_zero, List.set_cons_succ]
          rotate_left 1
         rotate_left 2
         focus
          have gA := World.grownBy_alloc efw6 (.cells #[.slice none 0 0, .bool false] 26) none
          have lohGk : w.heap.size ≤ efw6.heap.size := hG.size
          have lohTk : w0.heap.size ≤ efw6.heap.size := hT.size
          have ltak : w.heap.size < efw6.heap.size := heap_lt Ba
          have ltbk : w.heap.size + 1 < efw6.heap.size := heap_lt Bb
          have ltgk : pg < efw6.heap.size := heap_lt Bg
          have ltek : aw1 < efw6.heap.size := heap_lt Be
          have Bk_ := heap_new efw6 (.cells #[.slice none 0 0, .bool false] 26) efw6.heap.size rfl
          replace Ba := heap_kept gA Ba
          replace Bb := heap_kept gA Bb
          replace Bg := heap_kept gA Bg
          replace Be := heap_kept gA Be
          replace ia := ia.kept gA
          replace ib := ib.kept gA
          replace ig := ig.kept gA
          replace ie := ie.kept gA
          replace im := im.kept gA
          replace is := is.kept gA
          replace hG := grown_trans hG gA
          replace hT := grown_trans hT gA
          clear gA
          go_simp
          generalize (efw6.alloc (.cells #[.slice none 0 0, .bool false] 26)) = efw7 at *
          generalize efw6.heap.size = pk at *
          have Bk := Bk_
          clear Bk_
          refine hKQ.out _ _ (by exact ⟨(box_cells Bg).1, (box_cells Bg).2.1, (box_cells Ba).1, (box_cells Ba).2.1, (box_cells Be).1, (box_cells Be).2.1, (box_cells Bb).1, (box_cells Bb).2.1⟩) (fun hHeld => ?_)
          clear hKQ KQ
          try simp only [Act.put, List.getElem_toArray, List.getElem_cons_zero, List.getElem_cons_succ, List.setIfInBounds_toArray, List.set_cons_zero, List.set_cons_succ]
          refine wpAnyH_ready (rs := [6, 12]) (by kernel_rfl) (by simp) ?_
          refine AllReadyH.cons rfl (fun KQ hKQ => ?_) (AllReadyH.cons rfl (fun KQ hKQ => ?_) AllReadyH.nil)
          focus
           go_simp
           go_at_call 38
           refine (HFL.out efw7 _ _ is ib).mono ?_
           rintro e efw8 ⟨_, _, rfl, ⟨sq, xq, bq, rfl, hq, vq, tq⟩, ⟨sr, xr, br, rfl, hr, vr, tr⟩, gefw8⟩
           have iq : IntV efw8 (.agg #[.slice sq xq.length xq.length, .bool bq]) (Z9) := ⟨sq, xq, bq, rfl, hq, vq, tq⟩
           have ir : IntV efw8 (.agg #[.slice sr xr.length xr.length, .bool br]) (R9) := ⟨sr, xr, br, rfl, hr, vr, tr⟩
           replace Ba := heap_kept gefw8 Ba
           replace Bb := heap_kept gefw8 Bb
           replace Bg := heap_kept gefw8 Bg
           replace Be := heap_kept gefw8 Be
           replace Bk := heap_kept gefw8 Bk
           replace ia := ia.kept gefw8
           replace ib := ib.kept gefw8
           replace ig := ig.kept gefw8
           replace ie := ie.kept gefw8
           replace im := im.kept gefw8
           replace is := is.kept gefw8
           replace hG := grown_trans hG gefw8
           replace hT := grown_trans hT gefw8
           clear gefw8
           clear hq vq tq
           clear hr vr tr
           (try go_wp2_with fail)
           refine hKQ.out _ _ (by exact ⟨(box_cells Bg).1, (box_cells Bg).2.1, (box_cells Ba).1, (box_cells Ba).2.1, (box_cells Be).1, (box_cells Be).2.1, (box_cells Bb).1, (box_cells Bb).2.1⟩) (fun hHeld => ?_)
           clear hKQ KQ
           try simp only [Act.put, List.getElem_toArray, List.getElem_cons_zero, List.getElem_cons_succ, List.setIfInBounds_toArray, List.set_cons_zero, List.set_cons_succ]
           refine wpAnyH_take (i := 7) (v := ?_) rfl (by kernel_rfl) (by kernel_rfl) (by kernel_rfl) (fun _ _ _ h => h) (Or.inl ⟨by rfl, ?_⟩) (by assumption) ?_
           rotate_left
           · (intro w hSw; (try dsimp only at hSw); go_simp; (try with_reducible rfl))
           try simp only [Act.put, List.getElem_toArray, List.getElem_cons_zero, List.getElem_cons_succ, List.setIfInBounds_toArray, List.set_cons_zero, List.set_cons_succ]
           refine wpAnyH_take (i := 8) (v := ?_) rfl (by kernel_rfl) (by kernel_rfl) (by kernel_rfl) (fun _ _ _ h => h) (Or.inl ⟨by rfl, ?_⟩) (by assumption) ?_
           rotate_left
           · (intro w hSw; (try dsimp only at hSw); go_simp; (try with_reducible rfl))
           try simp only [Act.put, List.getElem_toArray, List.getElem_cons_zero, List.getElem_cons_succ, List.setIfInBounds_toArray, List.set_cons_zero, List.set_cons_succ]
           refine wpAnyH_take (i := 9) (v := ?_) rfl (by kernel_rfl) (by kernel_rfl) (by kernel_rfl) (fun _ _ _ h => h) (Or.inl ⟨by rfl, ?_⟩) (by assumption) ?_
           rotate_left
           · (intro w hSw; (try dsimp only at hSw); go_simp; (try with_reducible rfl))
           try simp only [Act.put, List.getElem_toArray, List.getElem_cons_zero, List.getElem_cons_succ, List.setIfInBounds_toArray, List.set_cons_zero, List.set_cons_succ]
           refine wpAnyH_take (i := 10) (v := ?_) rfl (by kernel_rfl) (by kernel_rfl) (by kernel_rfl) (fun _ _ _ h => h) (Or.inl ⟨by rfl, ?_⟩) (by assumption) ?_
           rotate_left
           · (intro w hSw; (try dsimp only at hSw); go_simp; (try with_reducible rfl))
           try simp only [Act.put, List.getElem_toArray, List.getElem_cons_zero, List.getElem_cons_succ, List.setIfInBounds_toArray, List.set_cons_zero, List.set_cons_succ]
           refine wpAnyH_ready (rs := [12]) (by kernel_rfl) (by simp) ?_
           refine AllReadyH.cons rfl (fun KQ hKQ => ?_) AllReadyH.nil
           have gA := World.grownBy_alloc efw8 (.cells #[.slice none 0 0, .bool false] 26) none
           have lohGl : w.heap.size ≤ efw8.heap.size := hG.size
           have lohTl : w0.heap.size ≤ efw8.heap.size := hT.size
           have ltal : w.heap.size < efw8.heap.size := heap_lt Ba
           have ltbl : w.heap.size + 1 < efw8.heap.size := heap_lt Bb
           have ltgl : pg < efw8.heap.size := heap_lt Bg
           have ltel : aw1 < efw8.heap.size := heap_lt Be
           have ltkl : pk < efw8.heap.size := heap_lt Bk
           have Bl_ := heap_new efw8 (.cells #[.slice none 0 0, .bool false] 26) efw8.heap.size rfl
           replace Ba := heap_kept gA Ba
           replace Bb := heap_kept gA Bb
           replace Bg := heap_kept gA Bg
           replace Be := heap_kept gA Be
           replace Bk := heap_kept gA Bk
           replace ia := ia.kept gA
           replace ib := ib.kept gA
           replace ig := ig.kept gA
           replace ie := ie.kept gA
           replace im := im.kept gA
           replace is := is.kept gA
           replace iq := iq.kept gA
           replace ir := ir.kept gA
           replace hG := grown_trans hG gA
           replace hT := grown_trans hT gA
           clear gA
           go_simp
           generalize (efw8.alloc (.cells #[.slice none 0 0, .bool false] 26)) = efw9 at *
           generalize efw8.heap.size = pl at *
           have Bl := Bl_
           clear Bl_
           refine hKQ.out _ _ (by exact ⟨(box_cells Bg).1, (box_cells Bg).2.1, (box_cells Ba).1, (box_cells Ba).2.1, (box_cells Be).1, (box_cells Be).2.1, (box_cells Bb).1, (box_cells Bb).2.1⟩) (fun hHeld => ?_)
           clear hKQ KQ
           try simp only [Act.put, List.getElem_toArray, List.getElem_cons_zero, List.getElem_cons_succ, List.setIfInBounds_toArray, List.set_cons_zero, List.set_cons_succ]
          rotate_left 1
          focus
           have gA := World.grownBy_alloc efw7 (.cells #[.slice none 0 0, .bool false] 26) none
           have lohGl : w.heap.size ≤ efw7.heap.size := hG.size
           have lohTl : w0.heap.size ≤ efw7.heap.size := hT.size
           have ltal : w.heap.size < efw7.heap.size := heap_lt Ba
           have ltbl : w.heap.size + 1 < efw7.heap.size := heap_lt Bb
           have ltgl : pg < efw7.heap.size := heap_lt Bg
           have ltel : aw1 < efw7.heap.size := heap_lt Be
           have ltkl : pk < efw7.heap.size := heap_lt Bk
           have Bl_ := heap_new efw7 (.cells #[.slice none 0 0, .bool false] 26) efw7.heap.size rfl
           replace Ba := heap_kept gA Ba
           replace Bb := heap_kept gA Bb
           replace Bg := heap_kept gA Bg
           replace Be := heap_kept gA Be
           replace Bk := heap_kept gA Bk
           replace ia := ia.kept gA
           replace ib := ib.kept gA
           replace ig := ig.kept gA
           replace ie := ie.kept gA
           replace im := im.kept gA
           replace is := is.kept gA
           replace hG := grown_trans hG gA
           replace hT := grown_trans hT gA
           clear gA
           go_simp
           generalize (efw7.alloc (.cells #[.slice none 0 0, .bool false] 26)) = efw8 at *
           generalize efw7.heap.size = pl at *
           have Bl := Bl_
           clear Bl_
           refine hKQ.out _ _ (by exact ⟨(box_cells Bg).1, (box_cells Bg).2.1, (box_cells Ba).1, (box_cells Ba).2.1, (box_cells Be).1, (box_cells Be).2.1, (box_cells Bb).1, (box_cells Bb).2.1⟩) (fun hHeld => ?_)
           clear hKQ KQ
           try simp only [Act.put, List.getElem_toArray, List.getElem_cons_zero, List.getElem_cons_succ, List.setIfInBounds_toArray, List.set_cons_zero, List.set_cons_succ]
           refine wpAnyH_ready (rs := [6]) (by kernel_rfl) (by simp) ?_
           refine AllReadyH.cons rfl (fun KQ hKQ => ?_) AllReadyH.nil
           go_simp
           go_at_call 38
           refine (HFL.out efw8 _ _ is ib).mono ?_
           rintro e efw9 ⟨_, _, rfl, ⟨sq, xq, bq, rfl, hq, vq, tq⟩, ⟨sr, xr, br, rfl, hr, vr, tr⟩, gefw9⟩
           have iq : IntV efw9 (.agg #[.slice sq xq.length xq.length, .bool bq]) (Z9) := ⟨sq, xq, bq, rfl, hq, vq, tq⟩
           have ir : IntV efw9 (.agg #[.slice sr xr.length xr.length, .bool br]) (R9) := ⟨sr, xr, br, rfl, hr, vr, tr⟩
           replace Ba := heap_kept gefw9 Ba
           replace Bb := heap_kept gefw9 Bb
           replace Bg := heap_kept gefw9 Bg
           replace Be := heap_kept gefw9 Be
           replace Bk := heap_kept gefw9 Bk
           replace Bl := heap_kept gefw9 Bl
           replace ia := ia.kept gefw9
           replace ib := ib.kept gefw9
           replace ig := ig.kept gefw9
           replace ie := ie.kept gefw9
           replace im := im.kept gefw9
           replace is := is.kept gefw9
           replace hG := grown_trans hG gefw9
           replace hT := grown_trans hT gefw9
           clear gefw9
           clear hq vq tq
           clear hr vr tr
           (try go_wp2_with fail)
           refine hKQ.out _ _ (by exact ⟨(box_cells Bg).1, (box_cells Bg).2.1, (box_cells Ba).1, (box_cells Ba).2.1, (box_cells Be).1, (box_cells Be).2.1, (box_cells Bb).1, (box_cells Bb).2.1⟩) (fun hHeld => ?_)
           clear hKQ KQ
           try simp only [Act.put, List.getElem_toArray, List.getElem_cons_zero, List.getElem_cons_succ, List.setIfInBounds_toArray, List.set_cons_zero, List.set_cons_succ]
           refine wpAnyH_take (i := 7) (v := ?_) rfl (by kernel_rfl) (by kernel_rfl) (by kernel_rfl) (fun _ _ _ h => h) (Or.inl ⟨by rfl, ?_⟩) (by assumption) ?_
           rotate_left
           · (intro w hSw; (try dsimp only at hSw); go_simp; (try with_reducible rfl))
           try simp only [Act.put, List.getElem_toArray, List.getElem_cons_zero, List.getElem_cons_succ, List.setIfInBounds_toArray, List.set_cons_zero, List.set_cons_succ]
           refine wpAnyH_take (i := 8) (v := ?_) rfl (by kernel_rfl) (by kernel_rfl) (by kernel_rfl) (fun _ _ _ h => h) (Or.inl ⟨by rfl, ?_⟩) (by assumption) ?_
           rotate_left
           · (intro w hSw; (try dsimp only at hSw); go_simp; (try with_reducible rfl))
           try simp only [Act.put, List.getElem_toArray, List.getElem_cons_zero, List.getElem_cons_succ, List.setIfInBounds_toArray, List.set_cons_zero, List.set_cons_succ]
           refine wpAnyH_take (i := 9) (v := ?_) rfl (by kernel_rfl) (by kernel_rfl) (by kernel_rfl) (fun _ _ _ h => h) (Or.inl ⟨by rfl, ?_⟩) (by assumption) ?_
           rotate_left
           · (intro w hSw; (try dsimp only at hSw); go_simp; (try with_reducible rfl))
           try simp only [Act.put, List.getElem_toArray, List.getElem_cons_zero, List.getElem_cons_succ, List.setIfInBounds_toArray, List.set_cons_zero, List.set_cons_succ]
           refine wpAnyH_take (i := 10) (v := ?_) rfl (by kernel_rfl) (by kernel_rfl) (by kernel_rfl) (fun _ _ _ h => h) (Or.inl ⟨by rfl, ?_⟩) (by assumption) ?_
           rotate_left
           · (intro w hSw; (try dsimp only at hSw); go_simp; (try with_reducible rfl))
           try simp only [Act.put, List.getElem_toArray, List.getElem_cons_zero, List.getElem_cons_succ, List.setIfInBounds_toArray, List.set_cons_zero, List.set_cons_succ]
          rotate_left 1
         rotate_left 2
         focus
          have gA := World.grownBy_alloc efw6 (.cells #[.slice none 0 0, .bool false] 26) none
          have lohGl : w.heap.size ≤ efw6.heap.size := hG.size
          have lohTl : w0.heap.size ≤ efw6.heap.size := hT.size
          have ltal : w.heap.size < efw6.heap.size := heap_lt Ba
          have ltbl : w.heap.size + 1 < efw6.heap.size := heap_lt Bb
          have ltgl : pg < efw6.heap.size := heap_lt Bg
          have ltel : aw1 < efw6.heap.size := heap_lt Be
          have Bl_ := heap_new efw6 (.cells #[.slice none 0 0, .bool false] 26) efw6.heap.size rfl
          replace Ba := heap_kept gA Ba
          replace Bb := heap_kept gA Bb
          replace Bg := heap_kept gA Bg
          replace Be := heap_kept gA Be
          replace ia := ia.kept gA
          replace ib := ib.kept gA
          replace ig := ig.kept gA
          replace ie := ie.kept gA
          replace im := im.kept gA
          replace is := is.kept gA
          replace hG := grown_trans hG gA
          replace hT := grown_trans hT gA
          clear gA
          go_simp
          generalize (efw6.alloc (.cells #[.slice none 0 0, .bool false] 26)) = efw7 at *
          generalize efw6.heap.size = pl at *
          have Bl := Bl_
          clear Bl_
          refine hKQ.out _ _ (by exact ⟨(box_cells Bg).1, (box_cells Bg).2.1, (box_cells Ba).1, (box_cells Ba).2.1, (box_cells Be).1, (box_cells Be).2.1, (box_cells Bb).1, (box_cells Bb).2.1⟩) (fun hHeld => ?_)
          clear hKQ KQ
          try simp only [Act.put, List.getElem_toArray, List.getElem_cons_zero, List.getElem_cons_succ, List.setIfInBounds_toArray, List.set_cons_zero, List.set_cons_succ]
          refine wpAnyH_ready (rs := [6, 11]) (by kernel_rfl) (by simp) ?_
          refine AllReadyH.cons rfl (fun KQ hKQ => ?_) (AllReadyH.cons rfl (fun KQ hKQ => ?_) AllReadyH.nil)
          focus
           go_simp
           go_at_call 38
           refine (HFL.out efw7 _ _ is ib).mono ?_
           rintro e efw8 ⟨_, _, rfl, ⟨sq, xq, bq, rfl, hq, vq, tq⟩, ⟨sr, xr, br, rfl, hr, vr, tr⟩, gefw8⟩
           have iq : IntV efw8 (.agg #[.slice sq xq.length xq.length, .bool bq]) (Z9) := ⟨sq, xq, bq, rfl, hq, vq, tq⟩
           have ir : IntV efw8 (.agg #[.slice sr xr.length xr.length, .bool br]) (R9) := ⟨sr, xr, br, rfl, hr, vr, tr⟩
           replace Ba := heap_kept gefw8 Ba
           replace Bb := heap_kept gefw8 Bb
           replace Bg := heap_kept gefw8 Bg
           replace Be := heap_kept gefw8 Be
           replace Bl := heap_kept gefw8 Bl
           replace ia := ia.kept gefw8
           replace ib := ib.kept gefw8
           replace ig := ig.kept gefw8
           replace ie := ie.kept gefw8
           replace im := im.kept gefw8
           replace is := is.kept gefw8
           replace hG := grown_trans hG gefw8
           replace hT := grown_trans hT gefw8
           clear gefw8
           clear hq vq tq
           clear hr vr tr
           (try go_wp2_with fail)
           refine hKQ.out _ _ (by exact ⟨(box_cells Bg).1, (box_cells Bg).2.1, (box_cells Ba).1, (box_cells Ba).2.1, (box_cells Be).1, (box_cells Be).2.1, (box_cells Bb).1, (box_cells Bb).2.1⟩) (fun hHeld => ?_)
           clear hKQ KQ
           try simp only [Act.put, List.getElem_toArray, List.getElem_cons_zero, List.getElem_cons_succ, List.setIfInBounds_toArray, List.set_cons_zero, List.set_cons_succ]
           refine wpAnyH_take (i := 7) (v := ?_) rfl (by kernel_rfl) (by kernel_rfl) (by kernel_rfl) (fun _ _ _ h => h) (Or.inl ⟨by rfl, ?_⟩) (by assumption) ?_
           rotate_left
           · (intro w hSw; (try dsimp only at hSw); go_simp; (try with_reducible rfl))
           try simp only [Act.put, List.getElem_toArray, List.getElem_cons_zero, List.getElem_cons_succ, List.setIfInBounds_toArray, List.set_cons_zero, List.set_cons_succ]
           refine wpAnyH_take (i := 8) (v := ?_) rfl (by kernel_rfl) (by kernel_rfl) (by kernel_rfl) (fun _ _ _ h => h) (Or.inl ⟨by rfl, ?_⟩) (by assumption) ?_
           rotate_left
           · (intro w hSw; (try dsimp only at hSw); go_simp; (try with_reducible rfl))
           try simp only [Act.put, List.getElem_toArray, List.getElem_cons_zero, List.getElem_cons_succ, List.setIfInBounds_toArray, List.set_cons_zero, List.set_cons_succ]
           refine wpAnyH_take (i := 9) (v := ?_) rfl (by kernel_rfl) (by kernel_rfl) (by kernel_rfl) (fun _ _ _ h => h) (Or.inl ⟨by rfl, ?_⟩) (by assumption) ?_
           rotate_left
           · (intro w hSw; (try dsimp only at hSw); go_simp; (try with_reducible rfl))
           try simp only [Act.put, List.getElem_toArray, List.getElem_cons_zero, List.getElem_cons_succ, List.setIfInBounds_toArray, List.set_cons_zero, List.set_cons_succ]
           refine wpAnyH_take (i := 10) (v := ?_) rfl (by kernel_rfl) (by kernel_rfl) (by kernel_rfl) (fun _ _ _ h => h) (Or.inl ⟨by rfl, ?_⟩) (by assumption) ?_
           rotate_left
           · (intro w hSw; (try dsimp only at hSw); go_simp; (try with_reducible rfl))
           try simp only [Act.put, List.getElem_toArray, List.getElem_cons_zero, List.getElem_cons_succ, List.setIfInBounds_toArray, List.set_cons_zero, List.set_cons_succ]
           refine wpAnyH_ready (rs := [11]) (by kernel_rfl) (by simp) ?_
           refine AllReadyH.cons rfl (fun KQ hKQ => ?_) AllReadyH.nil
           have gA := World.grownBy_alloc efw8 (.cells #[.slice none 0 0, .bool false] 26) none
           have lohGk : w.heap.size ≤ efw8.heap.size := hG.size
           have lohTk : w0.heap.size ≤ efw8.heap.size := hT.size
           have ltak : w.heap.size < efw8.heap.size := heap_lt Ba
           have ltbk : w.heap.size + 1 < efw8.heap.size := heap_lt Bb
           have ltgk : pg < efw8.heap.size := heap_lt Bg
           have ltek : aw1 < efw8.heap.size := heap_lt Be
           have ltlk : pl < efw8.heap.size := heap_lt Bl
           have Bk_ := heap_new efw8 (.cells #[.slice none 0 0, .bool false] 26) efw8.heap.size rfl
           replace Ba := heap_kept gA Ba
           replace Bb := heap_kept gA Bb
           replace Bg := heap_kept gA Bg
           replace Be := heap_kept gA Be
           replace Bl := heap_kept gA Bl
           replace ia := ia.kept gA
           replace ib := ib.kept gA
           replace ig := ig.kept gA
           replace ie := ie.kept gA
           replace im := im.kept gA
           replace is := is.kept gA
           replace iq := iq.kept gA
           replace ir := ir.kept gA
           replace hG := grown_trans hG gA
           replace hT := grown_trans hT gA
           clear gA
           go_simp
           generalize (efw8.alloc (.cells #[.slice none 0 0, .bool false] 26)) = efw9 at *
           generalize efw8.heap.size = pk at *
           have Bk := Bk_
           clear Bk_
           refine hKQ.out _ _ (by exact ⟨(box_cells Bg).1, (box_cells Bg).2.1, (box_cells Ba).1, (box_cells Ba).2.1, (box_cells Be).1, (box_cells Be).2.1, (box_cells Bb).1, (box_cells Bb).2.1⟩) (fun hHeld => ?_)
           clear hKQ KQ
           try simp only [Act.put, List.getElem_toArray, List.getElem_cons_zero, List.getElem_cons_succ, List.setIfInBounds_toArray, List.set_cons_zero, List.set_cons_succ]
          rotate_left 1
          focus
           have gA := World.grownBy_alloc efw7 (.cells #[.slice none 0 0, .bool false] 26) none
           have lohGk : w.heap.size ≤ efw7.heap.size := hG.size
           have lohTk : w0.heap.size ≤ efw7.heap.size := hT.size
           have ltak : w.heap.size < efw7.heap.size := heap_lt Ba
           have ltbk : w.heap.size + 1 < efw7.heap.size := heap_lt Bb
           have ltgk : pg < efw7.heap.size := heap_lt Bg
           have ltek : aw1 < efw7.heap.size := heap_lt Be
           have ltlk : pl < efw7.heap.size := heap_lt Bl
           have Bk_ := heap_new efw7 (.cells #[.slice none 0 0, .bool false] 26) efw7.heap.size rfl
           replace Ba := heap_kept gA Ba
           replace Bb := heap_kept gA Bb
           replace Bg := heap_kept gA Bg
           replace Be := heap_kept gA Be
           replace Bl := heap_kept gA Bl
           replace ia := ia.kept gA
           replace ib := ib.kept gA
           replace ig := ig.kept gA
           replace ie := ie.kept gA
           replace im := im.kept gA
           replace is := is.kept gA
           replace hG := grown_trans hG gA
           replace hT := grown_trans hT gA
           clear gA
           go_simp
           generalize (efw7.alloc (.cells #[.slice none 0 0, .bool false] 26)) = efw8 at *
           generalize efw7.heap.size = pk at *
           have Bk := Bk_
           clear Bk_
           refine hKQ.out _ _ (by exact ⟨(box_cells Bg).1, (box_cells Bg).2.1, (box_cells Ba).1, (box_cells Ba).2.1, (box_cells Be).1, (box_cells Be).2.1, (box_cells Bb).1, (box_cells Bb).2.1⟩) (fun hHeld => ?_)
           clear hKQ KQ
           try simp only [Act.put, List.getElem_toArray, List.getElem_cons_zero, List.getElem_cons_succ, List.setIfInBounds_toArray, List.set_cons_zero, List.set_cons_succ]
           refine wpAnyH_ready (rs := [6]) (by kernel_rfl) (by simp) ?_
           refine AllReadyH.cons rfl (fun KQ hKQ => ?_) AllReadyH.nil
           go_simp
           go_at_call 38
           refine (HFL.out efw8 _ _ is ib).mono ?_
           rintro e efw9 ⟨_, _, rfl, ⟨sq, xq, bq, rfl, hq, vq, tq⟩, ⟨sr, xr, br, rfl, hr, vr, tr⟩, gefw9⟩
           have iq : IntV efw9 (.agg #[.slice sq xq.length xq.length, .bool bq]) (Z9) := ⟨sq, xq, bq, rfl, hq, vq, tq⟩
           have ir : IntV efw9 (.agg #[.slice sr xr.length xr.length, .bool br]) (R9) := ⟨sr, xr, br, rfl, hr, vr, tr⟩
           replace Ba := heap_kept gefw9 Ba
           replace Bb := heap_kept gefw9 Bb
           replace Bg := heap_kept gefw9 Bg
           replace Be := heap_kept gefw9 Be
           replace Bl := heap_kept gefw9 Bl
           replace Bk := heap_kept gefw9 Bk
           replace ia := ia.kept gefw9
           replace ib := ib.kept gefw9
           replace ig := ig.kept gefw9
           replace ie := ie.kept gefw9
           replace im := im.kept gefw9
           replace is := is.kept gefw9
           replace hG := grown_trans hG gefw9
           replace hT := grown_trans hT gefw9
           clear gefw9
           clear hq vq tq
           clear hr vr tr
           (try go_wp2_with fail)
           refine hKQ.out _ _ (by exact ⟨(box_cells Bg).1, (box_cells Bg).2.1, (box_cells Ba).1, (box_cells Ba).2.1, (box_cells Be).1, (box_cells Be).2.1, (box_cells Bb).1, (box_cells Bb).2.1⟩) (fun hHeld => ?_)
           clear hKQ KQ
           try simp only [Act.put, List.getElem_toArray, List.getElem_cons_zero, List.getElem_cons_succ, List.setIfInBounds_toArray, List.set_cons_zero, List.set_cons_succ]
           refine wpAnyH_take (i := 7) (v := ?_) rfl (by kernel_rfl) (by kernel_rfl) (by kernel_rfl) (fun _ _ _ h => h) (Or.inl ⟨by rfl, ?_⟩) (by assumption) ?_
           rotate_left
           · (intro w hSw; (try dsimp only at hSw); go_simp; (try with_reducible rfl))
           try simp only [Act.put, List.getElem_toArray, List.getElem_cons_zero, List.getElem_cons_succ, List.setIfInBounds_toArray, List.set_cons_zero, List.set_cons_succ]
           refine wpAnyH_take (i := 8) (v := ?_) rfl (by kernel_rfl) (by kernel_rfl) (by kernel_rfl) (fun _ _ _ h => h) (Or.inl ⟨by rfl, ?_⟩) (by assumption) ?_
           rotate_left
           · (intro w hSw; (try dsimp only at hSw); go_simp; (try with_reducible rfl))
           try simp only [Act.put, List.getElem_toArray, List.getElem_cons_zero, List.getElem_cons_succ, List.setIfInBounds_toArray, List.set_cons_zero, List.set_cons_succ]
           refine wpAnyH_take (i := 9) (v := ?_) rfl (by kernel_rfl) (by kernel_rfl) (by kernel_rfl) (fun _ _ _ h => h) (Or.inl ⟨by rfl, ?_⟩) (by assumption) ?_
           rotate_left
           · (intro w hSw; (try dsimp only at hSw); go_simp; (try with_reducible rfl))
           try simp only [Act.put, List.getElem_toArray, List.getElem_cons_zero, List.getElem_cons_succ, List.setIfInBounds_toArray, List.set_cons_zero, List.set_cons_succ]
           refine wpAnyH_take (i := 10) (v := ?_) rfl (by kernel_rfl) (by kernel_rfl) (by kernel_rfl) (fun _ _ _ h => h) (Or.inl ⟨by rfl, ?_⟩) (by assumption) ?_
           rotate_left
           · (intro w hSw; (try dsimp only at hSw); go_simp; (try with_reducible rfl))
           try simp only [Act.put, List.getElem_toArray, List.getElem_cons_zero, List.getElem_cons_succ, List.setIfInBounds_toArray, List.set_cons_zero, List.set_cons_succ]
          rotate_left 1
         rotate_left 2
        rotate_left 6
        focus
         have gA := World.grownBy_alloc efw5 (.cells #[.slice none 0 0, .bool false] 26) none
         have lohGk : w.heap.size ≤ efw5.heap.size := hG.size
         have lohTk : w0.heap.size ≤ efw5.heap.size := hT.size
         have ltak : w.heap.size < efw5.heap.size := heap_lt Ba
         have ltbk : w.heap.size + 1 < efw5.heap.size := heap_lt Bb
         have ltgk : pg < efw5.heap.size := heap_lt Bg
         have ltek : aw1 < efw5.heap.size := heap_lt Be
         have Bk_ := heap_new efw5 (.cells #[.slice none 0 0, .bool false] 26) efw5.heap.size rfl
         replace Ba := heap_kept gA Ba
         replace Bb := heap_kept gA Bb
         replace Bg := heap_kept gA Bg
         replace Be := heap_kept gA Be
         replace ia := ia.kept gA
         replace ib := ib.kept gA
         replace ig := ig.kept gA
         replace ie := ie.kept gA
         replace im := im.kept gA
         replace hG := grown_trans hG gA
         replace hT := grown_trans hT gA
         clear gA
         go_simp
         generalize (efw5.alloc (.cells #[.slice none 0 0, .bool false] 26)) = efw6 at *
         generalize efw5.heap.size = pk at *
         have Bk := Bk_
         clear Bk_
         refine hKQ.out _ _ (by exact ⟨(box_cells Bg).1, (box_cells Bg).2.1, (box_cells Ba).1, (box_cells Ba).2.1, (box_cells Be).1, (box_cells Be).2.1, (box_cells Bb).1, (box_cells Bb).2.1⟩) (fun hHeld => ?_)
         clear hKQ KQ
         try simp only [Act.put, List.getElem_toArray, List.getElem_cons_zero, List.getElem_cons_succ, List.setIfInBounds_toArray, List.set_cons_zero, List.set_cons_succ]
         refine wpAnyH_ready (rs := [4, 12]) (by kernel_rfl) (by simp) ?_
         refine AllReadyH.cons rfl (fun KQ hKQ => ?_) (AllReadyH.cons rfl (fun KQ hKQ => ?_) AllReadyH.nil)
         focus
          go_simp
          go_at_call 31
          refine (ZSub_any efw6 _ _ (G : Int) (x * (X * sgn)) (K + 1 + (K + 1) + (K + 1 + (K + 1))) ig im (by omega) LGG.out LAU.out).mono ?_
          rintro e efw7 ⟨_, rfl, ⟨ss, xs, bs, rfl, hs, vs, ts⟩, gefw7⟩
          have is : IntV efw7 (.agg #[.slice ss xs.length xs.length, .bool bs]) ((G : Int) - x * (X * sgn)) := ⟨ss, xs, bs, rfl, hs, vs, ts⟩
          replace Ba := heap_kept gefw7 Ba
          replace Bb := heap_kept gefw7 Bb
          replace Bg := heap_kept gefw7 Bg
          replace Be := heap_kept gefw7 Be
          replace Bk := heap_kept gefw7 Bk
          replace ia := ia.kept gefw7
          replace ib := ib.kept gefw7
          replace ig := ig.kept gefw7
          replace ie := ie.kept gefw7
          replace im := im.kept gefw7
          replace hG := grown_trans hG gefw7
          replace hT := grown_trans hT gefw7
          clear gefw7
          clear hs vs ts
          (try go_wp2_with fail)
          refine hKQ.out _ _ (by exact ⟨(box_cells Bg).1, (box_cells Bg).2.1, (box_cells Ba).1, (box_cells Ba).2.1, (box_cells Be).1, (box_cells Be).2.1, (box_cells Bb).1, (box_cells Bb).2.1⟩) (fun hHeld => ?_)
          clear hKQ KQ
          try simp only [Act.put, List.getElem_toArray, List.getElem_cons_zero, List.getElem_cons_succ, List.setIfInBounds_toArray, List.set_cons_zero, List.set_cons_succ]
          refine wpAnyH_ready (rs := [6, 12]) (by kernel_rfl) (by simp) ?_
          refine AllReadyH.cons rfl (fun KQ hKQ => ?_) (AllReadyH.cons rfl (fun KQ hKQ => ?_) AllReadyH.nil)
          focus
           go_simp
           go_at_call 38
           refine (HFL.out efw7 _ _ is ib).mono ?_
           rintro e efw8 ⟨_, _, rfl, ⟨sq, xq, bq, rfl, hq, vq, tq⟩, ⟨sr, xr, br, rfl, hr, vr, tr⟩, gefw8⟩
           have iq : IntV efw8 (.agg #[.slice sq xq.length xq.length, .bool bq]) (Z9) := ⟨sq, xq, bq, rfl, hq, vq, tq⟩
           have ir : IntV efw8 (.agg #[.slice sr xr.length xr.length, .bool br]) (R9) := ⟨sr, xr, br, rfl, hr, vr, tr⟩
           replace Ba := heap_kept gefw8 Ba
           replace Bb := heap_kept gefw8 Bb
           replace Bg := heap_kept gefw8 Bg
           replace Be := heap_kept gefw8 Be
           replace Bk := heap_kept gefw8 Bk
           replace ia := ia.kept gefw8
           replace ib := ib.kept gefw8
           replace ig := ig.kept gefw8
           replace ie := ie.kept gefw8
           replace im := im.kept gefw8
           replace is := is.kept gefw8
           replace hG := grown_trans hG gefw8
           replace hT := grown_trans hT gefw8
           clear gefw8
           clear hq vq tq
           clear hr vr tr
           (try go_wp2_with fail)
           refine hKQ.out _ _ (by exact ⟨(box_cells Bg).1, (box_cells Bg).2.1, (box_cells Ba).1, (box_cells Ba).2.1, (box_cells Be).1, (box_cells Be).2.1, (box_cells Bb).1, (box_cells Bb).2.1⟩) (fun hHeld => ?_)
           clear hKQ KQ
           try simp only [Act.put, List.getElem_toArray, List.getElem_cons_zero, List.getElem_cons_succ, List.setIfInBounds_toArray, List.set_cons_zero, List.set_cons_succ]
           refine wpAnyH_take (i := 7) (v := ?_) rfl (by kernel_rfl) (by kernel_rfl) (by kernel_rfl) (fun _ _ _ h => h) (Or.inl ⟨by rfl, ?_⟩) (by assumption) ?_
           rotate_left
           · (intro w hSw; (try dsimp only at hSw); go_simp; (try with_reducible rfl))
           try simp only [Act.put, List.getElem_toArray, List.getElem_cons_zero, List.getElem_cons_succ, List.setIfInBounds_toArray, List.set_cons_zero, List.set_cons_succ]
           refine wpAnyH_take (i := 8) (v := ?_) rfl (by kernel_rfl) (by kernel_rfl) (by kernel_rfl) (fun _ _ _ h => h) (Or.inl ⟨by rfl, ?_⟩) (by assumption) ?_
           rotate_left
           · (intro w hSw; (try dsimp only at hSw); go_simp; (try with_reducible rfl))
           try simp only [Act.put, List.getElem_toArray, List.getElem_cons_zero, List.getElem_cons_succ, List.setIfInBounds_toArray, List.set_cons_zero, List.set_cons_succ]
           refine wpAnyH_take (i := 9) (v := ?_) rfl (by kernel_rfl) (by kernel_rfl) (by kernel_rfl) (fun _ _ _ h => h) (Or.inl ⟨by rfl, ?_⟩) (by assumption) ?_
           rotate_left
           · (intro w hSw; (try dsimp only at hSw); go_simp; (try with_reducible rfl))
           try simp only [Act.put, List.getElem_toArray, List.getElem_cons_zero, List.getElem_cons_succ, List.setIfInBounds_toArray, List.set_cons_zero, List.set_cons_succ]
           refine wpAnyH_take (i := 10) (v := ?_) rfl (by kernel_rfl) (by kernel_rfl) (by kernel_rfl) (fun _ _ _ h => h) (Or.inl ⟨by rfl, ?_⟩) (by assumption) ?_
           rotate_left
           · (intro w hSw; (try dsimp only at hSw); go_simp; (try with_reducible rfl))
           try simp only [Act.put, List.getElem_toArray, List.getElem_cons_zero, List.getElem_cons_succ, List.setIfInBounds_toArray, List.set_cons_zero, List.set_cons_succ]
           refine wpAnyH_ready (rs := [12]) (by kernel_rfl) (by simp) ?_
           refine AllReadyH.cons rfl (fun KQ hKQ => ?_) AllReadyH.nil
           have gA := World.grownBy_alloc efw8 (.cells #[.slice none 0 0, .bool false] 26) none
           have lohGl : w.heap.size ≤ efw8.heap.size := hG.size
           have lohTl : w0.heap.size ≤ efw8.heap.size := hT.size
           have ltal : w.heap.size < efw8.heap.size := heap_lt Ba
           have ltbl : w.heap.size + 1 < efw8.heap.size := heap_lt Bb
           have ltgl : pg < efw8.heap.size := heap_lt Bg
           have ltel : aw1 < efw8.heap.size := heap_lt Be
           have ltkl : pk < efw8.heap.size := heap_lt Bk
           have Bl_ := heap_new efw8 (.cells #[.slice none 0 0, .bool false] 26) efw8.heap.size rfl
           replace Ba := heap_kept gA Ba
           replace Bb := heap_kept gA Bb
           replace Bg := heap_kept gA Bg
           replace Be := heap_kept gA Be
           replace Bk := heap_kept gA Bk
           replace ia := ia.kept gA
           replace ib := ib.kept gA
           replace ig := ig.kept gA
           replace ie := ie.kept gA
           replace im := im.kept gA
           replace is := is.kept gA
           replace iq := iq.kept gA
           replace ir := ir.kept gA
           replace hG := grown_trans hG gA
           replace hT := grown_trans hT gA
           clear gA
           go_simp
           generalize (efw8.alloc (.cells #[.slice none 0 0, .bool false] 26)) = efw9 at *
           generalize efw8.heap.size = pl at *
           have Bl := Bl_
           clear Bl_
           refine hKQ.out _ _ (by exact ⟨(box_cells Bg).1, (box_cells Bg).2.1, (box_cells Ba).1, (box_cells Ba).2.1, (box_cells Be).1, (box_cells Be).2.1, (box_cells Bb).1, (box_cells Bb).2.1⟩) (fun hHeld => ?_)
           clear hKQ KQ
           try simp only [Act.put, List.getElem_toArray, List.getElem_cons_zero, List.getElem_cons_succ, List.setIfInBounds_toArray, List.set_cons_zero, List.set_cons_succ]
          rotate_left 1
          focus
           have gA := World.grownBy_alloc efw7 (.cells #[.slice none 0 0, .bool false] 26) none
           have lohGl : w.heap.size ≤ efw7.heap.size := hG.size
           have lohTl : w0.heap.size ≤ efw7.heap.size := hT.size
           have ltal : w.heap.size < efw7.heap.size := heap_lt Ba
           have ltbl : w.heap.size + 1 < efw7.heap.size := heap_lt Bb
           have ltgl : pg < efw7.heap.size := heap_lt Bg
           have ltel : aw1 < efw7.heap.size := heap_lt Be
           have ltkl : pk < efw7.heap.size := heap_lt Bk
           have Bl_ := heap_new efw7 (.cells #[.slice none 0 0, .bool false] 26) efw7.heap.size rfl
           replace Ba := heap_kept gA Ba
           replace Bb := heap_kept gA Bb
           replace Bg := heap_kept gA Bg
           replace Be := heap_kept gA Be
           replace Bk := heap_kept gA Bk
           replace ia := ia.kept gA
           replace ib := ib.kept gA
           replace ig := ig.kept gA
           replace ie := ie.kept gA
           replace im := im.kept gA
           replace is := is.kept gA
           replace hG := grown_trans hG gA
           replace hT := grown_trans hT gA
           clear gA
           go_simp
           generalize (efw7.alloc (.cells #[.slice none 0 0, .bool false] 26)) = efw8 at *
           generalize efw7.heap.size = pl at *
           have Bl := Bl_
           clear Bl_
           refine hKQ.out _ _ (by exact ⟨(box_cells Bg).1, (box_cells Bg).2.1, (box_cells Ba).1, (box_cells Ba).2.1, (box_cells Be).1, (box_cells Be).2.1, (box_cells Bb).1, (box_cells Bb).2.1⟩) (fun hHeld => ?_)
           clear hKQ KQ
           try simp only [Act.put, List.getElem_toArray, List.getElem_cons_zero, List.getElem_cons_succ, List.setIfInBounds_toArray, List.set_cons_zero, List.set_cons_succ]
           refine wpAnyH_ready (rs := [6]) (by kernel_rfl) (by simp) ?_
           refine AllReadyH.cons rfl (fun KQ hKQ => ?_) AllReadyH.nil
           go_simp
           go_at_call 38
           refine (HFL.out efw8 _ _ is ib).mono ?_
           rintro e efw9 ⟨_, _, rfl, ⟨sq, xq, bq, rfl, hq, vq, tq⟩, ⟨sr, xr, br, rfl, hr, vr, tr⟩, gefw9⟩
           have iq : IntV efw9 (.agg #[.slice sq xq.length xq.length, .bool bq]) (Z9) := ⟨sq, xq, bq, rfl, hq, vq, tq⟩
           have ir : IntV efw9 (.agg #[.slice sr xr.length xr.length, .bool br]) (R9) := ⟨sr, xr, br, rfl, hr, vr, tr⟩
           replace Ba := heap_kept gefw9 Ba
           replace Bb := heap_kept gefw9 Bb
           replace Bg := heap_kept gefw9 Bg
           replace Be := heap_kept gefw9 Be
           replace Bk := heap_kept gefw9 Bk
           replace Bl := heap_kept gefw9 Bl
           replace ia := ia.kept gefw9
           replace ib := ib.kept gefw9
           replace ig := ig.kept gefw9
           replace ie := ie.kept gefw9
           replace im := im.kept gefw9
           replace is := is.kept gefw9
           replace hG := grown_trans hG gefw9
           replace hT := grown_trans hT gefw9
           clear gefw9
           clear hq vq tq
           clear hr vr tr
           (try go_wp2_with fail)
           refine hKQ.out _ _ (by exact ⟨(box_cells Bg).1, (box_cells Bg).2.1, (box_cells Ba).1, (box_cells Ba).2.1, (box_cells Be).1, (box_cells Be).2.1, (box_cells Bb).1, (box_cells Bb).2.1⟩) (fun hHeld => ?_)
           clear hKQ KQ
           try simp only [Act.put, List.getElem_toArray, List.getElem_cons_zero, List.getElem_cons_succ, List.setIfInBounds_toArray, List.set_cons_zero, List.set_cons_succ]
           refine wpAnyH_take (i := 7) (v := ?_) rfl (by kernel_rfl) (by kernel_rfl) (by kernel_rfl) (fun _ _ _ h => h) (Or.inl ⟨by rfl, ?_⟩) (by assumption) ?_
           rotate_left
           · (intro w hSw; (try dsimp only at hSw); go_simp; (try with_reducible rfl))
           try simp only [Act.put, List.getElem_toArray, List.getElem_cons_zero, List.getElem_cons_succ, List.setIfInBounds_toArray, List.set_cons_zero, List.set_cons_succ]
           refine wpAnyH_take (i := 8) (v := ?_) rfl (by kernel_rfl) (by kernel_rfl) (by kernel_rfl) (fun _ _ _ h => h) (Or.inl ⟨by rfl, ?_⟩) (by assumption) ?_
           rotate_left
           · (intro w hSw; (try dsimp only at hSw); go_simp; (try with_reducible rfl))
           try simp only [Act.put, List.getElem_toArray, List.getElem_cons_zero, List.getElem_cons_succ, List.setIfInBounds_toArray, List.set_cons_zero, List.set_cons_succ]
           refine wpAnyH_take (i := 9) (v := ?_) rfl (by kernel_rfl) (by kernel_rfl) (by kernel_rfl) (fun _ _ _ h => h) (Or.inl ⟨by rfl, ?_⟩) (by assumption) ?_
           rotate_left
           · (intro w hSw; (try dsimp only at hSw); go_simp; (try with_reducible rfl))
           try simp only [Act.put, List.getElem_toArray, List.getElem_cons_zero, List.getElem_cons_succ, List.setIfInBounds_toArray, List.set_cons_zero, List.set_cons_succ]
           refine wpAnyH_take (i := 10) (v := ?_) rfl (by kernel_rfl) (by kernel_rfl) (by kernel_rfl) (fun _ _ _ h => h) (Or.inl ⟨by rfl, ?_⟩) (by assumption) ?_
           rotate_left
           · (intro w hSw; (try dsimp only at hSw); go_simp; (try with_reducible rfl))
           try simp only [Act.put, List.getElem_toArray, List.getElem_cons_zero, List.getElem_cons_succ, List.setIfInBounds_toArray, List.set_cons_zero, List.set_cons_succ]
          rotate_left 1
         rotate_left 2
         focus
          have gA := World.grownBy_alloc efw6 (.cells #[.slice none 0 0, .bool false] 26) none
          have lohGl : w.heap.size ≤ efw6.heap.size := hG.size
          have lohTl : w0.heap.size ≤ efw6.heap.size := hT.size
          have ltal : w.heap.size < efw6.heap.size := heap_lt Ba
          have ltbl : w.heap.size + 1 < efw6.heap.size := heap_lt Bb
          have ltgl : pg < efw6.heap.size := heap_lt Bg
          have ltel : aw1 < efw6.heap.size := heap_lt Be
          have ltkl : pk < efw6.heap.size := heap_lt Bk
          have Bl_ := heap_new efw6 (.cells #[.slice none 0 0, .bool false] 26) efw6.heap.size rfl
          replace Ba := heap_kept gA Ba
          replace Bb := heap_kept gA Bb
          replace Bg := heap_kept gA Bg
          replace Be := heap_kept gA Be
          replace Bk := heap_kept gA Bk
          replace ia := ia.kept gA
          replace ib := ib.kept gA
          replace ig := ig.kept gA
          replace ie := ie.kept gA
          replace im := im.kept gA
          replace hG := grown_trans hG gA
          replace hT := grown_trans hT gA
          clear gA
          go_simp
          generalize (efw6.alloc (.cells #[.slice none 0 0, .bool false] 26)) = efw7 at *
          generalize efw6.heap.size = pl at *
          have Bl := Bl_
          clear Bl_
          refine hKQ.out _ _ (by exact ⟨(box_cells Bg).1, (box_cells Bg).2.1, (box_cells Ba).1, (box_cells Ba).2.1, (box_cells Be).1, (box_cells Be).2.1, (box_cells Bb).1, (box_cells Bb).2.1⟩) (fun hHeld => ?_)
          clear hKQ KQ
          try simp only [Act.put, List.getElem_toArray, List.getElem_cons_zero, List.getElem_cons_succ, List.setIfInBounds_toArray, List.set_cons_zero, List.set_cons_succ]
          refine wpAnyH_ready (rs := [4]) (by kernel_rfl) (by simp) ?_
          refine AllReadyH.cons rfl (fun KQ hKQ => ?_) AllReadyH.nil
          go_simp
          go_at_call 31
          refine (ZSub_any efw7 _ _ (G : Int) (x * (X * sgn)) (K + 1 + (K + 1) + (K + 1 + (K + 1))) ig im (by omega) LGG.out LAU.out).mono ?_
          rintro e efw8 ⟨_, rfl, ⟨ss, xs, bs, rfl, hs, vs, ts⟩, gefw8⟩
          have is : IntV efw8 (.agg #[.slice ss xs.length xs.length, .bool bs]) ((G : Int) - x * (X * sgn)) := ⟨ss, xs, bs, rfl, hs, vs, ts⟩
          replace Ba := heap_kept gefw8 Ba
          replace Bb := heap_kept gefw8 Bb
          replace Bg := heap_kept gefw8 Bg
          replace Be := heap_kept gefw8 Be
          replace Bk := heap_kept gefw8 Bk
          replace Bl := heap_kept gefw8 Bl
          replace ia := ia.kept gefw8
          replace ib := ib.kept gefw8
          replace ig := ig.kept gefw8
          replace ie := ie.kept gefw8
          replace im := im.kept gefw8
          replace hG := grown_trans hG gefw8
          replace hT := grown_trans hT gefw8
          clear gefw8
          clear hs vs ts
          (try go_wp2_with fail)
          refine hKQ.out _ _ (by exact ⟨(box_cells Bg).1, (box_cells Bg).2.1, (box_cells Ba).1, (box_cells Ba).2.1, (box_cells Be).1, (box_cells Be).2.1, (box_cells Bb).1, (box_cells Bb).2.1⟩) (fun hHeld => ?_)
          clear hKQ KQ
          try simp only [Act.put, List.getElem_toArray, List.getElem_cons_zero, List.getElem_cons_succ, List.setIfInBounds_toArray, List.set_cons_zero, List.set_cons_succ]
          refine wpAnyH_ready (rs := [6]) (by kernel_rfl) (by simp) ?_
          refine AllReadyH.cons rfl (fun KQ hKQ => ?_) AllReadyH.nil
          go_simp
          go_at_call 38
          refine (HFL.out efw8 _ _ is ib).mono ?_
          rintro e efw9 ⟨_, _, rfl, ⟨sq, xq, bq, rfl, hq, vq, tq⟩, ⟨sr, xr, br, rfl, hr, vr, tr⟩, gefw9⟩
          have iq : IntV efw9 (.agg #[.slice sq xq.length xq.length, .bool bq]) (Z9) := ⟨sq, xq, bq, rfl, hq, vq, tq⟩
          have ir : IntV efw9 (.agg #[.slice sr xr.length xr.length, .bool br]) (R9) := ⟨sr, xr, br, rfl, hr, vr, tr⟩
          replace Ba := heap_kept gefw9 Ba
          replace Bb := heap_kept gefw9 Bb
          replace Bg := heap_kept gefw9 Bg
          replace Be := heap_kept gefw9 Be
          replace Bk := heap_kept gefw9 Bk
          replace Bl := heap_kept gefw9 Bl
          replace ia := ia.kept gefw9
          replace ib := ib.kept gefw9
          replace ig := ig.kept gefw9
          replace ie := ie.kept gefw9
          replace im := im.kept gefw9
          replace is := is.kept gefw9
          replace hG := grown_trans hG gefw9
          replace hT := grown_trans hT gefw9
          clear gefw9
          clear hq vq tq
          clear hr vr tr
          (try go_wp2_with fail)
          refine hKQ.out _ _ (by exact ⟨(box_cells Bg).1, (box_cells Bg).2.1, (box_cells Ba).1, (box_cells Ba).2.1, (box_cells Be).1, (box_cells Be).2.1, (box_cells Bb).1, (box_cells Bb).2.1⟩) (fun hHeld => ?_)
          clear hKQ KQ
          try simp only [Act.put, List.getElem_toArray, List.getElem_cons_zero, List.getElem_cons_succ, List.setIfInBounds_toArray, List.set_cons_zero, List.set_cons_succ]
          refine wpAnyH_take (i := 7) (v := ?_) rfl (by kernel_rfl) (by kernel_rfl) (by kernel_rfl) (fun _ _ _ h => h) (Or.inl ⟨by rfl, ?_⟩) (by assumption) ?_
          rotate_left
          · (intro w hSw; (try dsimp only at hSw); go_simp; (try with_reducible rfl))
          try simp only [Act.put, List.getElem_toArray, List.getElem_cons_zero, List.getElem_cons_succ, List.setIfInBounds_toArray, List.set_cons_zero, List.set_cons_succ]
          refine wpAnyH_take (i := 8) (v := ?_) rfl (by kernel_rfl) (by kernel_rfl) (by kernel_rfl) (fun _ _ _ h => h) (Or.inl ⟨by rfl, ?_⟩) (by assumption) ?_
          rotate_left
          · (intro w hSw; (try dsimp only at hSw); go_simp; (try with_reducible rfl))
          try simp only [Act.put, List.getElem_toArray, List.getElem_cons_zero, List.getElem_cons_succ, List.setIfInBounds_toArray, List.set_cons_zero, List.set_cons_succ]
          refine wpAnyH_take (i := 9) (v := ?_) rfl (by kernel_rfl) (by kernel_rfl) (by kernel_rfl) (fun _ _ _ h => h) (Or.inl ⟨by rfl, ?_⟩) (by assumption) ?_
          rotate_left
          · (intro w hSw; (try dsimp only at hSw); go_simp; (try with_reducible rfl))
          try simp only [Act.put, List.getElem_toArray, List.getElem_cons_zero, List.getElem_cons_succ, List.setIfInBounds_toArray, List.set_cons_zero, List.set_cons_succ]
          refine wpAnyH_take (i := 10) (v := ?_) rfl (by kernel_rfl) (by kernel_rfl) (by kernel_rfl) (fun _ _ _ h => h) (Or.inl ⟨by rfl, ?_⟩) (by assumption) ?_
          rotate_left
          · (intro w hSw; (try dsimp only at hSw); go_simp; (try with_reducible rfl))
          try simp only [Act.put, List.getElem_toArray, List.getElem_cons_zero, List.getElem_cons_succ, List.setIfInBounds_toArray, List.set_cons_zero, List.set_cons_succ]
         rotate_left 1
        rotate_left 3
        focus
         have gA := World.grownBy_alloc efw5 (.cells #[.slice none 0 0, .bool false] 26) none
         have lohGl : w.heap.size ≤ efw5.heap.size := hG.size
         have lohTl : w0.heap.size ≤ efw5.heap.size := hT.size
         have ltal : w.heap.size < efw5.heap.size := heap_lt Ba
         have ltbl : w.heap.size + 1 < efw5.heap.size := heap_lt Bb
         have ltgl : pg < efw5.heap.size := heap_lt Bg
         have ltel : aw1 < efw5.heap.size := heap_lt Be
         have Bl_ := heap_new efw5 (.cells #[.slice none 0 0, .bool false] 26) efw5.heap.size rfl
         replace Ba := heap_kept gA Ba
         replace Bb := heap_kept gA Bb
         replace Bg := heap_kept gA Bg
         replace Be := heap_kept gA Be
         replace ia := ia.kept gA
         replace ib := ib.kept gA
         replace ig := ig.kept gA
         replace ie := ie.kept gA
         replace im := im.kept gA
         replace hG := grown_trans hG gA
         replace hT := grown_trans hT gA
         clear gA
         go_simp
         generalize (efw5.alloc (.cells #[.slice none 0 0, .bool false] 26)) = efw6 at *
         generalize efw5.heap.size = pl at *
         have Bl := Bl_
         clear Bl_
         refine hKQ.out _ _ (by exact ⟨(box_cells Bg).1, (box_cells Bg).2.1, (box_cells Ba).1, (box_cells Ba).2.1, (box_cells Be).1, (box_cells Be).2.1, (box_cells Bb).1, (box_cells Bb).2.1⟩) (fun hHeld => ?_)
         clear hKQ KQ
         try simp only [Act.put, List.getElem_toArray, List.getElem_cons_zero, List.getElem_cons_succ, List.setIfInBounds_toArray, List.set_cons_zero, List.set_cons_succ]
         refine wpAnyH_ready (rs := [4, 11]) (by kernel_rfl) (by simp) ?_
         refine AllReadyH.cons rfl (fun KQ hKQ => ?_) (AllReadyH.cons rfl (fun KQ hKQ => ?_) AllReadyH.nil)
         focus
          go_simp
          go_at_call 31
          refine (ZSub_any efw6 _ _ (G : Int) (x * (X * sgn)) (K + 1 + (K + 1) + (K + 1 + (K + 1))) ig im (by omega) LGG.out LAU.out).mono ?_
          rintro e efw7 ⟨_, rfl, ⟨ss, xs, bs, rfl, hs, vs, ts⟩, gefw7⟩
          have is : IntV efw7 (.agg #[.slice ss xs.length xs.length, .bool bs]) ((G : Int) - x * (X * sgn)) := ⟨ss, xs, bs, rfl, hs, vs, ts⟩
          replace Ba := heap_kept gefw7 Ba
          replace Bb := heap_kept gefw7 Bb
          replace Bg := heap_kept gefw7 Bg
          replace Be := heap_kept gefw7 Be
          replace Bl := heap_kept gefw7 Bl
          replace ia := ia.kept gefw7
          replace ib := ib.kept gefw7
          replace ig := ig.kept gefw7
          replace ie := ie.kept gefw7
          replace im := im.kept gefw7
          replace hG := grown_trans hG gefw7
          replace hT := grown_trans hT gefw7
          clear gefw7
          clear hs vs ts
          (try go_wp2_with fail)
          refine hKQ.out _ _ (by exact ⟨(box_cells Bg).1, (box_cells Bg).2.1, (box_cells Ba).1, (box_cells Ba).2.1, (box_cells Be).1, (box_cells Be).2.1, (box_cells Bb).1, (box_cells Bb).2.1⟩) (fun hHeld => ?_)
          clear hKQ KQ
          try simp only [Act.put, List.getElem_toArray, List.getElem_cons_zero, List.getElem_cons_succ, List.setIfInBounds_toArray, List.set_cons_zero, List.set_cons_succ]
          refine wpAnyH_ready (rs := [6, 11]) (by kernel_rfl) (by simp) ?_
          refine AllReadyH.cons rfl (fun KQ hKQ => ?_) (AllReadyH.cons rfl (fun KQ hKQ => ?_) AllReadyH.nil)
          focus
           go_simp
           go_at_call 38
           refine (HFL.out efw7 _ _ is ib).mono ?_
           rintro e efw8 ⟨_, _, rfl, ⟨sq, xq, bq, rfl, hq, vq, tq⟩, ⟨sr, xr, br, rfl, hr, vr, tr⟩, gefw8⟩
           have iq : IntV efw8 (.agg #[.slice sq xq.length xq.length, .bool bq]) (Z9) := ⟨sq, xq, bq, rfl, hq, vq, tq⟩
           have ir : IntV efw8 (.agg #[.slice sr xr.length xr.length, .bool br]) (R9) := ⟨sr, xr, br, rfl, hr, vr, tr⟩
           replace Ba := heap_kept gefw8 Ba
           replace Bb := heap_kept gefw8 Bb
           replace Bg := heap_kept gefw8 Bg
           replace Be := heap_kept gefw8 Be
           replace Bl := heap_kept gefw8 Bl
           replace ia := ia.kept gefw8
           replace ib := ib.kept gefw8
           replace ig := ig.kept gefw8
           replace ie := ie.kept gefw8
           replace im := im.kept gefw8
           replace is := is.kept gefw8
           replace hG := grown_trans hG gefw8
           replace hT := grown_trans hT gefw8
           clear gefw8
           clear hq vq tq
           clear hr vr tr
           (try go_wp2_with fail)
           refine hKQ.out _ _ (by exact ⟨(box_cells Bg).1, (box_cells Bg).2.1, (box_cells Ba).1, (box_cells Ba).2.1, (box_cells Be).1, (box_cells Be).2.1, (box_cells Bb).1, (box_cells Bb).2.1⟩) (fun hHeld => ?_)
           clear hKQ KQ
           try simp only [Act.put, List.getElem_toArray, List.getElem_cons_zero, List.getElem_cons_succ, List.setIfInBounds_toArray, List.set_cons_zero, List.set_cons_succ]
           refine wpAnyH_take (i := 7) (v := ?_) rfl (by kernel_rfl) (by kernel_rfl) (by kernel_rfl) (fun _ _ _ h => h) (Or.inl ⟨by rfl, ?_⟩) (by assumption) ?_
           rotate_left
           · (intro w hSw; (try dsimp only at hSw); go_simp; (try with_reducible rfl))
           try simp only [Act.put, List.getElem_toArray, List.getElem_cons_zero, List.getElem_cons_succ, List.setIfInBounds_toArray, List.set_cons_zero, List.set_cons_succ]
           refine wpAnyH_take (i := 8) (v := ?_) rfl (by kernel_rfl) (by kernel_rfl) (by kernel_rfl) (fun _ _ _ h => h) (Or.inl ⟨by rfl, ?_⟩) (by assumption) ?_
           rotate_left
           · (intro w hSw; (try dsimp only at hSw); go_simp; (try with_reducible rfl))
           try simp only [Act.put, List.getElem_toArray, List.getElem_cons_zero, List.getElem_cons_succ, List.setIfInBounds_toArray, List.set_cons_zero, List.set_cons_succ]
           refine wpAnyH_take (i := 9) (v := ?_) rfl (by kernel_rfl) (by kernel_rfl) (by kernel_rfl) (fun _ _ _ h => h) (Or.inl ⟨by rfl, ?_⟩) (by assumption) ?_
           rotate_left
           · (intro w hSw; (try dsimp only at hSw); go_simp; (try with_reducible rfl))
           try simp only [Act.put, List.getElem_toArray, List.getElem_cons_zero, List.getElem_cons_succ, List.setIfInBounds_toArray, List.set_cons_zero, List.set_cons_succ]
           refine wpAnyH_take (i := 10) (v := ?_) rfl (by kernel_rfl) (by kernel_rfl) (by kernel_rfl) (fun _ _ _ h => h) (Or.inl ⟨by rfl, ?_⟩) (by assumption) ?_
           rotate_left
           · (intro w hSw; (try dsimp only at hSw); go_simp; (try with_reducible rfl))
           try simp only [Act.put, List.getElem_toArray, List.getElem_cons_zero, List.getElem_cons_succ, List.setIfInBounds_toArray, List.set_cons_zero, List.set_cons_succ]
           refine wpAnyH_ready (rs := [11]) (by kernel_rfl) (by simp) ?_
           refine AllReadyH.cons rfl (fun KQ hKQ => ?_) AllReadyH.nil
           have gA := World.grownBy_alloc efw8 (.cells #[.slice none 0 0, .bool false] 26) none
           have lohGk : w.heap.size ≤ efw8.heap.size := hG.size
           have lohTk : w0.heap.size ≤ efw8.heap.size := hT.size
           have ltak : w.heap.size < efw8.heap.size := heap_lt Ba
           have ltbk : w.heap.size + 1 < efw8.heap.size := heap_lt Bb
           have ltgk : pg < efw8.heap.size := heap_lt Bg
           have ltek : aw1 < efw8.heap.size := heap_lt Be
           have ltlk : pl < efw8.heap.size := heap_lt Bl
           have Bk_ := heap_new efw8 (.cells #[.slice none 0 0, .bool false] 26) efw8.heap.size rfl
           replace Ba := heap_kept gA Ba
           replace Bb := heap_kept gA Bb
           replace Bg := heap_kept gA Bg
           replace Be := heap_kept gA Be
           replace Bl := heap_kept gA Bl
           replace ia := ia.kept gA
           replace ib := ib.kept gA
           replace ig := ig.kept gA
           replace ie := ie.kept gA
           replace im := im.kept gA
           replace is := is.kept gA
           replace iq := iq.kept gA
           replace ir := ir.kept gA
           replace hG := grown_trans hG gA
           replace hT := grown_trans hT gA
           clear gA
           go_simp
           generalize (efw8.alloc (.cells #[.slice none 0 0, .bool false] 26)) = efw9 at *
           generalize efw8.heap.size = pk at *
           have Bk := Bk_
           clear Bk_
           refine hKQ.out _ _ (by exact ⟨(box_cells Bg).1, (box_cells Bg).2.1, (box_cells Ba).1, (box_cells Ba).2.1, (box_cells Be).1, (box_cells Be).2.1, (box_cells Bb).1, (box_cells Bb).2.1⟩) (fun hHeld => ?_)
           clear hKQ KQ
           try simp only [Act.put, List.getElem_toArray, List.getElem_cons_zero, List.getElem_cons_succ, List.setIfInBounds_toArray, List.set_cons_zero, List.set_cons_succ]
          rotate_left 1
          focus
           have gA := World.grownBy_alloc efw7 (.cells #[.slice none 0 0, .bool false] 26) none
           have lohGk : w.heap.size ≤ efw7.heap.size := hG.size
           have lohTk : w0.heap.size ≤ efw7.heap.size := hT.size
           have ltak : w.heap.size < efw7.heap.size := heap_lt Ba
           have ltbk : w.heap.size + 1 < efw7.heap.size := heap_lt Bb
           have ltgk : pg < efw7.heap.size := heap_lt Bg
           have ltek : aw1 < efw7.heap.size := heap_lt Be
           have ltlk : pl < efw7.heap.size := heap_lt Bl
           have Bk_ := heap_new efw7 (.cells #[.slice none 0 0, .bool false] 26) efw7.heap.size rfl
           replace Ba := heap_kept gA Ba
           replace Bb := heap_kept gA Bb
           replace Bg := heap_kept gA Bg
           replace Be := heap_kept gA Be
           replace Bl := heap_kept gA Bl
           replace ia := ia.kept gA
           replace ib := ib.kept gA
           replace ig := ig.kept gA
           replace ie := ie.kept gA
           replace im := im.kept gA
           replace is := is.kept gA
           replace hG := grown_trans hG gA
           replace hT := grown_trans hT gA
           clear gA
           go_simp
           generalize (efw7.alloc (.cells #[.slice none 0 0, .bool false] 26)) = efw8 at *
           generalize efw7.heap.size = pk at *
           have Bk := Bk_
           clear Bk_
           refine hKQ.out _ _ (by exact ⟨(box_cells Bg).1, (box_cells Bg).2.1, (box_cells Ba).1, (box_cells Ba).2.1, (box_cells Be).1, (box_cells Be).2.1, (box_cells Bb).1, (box_cells Bb).2.1⟩) (fun hHeld => ?_)
           clear hKQ KQ
           try simp only [Act.put, List.getElem_toArray, List.getElem_cons_zero, List.getElem_cons_succ, List.setIfInBounds_toArray, List.set_cons_zero, List.set_cons_succ]
           refine wpAnyH_ready (rs := [6]) (by kernel_rfl) (by simp) ?_
           refine AllReadyH.cons rfl (fun KQ hKQ => ?_) AllReadyH.nil
           go_simp
           go_at_call 38
           refine (HFL.out efw8 _ _ is ib).mono ?_
           rintro e efw9 ⟨_, _, rfl, ⟨sq, xq, bq, rfl, hq, vq, tq⟩, ⟨sr, xr, br, rfl, hr, vr, tr⟩, gefw9⟩
           have iq : IntV efw9 (.agg #[.slice sq xq.length xq.length, .bool bq]) (Z9) := ⟨sq, xq, bq, rfl, hq, vq, tq⟩
           have ir : IntV efw9 (.agg #[.slice sr xr.length xr.length, .bool br]) (R9) := ⟨sr, xr, br, rfl, hr, vr, tr⟩
           replace Ba := heap_kept gefw9 Ba
           replace Bb := heap_kept gefw9 Bb
           replace Bg := heap_kept gefw9 Bg
           replace Be := heap_kept gefw9 Be
           replace Bl := heap_kept gefw9 Bl
           replace Bk := heap_kept gefw9 Bk
           replace ia := ia.kept gefw9
           replace ib := ib.kept gefw9
           replace ig := ig.kept gefw9
           replace ie := ie.kept gefw9
           replace im := im.kept gefw9
           replace is := is.kept gefw9
           replace hG := grown_trans hG gefw9
           replace hT := grown_trans hT gefw9
           clear gefw9
           clear hq vq tq
           clear hr vr tr
           (try go_wp2_with fail)
           refine hKQ.out _ _ (by exact ⟨(box_cells Bg).1, (box_cells Bg).2.1, (box_cells Ba).1, (box_cells Ba).2.1, (box_cells Be).1, (box_cells Be).2.1, (box_cells Bb).1, (box_cells Bb).2.1⟩) (fun hHeld => ?_)
           clear hKQ KQ
           try simp only [Act.put, List.getElem_toArray, List.getElem_cons_zero, List.getElem_cons_succ, List.setIfInBounds_toArray, List.set_cons_zero, List.set_cons_succ]
           refine wpAnyH_take (i := 7) (v := ?_) rfl (by kernel_rfl) (by kernel_rfl) (by kernel_rfl) (fun _ _ _ h => h) (Or.inl ⟨by rfl, ?_⟩) (by assumption) ?_
           rotate_left
           · (intro w hSw; (try dsimp only at hSw); go_simp; (try with_reducible rfl))
           try simp only [Act.put, List.getElem_toArray, List.getElem_cons_zero, List.getElem_cons_succ, List.setIfInBounds_toArray, List.set_cons_zero, List.set_cons_succ]
           refine wpAnyH_take (i := 8) (v := ?_) rfl (by kernel_rfl) (by kernel_rfl) (by kernel_rfl) (fun _ _ _ h => h) (Or.inl ⟨by rfl, ?_⟩) (by assumption) ?_
           rotate_left
           · (intro w hSw; (try dsimp only at hSw); go_simp; (try with_reducible rfl))
           try simp only [Act.put, List.getElem_toArray, List.getElem_cons_zero, List.getElem_cons_succ, List.setIfInBounds_toArray, List.set_cons_zero, List.set_cons_succ]
           refine wpAnyH_take (i := 9) (v := ?_) rfl (by kernel_rfl) (by kernel_rfl) (by kernel_rfl) (fun _ _ _ h => h) (Or.inl ⟨by rfl, ?_⟩) (by assumption) ?_
           rotate_left
           · (intro w hSw; (try dsimp only at hSw); go_simp; (try with_reducible rfl))
           try simp only [Act.put, List.getElem_toArray, List.getElem_cons_zero, List.getElem_cons_succ, List.setIfInBounds_toArray, List.set_cons_zero, List.set_cons_succ]
           refine wpAnyH_take (i := 10) (v := ?_) rfl (by kernel_rfl) (by kernel_rfl) (by kernel_rfl) (fun _ _ _ h => h) (Or.inl ⟨by rfl, ?_⟩) (by assumption) ?_
           rotate_left
           · (intro w hSw; (try dsimp only at hSw); go_simp; (try with_reducible rfl))
           try simp only [Act.put, List.getElem_toArray, List.getElem_cons_zero, List.getElem_cons_succ, List.setIfInBounds_toArray, List.set_cons_zero, List.set_cons_succ]
          rotate_left 1
         rotate_left 2
         focus
          have gA := World.grownBy_alloc efw6 (.cells #[.slice none 0 0, .bool false] 26) none
          have lohGk : w.heap.size ≤ efw6.heap.size := hG.size
          have lohTk : w0.heap.size ≤ efw6.heap.size := hT.size
          have ltak : w.heap.size < efw6.heap.size := heap_lt Ba
          have ltbk : w.heap.size + 1 < efw6.heap.size := heap_lt Bb
          have ltgk : pg < efw6.heap.size := heap_lt Bg
          have ltek : aw1 < efw6.heap.size := heap_lt Be
          have ltlk : pl < efw6.heap.size := heap_lt Bl
          have Bk_ := heap_new efw6 (.cells #[.slice none 0 0, .bool false] 26) efw6.heap.size rfl
          replace Ba := heap_kept gA Ba
          replace Bb := heap_kept gA Bb
          replace Bg := heap_kept gA Bg
          replace Be := heap_kept gA Be
          replace Bl := heap_kept gA Bl
          replace ia := ia.kept gA
          replace ib := ib.kept gA
          replace ig := ig.kept gA
          replace ie := ie.kept gA
          replace im := im.kept gA
          replace hG := grown_trans hG gA
          replace hT := grown_trans hT gA
          clear gA
          go_simp
          generalize (efw6.alloc (.cells #[.slice none 0 0, .bool false] 26)) = efw7 at *
          generalize efw6.heap.size = pk at *
          have Bk := Bk_
          clear Bk_
          refine hKQ.out _ _ (by exact ⟨(box_cells Bg).1, (box_cells Bg).2.1, (box_cells Ba).1, (box_cells Ba).2.1, (box_cells Be).1, (box_cells Be).2.1, (box_cells Bb).1, (box_cells Bb).2.1⟩) (fun hHeld => ?_)
          clear hKQ KQ
          try simp only [Act.put, List.getElem_toArray, List.getElem_cons_zero, List.getElem_cons_succ, List.setIfInBounds_toArray, List.set_cons_zero, List.set_cons_succ]
          refine wpAnyH_ready (rs := [4]) (by kernel_rfl) (by simp) ?_
          refine AllReadyH.cons rfl (fun KQ hKQ => ?_) AllReadyH.nil
          go_simp
          go_at_call 31
          refine (ZSub_any efw7 _ _ (G : Int) (x * (X * sgn)) (K + 1 + (K + 1) + (K + 1 + (K + 1))) ig im (by omega) LGG.out LAU.out).mono ?_
          rintro e efw8 ⟨_, rfl, ⟨ss, xs, bs, rfl, hs, vs, ts⟩, gefw8⟩
          have is : IntV efw8 (.agg #[.slice ss xs.length xs.length, .bool bs]) ((G : Int) - x * (X * sgn)) := ⟨ss, xs, bs, rfl, hs, vs, ts⟩
          replace Ba := heap_kept gefw8 Ba
          replace Bb := heap_kept gefw8 Bb
          replace Bg := heap_kept gefw8 Bg
          replace Be := heap_kept gefw8 Be
          replace Bl := heap_kept gefw8 Bl
          replace Bk := heap_kept gefw8 Bk
          replace ia := ia.kept gefw8
          replace ib := ib.kept gefw8
          replace ig := ig.kept gefw8
          replace ie := ie.kept gefw8
          replace im := im.kept gefw8
          replace hG := grown_trans hG gefw8
          replace hT := grown_trans hT gefw8
          clear gefw8
          clear hs vs ts
          (try go_wp2_with fail)
          refine hKQ.out _ _ (by exact ⟨(box_cells Bg).1, (box_cells Bg).2.1, (box_cells Ba).1, (box_cells Ba).2.1, (box_cells Be).1, (box_cells Be).2.1, (box_cells Bb).1, (box_cells Bb).2.1⟩) (fun hHeld => ?_)
          clear hKQ KQ
          try simp only [Act.put, List.getElem_toArray, List.getElem_cons_zero, List.getElem_cons_succ, List.setIfInBounds_toArray, List.set_cons_zero, List.set_cons_succ]
          refine wpAnyH_ready (rs := [6]) (by kernel_rfl) (by simp) ?_
          refine AllReadyH.cons rfl (fun KQ hKQ => ?_) AllReadyH.nil
          go_simp
          go_at_call 38
          refine (HFL.out efw8 _ _ is ib).mono ?_
          rintro e efw9 ⟨_, _, rfl, ⟨sq, xq, bq, rfl, hq, vq, tq⟩, ⟨sr, xr, br, rfl, hr, vr, tr⟩, gefw9⟩
          have iq : IntV efw9 (.agg #[.slice sq xq.length xq.length, .bool bq]) (Z9) := ⟨sq, xq, bq, rfl, hq, vq, tq⟩
          have ir : IntV efw9 (.agg #[.slice sr xr.length xr.length, .bool br]) (R9) := ⟨sr, xr, br, rfl, hr, vr, tr⟩
          replace Ba := heap_kept gefw9 Ba
          replace Bb := heap_kept gefw9 Bb
          replace Bg := heap_kept gefw9 Bg
          replace Be := heap_kept gefw9 Be
          replace Bl := heap_kept gefw9 Bl
          replace Bk := heap_kept gefw9 Bk
          replace ia := ia.kept gefw9
          replace ib := ib.kept gefw9
          replace ig := ig.kept gefw9
          replace ie := ie.kept gefw9
          replace im := im.kept gefw9
          replace is := is.kept gefw9
          replace hG := grown_trans hG gefw9
          replace hT := grown_trans hT gefw9
          clear gefw9
          clear hq vq tq
          clear hr vr tr
          (try go_wp2_with fail)
          refine hKQ.out _ _ (by exact ⟨(box_cells Bg).1, (box_cells Bg).2.1, (box_cells Ba).1, (box_cells Ba).2.1, (box_cells Be).1, (box_cells Be).2.1, (box_cells Bb).1, (box_cells Bb).2.1⟩) (fun hHeld => ?_)
          clear hKQ KQ
          try simp only [Act.put, List.getElem_toArray, List.getElem_cons_zero, List.getElem_cons_succ, List.setIfInBounds_toArray, List.set_cons_zero, List.set_cons_succ]
          refine wpAnyH_take (i := 7) (v := ?_) rfl (by kernel_rfl) (by kernel_rfl) (by kernel_rfl) (fun _ _ _ h => h) (Or.inl ⟨by rfl, ?_⟩) (by assumption) ?_
          rotate_left
          · (intro w hSw; (try dsimp only at hSw); go_simp; (try with_reducible rfl))
          try simp only [Act.put, List.getElem_toArray, List.getElem_cons_zero, List.getElem_cons_succ, List.setIfInBounds_toArray, List.set_cons_zero, List.set_cons_succ]
          refine wpAnyH_take (i := 8) (v := ?_) rfl (by kernel_rfl) (by kernel_rfl) (by kernel_rfl) (fun _ _ _ h => h) (Or.inl ⟨by rfl, ?_⟩) (by assumption) ?_
          rotate_left
          · (intro w hSw; (try dsimp only at hSw); go_simp; (try with_reducible rfl))
          try simp only [Act.put, List.getElem_toArray, List.getElem_cons_zero, List.getElem_cons_succ, List.setIfInBounds_toArray, List.set_cons_zero, List.set_cons_succ]
          refine wpAnyH_take (i := 9) (v := ?_) rfl (by kernel_rfl) (by kernel_rfl) (by kernel_rfl) (fun _ _ _ h => h) (Or.inl ⟨by rfl, ?_⟩) (by assumption) ?_
          rotate_left
          · (intro w hSw; (try dsimp only at hSw); go_simp; (try with_reducible rfl))
          try simp only [Act.put, List.getElem_toArray, List.getElem_cons_zero, List.getElem_cons_succ, List.setIfInBounds_toArray, List.set_cons_zero, List.set_cons_succ]
          refine wpAnyH_take (i := 10) (v := ?_) rfl (by kernel_rfl) (by kernel_rfl) (by kernel_rfl) (fun _ _ _ h => h) (Or.inl ⟨by rfl, ?_⟩) (by assumption) ?_
          rotate_left
          · (intro w hSw; (try dsimp only at hSw); go_simp; (try with_reducible rfl))
          try simp only [Act.put, List.getElem_toArray, List.getElem_cons_zero, List.getElem_cons_succ, List.setIfInBounds_toArray, List.set_cons_zero, List.set_cons_succ]
         rotate_left 1
        rotate_left 3
       rotate_left 12
       focus
        have gA := World.grownBy_alloc efw4 (.cells #[.slice none 0 0, .bool false] 26) none
        have lohGk : w.heap.size ≤ efw4.heap.size := hG.size
        have lohTk : w0.heap.size ≤ efw4.heap.size := hT.size
        have ltak : w.heap.size < efw4.heap.size := heap_lt Ba
        have ltbk : w.heap.size + 1 < efw4.heap.size := heap_lt Bb
        have ltgk : pg < efw4.heap.size := heap_lt Bg
        have ltek : aw1 < efw4.heap.size := heap_lt Be
        have Bk_ := heap_new efw4 (.cells #[.slice none 0 0, .bool false] 26) efw4.heap.size rfl
        replace Ba := heap_kept gA Ba
        replace Bb := heap_kept gA Bb
        replace Bg := heap_kept gA Bg
        replace Be := heap_kept gA Be
        replace ia := ia.kept gA
        replace ib := ib.kept gA
        replace ig := ig.kept gA
        replace ie := ie.kept gA
        replace hG := grown_trans hG gA
        replace hT := grown_trans hT gA
        clear gA
        go_simp
        generalize (efw4.alloc (.cells #[.slice none 0 0, .bool false] 26)) = efw5 at *
        generalize efw4.heap.size = pk at *
        have Bk := Bk_
        clear Bk_
        refine hKQ.out _ _ (by exact ⟨(box_cells Bg).1, (box_cells Bg).2.1, (box_cells Ba).1, (box_cells Ba).2.1, (box_cells Be).1, (box_cells Be).2.1, (box_cells Bb).1, (box_cells Bb).2.1⟩) (fun hHeld => ?_)
        clear hKQ KQ
        try simp only [Act.put, List.getElem_toArray, List.getElem_cons_zero, List.getElem_cons_succ, List.setIfInBounds_toArray, List.set_cons_zero, List.set_cons_succ]
        refine wpAnyH_ready (rs := [3, 12]) (by kernel_rfl) (by simp) ?_
        refine AllReadyH.cons rfl (fun KQ hKQ => ?_) (AllReadyH.cons rfl (fun KQ hKQ => ?_) AllReadyH.nil)
        focus
         go_simp
         go_at_call 36
         refine (ZMul_any efw5 _ _ x (X * sgn) (K + 1 + (K + 1)) ia ie (by omega) (bw Hla.out (by omega)) LU.out).mono ?_
         rintro e efw6 ⟨_, rfl, ⟨sm, xm, bm, rfl, hm, vm, tm⟩, gefw6⟩
         have im : IntV efw6 (.agg #[.slice sm xm.length xm.length, .bool bm]) (x * (X * sgn)) := ⟨sm, xm, bm, rfl, hm, vm, tm⟩
         replace Ba := heap_kept gefw6 Ba
         replace Bb := heap_kept gefw6 Bb
         replace Bg := heap_kept gefw6 Bg
         replace Be := heap_kept gefw6 Be
         replace Bk := heap_kept gefw6 Bk
         replace ia := ia.kept gefw6
         replace ib := ib.kept gefw6
         replace ig := ig.kept gefw6
         replace ie := ie.kept gefw6
         replace hG := grown_trans hG gefw6
         replace hT := grown_trans hT gefw6
         clear gefw6
         clear hm vm tm
         (try go_wp2_with fail)
         refine hKQ.out _ _ (by exact ⟨(box_cells Bg).1, (box_cells Bg).2.1, (box_cells Ba).1, (box_cells Ba).2.1, (box_cells Be).1, (box_cells Be).2.1, (box_cells Bb).1, (box_cells Bb).2.1⟩) (fun hHeld => ?_)
         clear hKQ KQ
         try simp only [Act.put, List.getElem_toArray, List.getElem_cons_zero, List.getElem_cons_succ, List.setIfInBounds_toArray, List.set_cons_zero, List.set_cons_succ]
         refine wpAnyH_ready (rs := [4, 12]) (by kernel_rfl) (by simp) ?_
         refine AllReadyH.cons rfl (fun KQ hKQ => ?_) (AllReadyH.cons rfl (fun KQ hKQ => ?_) AllReadyH.nil)
         focus
          go_simp
          go_at_call 31
          refine (ZSub_any efw6 _ _ (G : Int) (x * (X * sgn)) (K + 1 + (K + 1) + (K + 1 + (K + 1))) ig im (by omega) LGG.out LAU.out).mono ?_
          rintro e efw7 ⟨_, rfl, ⟨ss, xs, bs, rfl, hs, vs, ts⟩, gefw7⟩
          have is : IntV efw7 (.agg #[.slice ss xs.length xs.length, .bool bs]) ((G : Int) - x * (X * sgn)) := ⟨ss, xs, bs, rfl, hs, vs, ts⟩
          replace Ba := heap_kept gefw7 Ba
          replace Bb := heap_kept gefw7 Bb
          replace Bg := heap_kept gefw7 Bg
          replace Be := heap_kept gefw7 Be
          replace Bk := heap_kept gefw7 Bk
          replace ia := ia.kept gefw7
          replace ib := ib.kept gefw7
          replace ig := ig.kept gefw7
          replace ie := ie.kept gefw7
          replace im := im.kept gefw7
          replace hG := grown_trans hG gefw7
          replace hT := grown_trans hT gefw7
          clear gefw7
          clear hs vs ts
          (try go_wp2_with fail)
          refine hKQ.out _ _ (by exact ⟨(box_cells Bg).1, (box_cells Bg).2.1, (box_cells Ba).1, (box_cells Ba).2.1, (box_cells Be).1, (box_cells Be).2.1, (box_cells Bb).1, (box_cells Bb).2.1⟩) (fun hHeld => ?_)
          clear hKQ KQ
          try simp only [Act.put, List.getElem_toArray, List.getElem_cons_zero, List.getElem_cons_succ, List.setIfInBounds_toArray, List.set_cons_zero, List.set_cons_succ]
          refine wpAnyH_ready (rs := [6, 12]) (by kernel_rfl) (by simp) ?_
          refine AllReadyH.cons rfl (fun KQ hKQ => ?_) (AllReadyH.cons rfl (fun KQ hKQ => ?_) AllReadyH.nil)
          focus
           go_simp
           go_at_call 38
           refine (HFL.out efw7 _ _ is ib).mono ?_
           rintro e efw8 ⟨_, _, rfl, ⟨sq, xq, bq, rfl, hq, vq, tq⟩, ⟨sr, xr, br, rfl, hr, vr, tr⟩, gefw8⟩
           have iq : IntV efw8 (.agg #[.slice sq xq.length xq.length, .bool bq]) (Z9) := ⟨sq, xq, bq, rfl, hq, vq, tq⟩
           have ir : IntV efw8 (.agg #[.slice sr xr.length xr.length, .bool br]) (R9) := ⟨sr, xr, br, rfl, hr, vr, tr⟩
           replace Ba := heap_kept gefw8 Ba
           replace Bb := heap_kept gefw8 Bb
           replace Bg := heap_kept gefw8 Bg
           replace Be := heap_kept gefw8 Be
           replace Bk := heap_kept gefw8 Bk
           replace ia := ia.kept gefw8
           replace ib := ib.kept gefw8
           replace ig := ig.kept gefw8
           replace ie := ie.kept gefw8
           replace im := im.kept gefw8
           replace is := is.kept gefw8
           replace hG := grown_trans hG gefw8
           replace hT := grown_trans hT gefw8
           clear gefw8
           clear hq vq tq
           clear hr vr tr
           (try go_wp2_with fail)
           refine hKQ.out _ _ (by exact ⟨(box_cells Bg).1, (box_cells Bg).2.1, (box_cells Ba).1, (box_cells Ba).2.1, (box_cells Be).1, (box_cells Be).2.1, (box_cells Bb).1, (box_cells Bb).2.1⟩) (fun hHeld => ?_)
           clear hKQ KQ
           try simp only [Act.put, List.getElem_toArray, List.getElem_cons_zero, List.getElem_cons_succ, List.setIfInBounds_toArray, List.set_cons_zero, List.set_cons_succ]
           refine wpAnyH_take (i := 7) (v := ?_) rfl (by kernel_rfl) (by kernel_rfl) (by kernel_rfl) (fun _ _ _ h => h) (Or.inl ⟨by rfl, ?_⟩) (by assumption) ?_
           rotate_left
           · (intro w hSw; (try dsimp only at hSw); go_simp; (try with_reducible rfl))
           try simp only [Act.put, List.getElem_toArray, List.getElem_cons_zero, List.getElem_cons_succ, List.setIfInBounds_toArray, List.set_cons_zero, List.set_cons_succ]
           refine wpAnyH_take (i := 8) (v := ?_) rfl (by kernel_rfl) (by kernel_rfl) (by kernel_rfl) (fun _ _ _ h => h) (Or.inl ⟨by rfl, ?_⟩) (by assumption) ?_
           rotate_left
           · (intro w hSw; (try dsimp only at hSw); go_simp; (try with_reducible rfl))
           try simp only [Act.put, List.getElem_toArray, List.getElem_cons_zero, List.getElem_cons_succ, List.setIfInBounds_toArray, List.set_cons_zero, List.set_cons_succ]
           refine wpAnyH_take (i := 9) (v := ?_) rfl (by kernel_rfl) (by kernel_rfl) (by kernel_rfl) (fun _ _ _ h => h) (Or.inl ⟨by rfl, ?_⟩) (by assumption) ?_
           rotate_left
           · (intro w hSw; (try dsimp only at hSw); go_simp; (try with_reducible rfl))
           try simp only [Act.put, List.getElem_toArray, List.getElem_cons_zero, List.getElem_cons_succ, List.setIfInBounds_toArray, List.set_cons_zero, List.set_cons_succ]
           refine wpAnyH_take (i := 10) (v := ?_) rfl (by kernel_rfl) (by kernel_rfl) (by kernel_rfl) (fun _ _ _ h => h) (Or.inl ⟨by rfl, ?_⟩) (by assumption) ?_
           rotate_left
           · (intro w hSw; (try dsimp only at hSw); go_simp; (try with_reducible rfl))
           try simp only [Act.put, List.getElem_toArray, List.getElem_cons_zero, List.getElem_cons_succ, List.setIfInBounds_toArray, List.set_cons_zero, List.set_cons_succ]
           refine wpAnyH_ready (rs := [12]) (by kernel_rfl) (by simp) ?_
           refine AllReadyH.cons rfl (fun KQ hKQ => ?_) AllReadyH.nil
           have gA := World.grownBy_alloc efw8 (.cells #[.slice none 0 0, .bool false] 26) none
           have lohGl : w.heap.size ≤ efw8.heap.size := hG.size
           have lohTl : w0.heap.size ≤ efw8.heap.size := hT.size
           have ltal : w.heap.size < efw8.heap.size := heap_lt Ba
           have ltbl : w.heap.size + 1 < efw8.heap.size := heap_lt Bb
           have ltgl : pg < efw8.heap.size := heap_lt Bg
           have ltel : aw1 < efw8.heap.size := heap_lt Be
           have ltkl : pk < efw8.heap.size := heap_lt Bk
           have Bl_ := heap_new efw8 (.cells #[.slice none 0 0, .bool false] 26) efw8.heap.size rfl
           replace Ba := heap_kept gA Ba
           replace Bb := heap_kept gA Bb
           replace Bg := heap_kept gA Bg
           replace Be := heap_kept gA Be
           replace Bk := heap_kept gA Bk
           replace ia := ia.kept gA
           replace ib := ib.kept gA
           replace ig := ig.kept gA
           replace ie := ie.kept gA
           replace im := im.kept gA
           replace is := is.kept gA
           replace iq := iq.kept gA
           replace ir := ir.kept gA
           replace hG := grown_trans hG gA
           replace hT := grown_trans hT gA
           clear gA
           go_simp
           generalize (efw8.alloc (.cells #[.slice none 0 0, .bool false] 26)) = efw9 at *
           generalize efw8.heap.size = pl at *
           have Bl := Bl_
           clear Bl_
           refine hKQ.out _ _ (by exact ⟨(box_cells Bg).1, (box_cells Bg).2.1, (box_cells Ba).1, (box_cells Ba).2.1, (box_cells Be).1, (box_cells Be).2.1, (box_cells Bb).1, (box_cells Bb).2.1⟩) (fun hHeld => ?_)
           clear hKQ KQ
           try simp only [Act.put, List.getElem_toArray, List.getElem_cons_zero, List.getElem_cons_succ, List.setIfInBounds_toArray, List.set_cons_zero, List.set_cons_succ]
          rotate_left 1
          focus
           have gA := World.grownBy_alloc efw7 (.cells #[.slice none 0 0, .bool false] 26) none
           have lohGl : w.heap.size ≤ efw7.heap.size := hG.size
           have lohTl : w0.heap.size ≤ efw7.heap.size := hT.size
           have ltal : w.heap.size < efw7.heap.size := heap_lt Ba
           have ltbl : w.heap.size + 1 < efw7.heap.size := heap_lt Bb
           have ltgl : pg < efw7.heap.size := heap_lt Bg
           have ltel : aw1 < efw7.heap.size := heap_lt Be
           have ltkl : pk < efw7.heap.size := heap_lt Bk
           have Bl_ := heap_new efw7 (.cells #[.slice none 0 0, .bool false] 26) efw7.heap.size rfl
           replace Ba := heap_kept gA Ba
           replace Bb := heap_kept gA Bb
           replace Bg := heap_kept gA Bg
           replace Be := heap_kept gA Be
           replace Bk := heap_kept gA Bk
           replace ia := ia.kept gA
           replace ib := ib.kept gA
           replace ig := ig.kept gA
           replace ie := ie.kept gA
           replace im := im.kept gA
           replace is := is.kept gA
           replace hG := grown_trans hG gA
           replace hT := grown_trans hT gA
           clear gA
           go_simp
           generalize (efw7.alloc (.cells #[.slice none 0 0, .bool false] 26)) = efw8 at *
           generalize efw7.heap.size = pl at *
           have Bl := Bl_
           clear Bl_
           refine hKQ.out _ _ (by exact ⟨(box_cells Bg).1, (box_cells Bg).2.1, (box_cells Ba).1, (box_cells Ba).2.1, (box_cells Be).1, (box_cells Be).2.1, (box_cells Bb).1, (box_cells Bb).2.1⟩) (fun hHeld => ?_)
           clear hKQ KQ
           try simp only [Act.put, List.getElem_toArray, List.getElem_cons_zero, List.getElem_cons_succ, List.setIfInBounds_toArray, List.set_cons_zero, List.set_cons_succ]
           refine wpAnyH_ready (rs := [6]) (by kernel_rfl) (by simp) ?_
           refine AllReadyH.cons rfl (fun KQ hKQ => ?_) AllReadyH.nil
           go_simp
           go_at_call 38
           refine (HFL.out efw8 _ _ is ib).mono ?_
           rintro e efw9 ⟨_, _, rfl, ⟨sq, xq, bq, rfl, hq, vq, tq⟩, ⟨sr, xr, br, rfl, hr, vr, tr⟩, gefw9⟩
           have iq : IntV efw9 (.agg #[.slice sq xq.length xq.length, .bool bq]) (Z9) := ⟨sq, xq, bq, rfl, hq, vq, tq⟩
           have ir : IntV efw9 (.agg #[.slice sr xr.length xr.length, .bool br]) (R9) := ⟨sr, xr, br, rfl, hr, vr, tr⟩
           replace Ba := heap_kept gefw9 Ba
           replace Bb := heap_kept gefw9 Bb
           replace Bg := heap_kept gefw9 Bg
           replace Be := heap_kept gefw9 Be
           replace Bk := heap_kept gefw9 Bk
           replace Bl := heap_kept gefw9 Bl
           replace ia := ia.kept gefw9
           replace ib := ib.kept gefw9
           replace ig := ig.kept gefw9
           replace ie := ie.kept gefw9
           replace im := im.kept gefw9
           replace is := is.kept gefw9
           replace hG := grown_trans hG gefw9
           replace hT := grown_trans hT gefw9
           clear gefw9
           clear hq vq tq
           clear hr vr tr
           (try go_wp2_with fail)
           refine hKQ.out _ _ (by exact ⟨(box_cells Bg).1, (box_cells Bg).2.1, (box_cells Ba).1, (box_cells Ba).2.1, (box_cells Be).1, (box_cells Be).2.1, (box_cells Bb).1, (box_cells Bb).2.1⟩) (fun hHeld => ?_)
           clear hKQ KQ
           try simp only [Act.put, List.getElem_toArray, List.getElem_cons_zero, List.getElem_cons_succ, List.setIfInBounds_toArray, List.set_cons_zero, List.set_cons_succ]
           refine wpAnyH_take (i := 7) (v := ?_) rfl (by kernel_rfl) (by kernel_rfl) (by kernel_rfl) (fun _ _ _ h => h) (Or.inl ⟨by rfl, ?_⟩) (by assumption) ?_
           rotate_left
           · (intro w hSw; (try dsimp only at hSw); go_simp; (try with_reducible rfl))
           try simp only [Act.put, List.getElem_toArray, List.getElem_cons_zero, List.getElem_cons_succ, List.setIfInBounds_toArray, List.set_cons_zero, List.set_cons_succ]
           refine wpAnyH_take (i := 8) (v := ?_) rfl (by kernel_rfl) (by kernel_rfl) (by kernel_rfl) (fun _ _ _ h => h) (Or.inl ⟨by rfl, ?_⟩) (by assumption) ?_
           rotate_left
           · (intro w hSw; (try dsimp only at hSw); go_simp; (try with_reducible rfl))
           try simp only [Act.put, List.getElem_toArray, List.getElem_cons_zero, List.getElem_cons_succ, List.setIfInBounds_toArray, List.set_cons_zero, List.set_cons_succ]
           refine wpAnyH_take (i := 9) (v := ?_) rfl (by kernel_rfl) (by kernel_rfl) (by kernel_rfl) (fun _ _ _ h => h) (Or.inl ⟨by rfl, ?_⟩) (by assumption) ?_
           rotate_left
           · (intro w hSw; (try dsimp only at hSw); go_simp; (try with_reducible rfl))
           try simp only [Act.put, List.getElem_toArray, List.getElem_cons_zero, List.getElem_cons_succ, List.setIfInBounds_toArray, List.set_cons_zero, List.set_cons_succ]
           refine wpAnyH_take (i := 10) (v := ?_) rfl (by kernel_rfl) (by kernel_rfl) (by kernel_rfl) (fun _ _ _ h => h) (Or.inl ⟨by rfl, ?_⟩) (by assumption) ?_
           rotate_left
           · (intro w hSw; (try dsimp only at hSw); go_simp; (try with_reducible rfl))
           try simp only [Act.put, List.getElem_toArray, List.getElem_cons_zero, List.getElem_cons_succ, List.setIfInBounds_toArray, List.set_cons_zero, List.set_cons_succ]
          rotate_left 1
         rotate_left 2
         focus
          have gA := World.grownBy_alloc efw6 (.cells #[.slice none 0 0, .bool false] 26) none
          have lohGl : w.heap.size ≤ efw6.heap.size := hG.size
          have lohTl : w0.heap.size ≤ efw6.heap.size := hT.size
          have ltal : w.heap.size < efw6.heap.size := heap_lt Ba
          have ltbl : w.heap.size + 1 < efw6.heap.size := heap_lt Bb
          have ltgl : pg < efw6.heap.size := heap_lt Bg
          have ltel : aw1 < efw6.heap.size := heap_lt Be
          have ltkl : pk < efw6.heap.size := heap_lt Bk
          have Bl_ := heap_new efw6 (.cells #[.slice none 0 0, .bool false] 26) efw6.heap.size rfl
          replace Ba := heap_kept gA Ba
          replace Bb := heap_kept gA Bb
          replace Bg := heap_kept gA Bg
          replace Be := heap_kept gA Be
          replace Bk := heap_kept gA Bk
          replace ia := ia.kept gA
          replace ib := ib.kept gA
          replace ig := ig.kept gA
          replace ie := ie.kept gA
          replace im := im.kept gA
          replace hG := grown_trans hG gA
          replace hT := grown_trans hT gA
          clear gA
          go_simp
          generalize (efw6.alloc (.cells #[.slice none 0 0, .bool false] 26)) = efw7 at *
          generalize efw6.heap.size = pl at *
          have Bl := Bl_
          clear Bl_
          refine hKQ.out _ _ (by exact ⟨(box_cells Bg).1, (box_cells Bg).2.1, (box_cells Ba).1, (box_cells Ba).2.1, (box_cells Be).1, (box_cells Be).2.1, (box_cells Bb).1, (box_cells Bb).2.1⟩) (fun hHeld => ?_)
          clear hKQ KQ
          try simp only [Act.put, List.getElem_toArray, List.getElem_cons_zero, List.getElem_cons_succ, List.setIfInBounds_toArray, List.set_cons_zero, List.set_cons_succ]
          refine wpAnyH_ready (rs := [4]) (by kernel_rfl) (by simp) ?_
          refine AllReadyH.cons rfl (fun KQ hKQ => ?_) AllReadyH.nil
          go_simp
          go_at_call 31
          refine (ZSub_any efw7 _ _ (G : Int) (x * (X * sgn)) (K + 1 + (K + 1) + (K + 1 + (K + 1))) ig im (by omega) LGG.out LAU.out).mono ?_
          rintro e efw8 ⟨_, rfl, ⟨ss, xs, bs, rfl, hs, vs, ts⟩, gefw8⟩
          have is : IntV efw8 (.agg #[.slice ss xs.length xs.length, .bool bs]) ((G : Int) - x * (X * sgn)) := ⟨ss, xs, bs, rfl, hs, vs, ts⟩
          replace Ba := heap_kept gefw8 Ba
          replace Bb := heap_kept gefw8 Bb
          replace Bg := heap_kept gefw8 Bg
          replace Be := heap_kept gefw8 Be
          replace Bk := heap_kept gefw8 Bk
          replace Bl := heap_kept gefw8 Bl
          replace ia := ia.kept gefw8
          replace ib := ib.kept gefw8
          replace ig := ig.kept gefw8
          replace ie := ie.kept gefw8
          replace im := im.kept gefw8
          replace hG := grown_trans hG gefw8
          replace hT := grown_trans hT gefw8
          clear gefw8
          clear hs vs ts
          (try go_wp2_with fail)
          refine hKQ.out _ _ (by exact ⟨(box_cells Bg).1, (box_cells Bg).2.1, (box_cells Ba).1, (box_cells Ba).2.1, (box_cells Be).1, (box_cells Be).2.1, (box_cells Bb).1, (box_cells Bb).2.1⟩) (fun hHeld => ?_)
          clear hKQ KQ
          try simp only [Act.put, List.getElem_toArray, List.getElem_cons_zero, List.getElem_cons_succ, List.setIfInBounds_toArray, List.set_cons_zero, List.set_cons_succ]
          refine wpAnyH_ready (rs := [6]) (by kernel_rfl) (by simp) ?_
          refine AllReadyH.cons rfl (fun KQ hKQ => ?_) AllReadyH.nil
          go_simp
          go_at_call 38
          refine (HFL.out efw8 _ _ is ib).mono ?_
          rintro e efw9 ⟨_, _, rfl, ⟨sq, xq, bq, rfl, hq, vq, tq⟩, ⟨sr, xr, br, rfl, hr, vr, tr⟩, gefw9⟩
          have iq : IntV efw9 (.agg #[.slice sq xq.length xq.length, .bool bq]) (Z9) := ⟨sq, xq, bq, rfl, hq, vq, tq⟩
          have ir : IntV efw9 (.agg #[.slice sr xr.length xr.length, .bool br]) (R9) := ⟨sr, xr, br, rfl, hr, vr, tr⟩
          replace Ba := heap_kept gefw9 Ba
          replace Bb := heap_kept gefw9 Bb
          replace Bg := heap_kept gefw9 Bg
          replace Be := heap_kept gefw9 Be
          replace Bk := heap_kept gefw9 Bk
          replace Bl := heap_kept gefw9 Bl
          replace ia := ia.kept gefw9
          replace ib := ib.kept gefw9
          replace ig := ig.kept gefw9
          replace ie := ie.kept gefw9
          replace im := im.kept gefw9
          replace is := is.kept gefw9
          replace hG := grown_trans hG gefw9
          replace hT := grown_trans hT gefw9
          clear gefw9
          clear hq vq tq
          clear hr vr tr
          (try go_wp2_with fail)
          refine hKQ.out _ _ (by exact ⟨(box_cells Bg).1, (box_cells Bg).2.1, (box_cells Ba).1, (box_cells Ba).2.1, (box_cells Be).1, (box_cells Be).2.1, (box_cells Bb).1, (box_cells Bb).2.1⟩) (fun hHeld => ?_)
          clear hKQ KQ
          try simp only [Act.put, List.getElem_toArray, List.getElem_cons_zero, List.getElem_cons_succ, List.setIfInBounds_toArray, List.set_cons_zero, List.set_cons_succ]
          refine wpAnyH_take (i := 7) (v := ?_) rfl (by kernel_rfl) (by kernel_rfl) (by kernel_rfl) (fun _ _ _ h => h) (Or.inl ⟨by rfl, ?_⟩) (by assumption) ?_
          rotate_left
          · (intro w hSw; (try dsimp only at hSw); go_simp; (try with_reducible rfl))
          try simp only [Act.put, List.getElem_toArray, List.getElem_cons_zero, List.getElem_cons_succ, List.setIfInBounds_toArray, List.set_cons_zero, List.set_cons_succ]
          refine wpAnyH_take (i := 8) (v := ?_) rfl (by kernel_rfl) (by kernel_rfl) (by kernel_rfl) (fun _ _ _ h => h) (Or.inl ⟨by rfl, ?_⟩) (by assumption) ?_
          rotate_left
          · (intro w hSw; (try dsimp only at hSw); go_simp; (try with_reducible rfl))
          try simp only [Act.put, List.getElem_toArray, List.getElem_cons_zero, List.getElem_cons_succ, List.setIfInBounds_toArray, List.set_cons_zero, List.set_cons_succ]
          refine wpAnyH_take (i := 9) (v := ?_) rfl (by kernel_rfl) (by kernel_rfl) (by kernel_rfl) (fun _ _ _ h => h) (Or.inl ⟨by rfl, ?_⟩) (by assumption) ?_
          rotate_left
          · (intro w hSw; (try dsimp only at hSw); go_simp; (try with_reducible rfl))
          try simp only [Act.put, List.getElem_toArray, List.getElem_cons_zero, List.getElem_cons_succ, List.setIfInBounds_toArray, List.set_cons_zero, List.set_cons_succ]
          refine wpAnyH_take (i := 10) (v := ?_) rfl (by kernel_rfl) (by kernel_rfl) (by kernel_rfl) (fun _ _ _ h => h) (Or.inl ⟨by rfl, ?_⟩) (by assumption) ?_
          rotate_left
          · (intro w hSw; (try dsimp only at hSw); go_simp; (try with_reducible rfl))
          try simp only [Act.put, List.getElem_toArray, List.getElem_cons_zero, List.getElem_cons_succ, List.setIfInBounds_toArray, List.set_cons_zero, List.set_cons_succ]
         rotate_left 1
        rotate_left 3
        focus
         have gA := World.grownBy_alloc efw5 (.cells #[.slice none 0 0, .bool false] 26) none
         have lohGl : w.heap.size ≤ efw5.heap.size := hG.size
         have lohTl : w0.heap.size ≤ efw5.heap.size := hT.size
         have ltal : w.heap.size < efw5.heap.size := heap_lt Ba
         have ltbl : w.heap.size + 1 < efw5.heap.size := heap_lt Bb
         have ltgl : pg < efw5.heap.size := heap_lt Bg
         have ltel : aw1 < efw5.heap.size := heap_lt Be
         have ltkl : pk < efw5.heap.size := heap_lt Bk
         have Bl_ := heap_new efw5 (.cells #[.slice none 0 0, .bool false] 26) efw5.heap.size rfl
         replace Ba := heap_kept gA Ba
         replace Bb := heap_kept gA Bb
         replace Bg := heap_kept gA Bg
         replace Be := heap_kept gA Be
         replace Bk := heap_kept gA Bk
         replace ia := ia.kept gA
         replace ib := ib.kept gA
         replace ig := ig.kept gA
         replace ie := ie.kept gA
         replace hG := grown_trans hG gA
         replace hT := grown_trans hT gA
         clear gA
         go_simp
         generalize (efw5.alloc (.cells #[.slice none 0 0, .bool false] 26)) = efw6 at *
         generalize efw5.heap.size = pl at *
         have Bl := Bl_
         clear Bl_
         refine hKQ.out _ _ (by exact ⟨(box_cells Bg).1, (box_cells Bg).2.1, (box_cells Ba).1, (box_cells Ba).2.1, (box_cells Be).1, (box_cells Be).2.1, (box_cells Bb).1, (box_cells Bb).2.1⟩) (fun hHeld => ?_)
         clear hKQ KQ
         try simp only [Act.put, List.getElem_toArray, List.getElem_cons_zero, List.getElem_cons_succ, List.setIfInBounds_toArray, List.set_cons_zero, List.set_cons_succ]
         refine wpAnyH_ready (rs := [3]) (by kernel_rfl) (by simp) ?_
         refine AllReadyH.cons rfl (fun KQ hKQ => ?_) AllReadyH.nil
         go_simp
         go_at_call 36
         refine (ZMul_any efw6 _ _ x (X * sgn) (K + 1 + (K + 1)) ia ie (by omega) (bw Hla.out (by omega)) LU.out).mono ?_
         rintro e efw7 ⟨_, rfl, ⟨sm, xm, bm, rfl, hm, vm, tm⟩, gefw7⟩
         have im : IntV efw7 (.agg #[.slice sm xm.length xm.length, .bool bm]) (x * (X * sgn)) := ⟨sm, xm, bm, rfl, hm, vm, tm⟩
         replace Ba := heap_kept gefw7 Ba
         replace Bb := heap_kept gefw7 Bb
         replace Bg := heap_kept gefw7 Bg
         replace Be := heap_kept gefw7 Be
         replace Bk := heap_kept gefw7 Bk
         replace Bl := heap_kept gefw7 Bl
         replace ia := ia.kept gefw7
         replace ib := ib.kept gefw7
         replace ig := ig.kept gefw7
         replace ie := ie.kept gefw7
         replace hG := grown_trans hG gefw7
         replace hT := grown_trans hT gefw7
         clear gefw7
         clear hm vm tm
         (try go_wp2_with fail)
         refine hKQ.out _ _ (by exact ⟨(box_cells Bg).1, (box_cells Bg).2.1, (box_cells Ba).1, (box_cells Ba).2.1, (box_cells Be).1, (box_cells Be).2.1, (box_cells Bb).1, (box_cells Bb).2.1⟩) (fun hHeld => ?_)
         clear hKQ KQ
         try simp only [Act.put, List.getElem_toArray, List.getElem_cons_zero, List.getElem_cons_succ, List.setIfInBounds_toArray, List.set_cons_zero, List.set_cons_succ]
         refine wpAnyH_ready (rs := [4]) (by kernel_rfl) (by simp) ?_
         refine AllReadyH.cons rfl (fun KQ hKQ => ?_) AllReadyH.nil
         go_simp
         go_at_call 31
         refine (ZSub_any efw7 _ _ (G : Int) (x * (X * sgn)) (K + 1 + (K + 1) + (K + 1 + (K + 1))) ig im (by omega) LGG.out LAU.out).mono ?_
         rintro e efw8 ⟨_, rfl, ⟨ss, xs, bs, rfl, hs, vs, ts⟩, gefw8⟩
         have is : IntV efw8 (.agg #[.slice ss xs.length xs.length, .bool bs]) ((G : Int) - x * (X * sgn)) := ⟨ss, xs, bs, rfl, hs, vs, ts⟩
         replace Ba := heap_kept gefw8 Ba
         replace Bb := heap_kept gefw8 Bb
         replace Bg := heap_kept gefw8 Bg
         replace Be := heap_kept gefw8 Be
         replace Bk := heap_kept gefw8 Bk
         replace Bl := heap_kept gefw8 Bl
         replace ia := ia.kept gefw8
         replace ib := ib.kept gefw8
         replace ig := ig.kept gefw8
         replace ie := ie.kept gefw8
         replace im := im.kept gefw8
         replace hG := grown_trans hG gefw8
         replace hT := grown_trans hT gefw8
         clear gefw8
         clear hs vs ts
         (try go_wp2_with fail)
         refine hKQ.out _ _ (by exact ⟨(box_cells Bg).1, (box_cells Bg).2.1, (box_cells Ba).1, (box_cells Ba).2.1, (box_cells Be).1, (box_cells Be).2.1, (box_cells Bb).1, (box_cells Bb).2.1⟩) (fun hHeld => ?_)
         clear hKQ KQ
         try simp only [Act.put, List.getElem_toArray, List.getElem_cons_zero, List.getElem_cons_succ, List.setIfInBounds_toArray, List.set_cons_zero, List.set_cons_succ]
         refine wpAnyH_ready (rs := [6]) (by kernel_rfl) (by simp) ?_
         refine AllReadyH.cons rfl (fun KQ hKQ => ?_) AllReadyH.nil
         go_simp
         go_at_call 38
         refine (HFL.out efw8 _ _ is ib).mono ?_
         rintro e efw9 ⟨_, _, rfl, ⟨sq, xq, bq, rfl, hq, vq, tq⟩, ⟨sr, xr, br, rfl, hr, vr, tr⟩, gefw9⟩
         have iq : IntV efw9 (.agg #[.slice sq xq.length xq.length, .bool bq]) (Z9) := ⟨sq, xq, bq, rfl, hq, vq, tq⟩
         have ir : IntV efw9 (.agg #[.slice sr xr.length xr.length, .bool br]) (R9) := ⟨sr, xr, br, rfl, hr, vr, tr⟩
         replace Ba := heap_kept gefw9 Ba
         replace Bb := heap_kept gefw9 Bb
         replace Bg := heap_kept gefw9 Bg
         replace Be := heap_kept gefw9 Be
         replace Bk := heap_kept gefw9 Bk
         replace Bl := heap_kept gefw9 Bl
         replace ia := ia.kept gefw9
         replace ib := ib.kept gefw9
         replace ig := ig.kept gefw9
         replace ie := ie.kept gefw9
         replace im := im.kept gefw9
         replace is := is.kept gefw9
         replace hG := grown_trans hG gefw9
         replace hT := grown_trans hT gefw9
         clear gefw9
         clear hq vq tq
         clear hr vr tr
         (try go_wp2_with fail)
         refine hKQ.out _ _ (by exact ⟨(box_cells Bg).1, (box_cells Bg).2.1, (box_cells Ba).1, (box_cells Ba).2.1, (box_cells Be).1, (box_cells Be).2.1, (box_cells Bb).1, (box_cells Bb).2.1⟩) (fun hHeld => ?_)
         clear hKQ KQ
         try simp only [Act.put, List.getElem_toArray, List.getElem_cons_zero, List.getElem_cons_succ, List.setIfInBounds_toArray, List.set_cons_zero, List.set_cons_succ]
         refine wpAnyH_take (i := 7) (v := ?_) rfl (by kernel_rfl) (by kernel_rfl) (by kernel_rfl) (fun _ _ _ h => h) (Or.inl ⟨by rfl, ?_⟩) (by assumption) ?_
         rotate_left
         · (intro w hSw; (try dsimp only at hSw); go_simp; (try with_reducible rfl))
         try simp only [Act.put, List.getElem_toArray, List.getElem_cons_zero, List.getElem_cons_succ, List.setIfInBounds_toArray, List.set_cons_zero, List.set_cons_succ]
         refine wpAnyH_take (i := 8) (v := ?_) rfl (by kernel_rfl) (by kernel_rfl) (by kernel_rfl) (fun _ _ _ h => h) (Or.inl ⟨by rfl, ?_⟩) (by assumption) ?_
         rotate_left
         · (intro w hSw; (try dsimp only at hSw); go_simp; (try with_reducible rfl))
         try simp only [Act.put, List.getElem_toArray, List.getElem_cons_zero, List.getElem_cons_succ, List.setIfInBounds_toArray, List.set_cons_zero, List.set_cons_succ]
         refine wpAnyH_take (i := 9) (v := ?_) rfl (by kernel_rfl) (by kernel_rfl) (by kernel_rfl) (fun _ _ _ h => h) (Or.inl ⟨by rfl, ?_⟩) (by assumption) ?_
         rotate_left
         · (intro w hSw; (try dsimp only at hSw); go_simp; (try with_reducible rfl))
         try simp only [Act.put, List.getElem_toArray, List.getElem_cons_zero, List.getElem_cons_succ, List.setIfInBounds_toArray, List.set_cons_zero, List.set_cons_succ]
         refine wpAnyH_take (i := 10) (v := ?_) rfl (by kernel_rfl) (by kernel_rfl) (by kernel_rfl) (fun _ _ _ h => h) (Or.inl ⟨by rfl, ?_⟩) (by assumption) ?_
         rotate_left
         · (intro w hSw; (try dsimp only at hSw); go_simp; (try with_reducible rfl))
         try simp only [Act.put, List.getElem_toArray, List.getElem_cons_zero, List.getElem_cons_succ, List.setIfInBounds_toArray, List.set_cons_zero, List.set_cons_succ]
        rotate_left 1
       rotate_left 4
       focus
        have gA := World.grownBy_alloc efw4 (.cells #[.slice none 0 0, .bool false] 26) none
        have lohGl : w.heap.size ≤ efw4.heap.size := hG.size
        have lohTl : w0.heap.size ≤ efw4.heap.size := hT.size
        have ltal : w.heap.size < efw4.heap.size := heap_lt Ba
        have ltbl : w.heap.size + 1 < efw4.heap.size := heap_lt Bb
        have ltgl : pg < efw4.heap.size := heap_lt Bg
        have ltel : aw1 < efw4.heap.size := heap_lt Be
        have Bl_ := heap_new efw4 (.cells #[.slice none 0 0, .bool false] 26) efw4.heap.size rfl
        replace Ba := heap_kept gA Ba
        replace Bb := heap_kept gA Bb
        replace Bg := heap_kept gA Bg
        replace Be := heap_kept gA Be
        replace ia := ia.kept gA
        replace ib := ib.kept gA
        replace ig := ig.kept gA
        replace ie := ie.kept gA
        replace hG := grown_trans hG gA
        replace hT := grown_trans hT gA
        clear gA
        go_simp
        generalize (efw4.alloc (.cells #[.slice none 0 0, .bool false] 26)) = efw5 at *
        generalize efw4.heap.size = pl at *
        have Bl := Bl_
        clear Bl_
        refine hKQ.out _ _ (by exact ⟨(box_cells Bg).1, (box_cells Bg).2.1, (box_cells Ba).1, (box_cells Ba).2.1, (box_cells Be).1, (box_cells Be).2.1, (box_cells Bb).1, (box_cells Bb).2.1⟩) (fun hHeld => ?_)
        clear hKQ KQ
        try simp only [Act.put, List.getElem_toArray, List.getElem_cons_zero, List.getElem_cons_succ, List.setIfInBounds_toArray, List.set_cons_zero, List.set_cons_succ]
        refine wpAnyH_ready (rs := [3, 11]) (by kernel_rfl) (by simp) ?_
        refine AllReadyH.cons rfl (fun KQ hKQ => ?_) (AllReadyH.cons rfl (fun KQ hKQ => ?_) AllReadyH.nil)
        focus
         go_simp
         go_at_call 36
         refine (ZMul_any efw5 _ _ x (X * sgn) (K + 1 + (K + 1)) ia ie (by omega) (bw Hla.out (by omega)) LU.out).mono ?_
         rintro e efw6 ⟨_, rfl, ⟨sm, xm, bm, rfl, hm, vm, tm⟩, gefw6⟩
         have im : IntV efw6 (.agg #[.slice sm xm.length xm.length, .bool bm]) (x * (X * sgn)) := ⟨sm, xm, bm, rfl, hm, vm, tm⟩
         replace Ba := heap_kept gefw6 Ba
         replace Bb := heap_kept gefw6 Bb
         replace Bg := heap_kept gefw6 Bg
         replace Be := heap_kept gefw6 Be
         replace Bl := heap_kept gefw6 Bl
         replace ia := ia.kept gefw6
         replace ib := ib.kept gefw6
         replace ig := ig.kept gefw6
         replace ie := ie.kept gefw6
         replace hG := grown_trans hG gefw6
         replace hT := grown_trans hT gefw6
         clear gefw6
         clear hm vm tm
         (try go_wp2_with fail)
         refine hKQ.out _ _ (by exact ⟨(box_cells Bg).1, (box_cells Bg).2.1, (box_cells Ba).1, (box_cells Ba).2.1, (box_cells Be).1, (box_cells Be).2.1, (box_cells Bb).1, (box_cells Bb).2.1⟩) (fun hHeld => ?_)
         clear hKQ KQ
         try simp only [Act.put, List.getElem_toArray, List.getElem_cons_zero, List.getElem_cons_succ, List.setIfInBounds_toArray, List.set_cons_zero, List.set_cons_succ]
         refine wpAnyH_ready (rs := [4, 11]) (by kernel_rfl) (by simp) ?_
         refine AllReadyH.cons rfl (fun KQ hKQ => ?_) (AllReadyH.cons rfl (fun KQ hKQ => ?_) AllReadyH.nil)
         focus
          go_simp
          go_at_call 31
          refine (ZSub_any efw6 _ _ (G : Int) (x * (X * sgn)) (K + 1 + (K + 1) + (K + 1 + (K + 1))) ig im (by omega) LGG.out LAU.out).mono ?_
          rintro e efw7 ⟨_, rfl, ⟨ss, xs, bs, rfl, hs, vs, ts⟩, gefw7⟩
          have is : IntV efw7 (.agg #[.slice ss xs.length xs.length, .bool bs]) ((G : Int) - x * (X * sgn)) := ⟨ss, xs, bs, rfl, hs, vs, ts⟩
          replace Ba := heap_kept gefw7 Ba
          replace Bb := heap_kept gefw7 Bb
          replace Bg := heap_kept gefw7 Bg
          replace Be := heap_kept gefw7 Be
          replace Bl := heap_kept gefw7 Bl
          replace ia := ia.kept gefw7
          replace ib := ib.kept gefw7
          replace ig := ig.kept gefw7
          replace ie := ie.kept gefw7
          replace im := im.kept gefw7
          replace hG := grown_trans hG gefw7
          replace hT := grown_trans hT gefw7
          clear gefw7
          clear hs vs ts
          (try go_wp2_with fail)
          refine hKQ.out _ _ (by exact ⟨(box_cells Bg).1, (box_cells Bg).2.1, (box_cells Ba).1, (box_cells Ba).2.1, (box_cells Be).1, (box_cells Be).2.1, (box_cells Bb).1, (box_cells Bb).2.1⟩) (fun hHeld => ?_)
          clear hKQ KQ
          try simp only [Act.put, List.getElem_toArray, List.getElem_cons_zero, List.getElem_cons_succ, List.setIfInBounds_toArray, List.set_cons_zero, List.set_cons_succ]
          refine wpAnyH_ready (rs := [6, 11]) (by kernel_rfl) (by simp) ?_
          refine AllReadyH.cons rfl (fun KQ hKQ => ?_) (AllReadyH.cons rfl (fun KQ hKQ => ?_) AllReadyH.nil)
          focus
           go_simp
           go_at_call 38
           refine (HFL.out efw7 _ _ is ib).mono ?_
           rintro e efw8 ⟨_, _, rfl, ⟨sq, xq, bq, rfl, hq, vq, tq⟩, ⟨sr, xr, br, rfl, hr, vr, tr⟩, gefw8⟩
           have iq : IntV efw8 (.agg #[.slice sq xq.length xq.length, .bool bq]) (Z9) := ⟨sq, xq, bq, rfl, hq, vq, tq⟩
           have ir : IntV efw8 (.agg #[.slice sr xr.length xr.length, .bool br]) (R9) := ⟨sr, xr, br, rfl, hr, vr, tr⟩
           replace Ba := heap_kept gefw8 Ba
           replace Bb := heap_kept gefw8 Bb
           replace Bg := heap_kept gefw8 Bg
           replace Be := heap_kept gefw8 Be
           replace Bl := heap_kept gefw8 Bl
           replace ia := ia.kept gefw8
           replace ib := ib.kept gefw8
           replace ig := ig.kept gefw8
           replace ie := ie.kept gefw8
           replace im := im.kept gefw8
           replace is := is.kept gefw8
           replace hG := grown_trans hG gefw8
           replace hT := grown_trans hT gefw8
           clear gefw8
           clear hq vq tq
           clear hr vr tr
           (try go_wp2_with fail)
           refine hKQ.out _ _ (by exact ⟨(box_cells Bg).1, (box_cells Bg).2.1, (box_cells Ba).1, (box_cells Ba).2.1, (box_cells Be).1, (box_cells Be).2.1, (box_cells Bb).1, (box_cells Bb).2.1⟩) (fun hHeld => ?_)
           clear hKQ KQ
           try simp only [Act.put, List.getElem_toArray, List.getElem_cons_zero, List.getElem_cons_succ, List.setIfInBounds_toArray, List.set_cons_zero, List.set_cons_succ]
           refine wpAnyH_take (i := 7) (v := ?_) rfl (by kernel_rfl) (by kernel_rfl) (by kernel_rfl) (fun _ _ _ h => h) (Or.inl ⟨by rfl, ?_⟩) (by assumption) ?_
           rotate_left
           · (intro w hSw; (try dsimp only at hSw); go_simp; (try with_reducible rfl))
           try simp only [Act.put, List.getElem_toArray, List.getElem_cons_zero, List.getElem_cons_succ, List.setIfInBounds_toArray, List.set_cons_zero, List.set_cons_succ]
           refine wpAnyH_take (i := 8) (v := ?_) rfl (by kernel_rfl) (by kernel_rfl) (by kernel_rfl) (fun _ _ _ h => h) (Or.inl ⟨by rfl, ?_⟩) (by assumption) ?_
           rotate_left
           · (intro w hSw; (try dsimp only at hSw); go_simp; (try with_reducible rfl))
           try simp only [Act.put, List.getElem_toArray, List.getElem_cons_zero, List.getElem_cons_succ, List.setIfInBounds_toArray, List.set_cons_zero, List.set_cons_succ]
           refine wpAnyH_take (i := 9) (v := ?_) rfl (by kernel_rfl) (by kernel_rfl) (by kernel_rfl) (fun _ _ _ h => h) (Or.inl ⟨by rfl, ?_⟩) (by assumption) ?_
           rotate_left
           · (intro w hSw; (try dsimp only at hSw); go_simp; (try with_reducible rfl))
           try simp only [Act.put, List.getElem_toArray, List.getElem_cons_zero, List.getElem_cons_succ, List.setIfInBounds_toArray, List.set_cons_zero, List.set_cons_succ]
           refine wpAnyH_take (i := 10) (v := ?_) rfl (by kernel_rfl) (by kernel_rfl) (by kernel_rfl) (fun _ _ _ h => h) (Or.inl ⟨by rfl, ?_⟩) (by assumption) ?_
           rotate_left
           · (intro w hSw; (try dsimp only at hSw); go_simp; (try with_reducible rfl))
           try simp only [Act.put, List.getElem_toArray, List.getElem_cons_zero, List.getElem_cons_succ, List.setIfInBounds_toArray, List.set_cons_zero, List.set_cons_succ]
           refine wpAnyH_ready (rs := [11]) (by kernel_rfl) (by simp) ?_
           refine AllReadyH.cons rfl (fun KQ hKQ => ?_) AllReadyH.nil
           have gA := World.grownBy_alloc efw8 (.cells #[.slice none 0 0, .bool false] 26) none
           have lohGk : w.heap.size ≤ efw8.heap.size := hG.size
           have lohTk : w0.heap.size ≤ efw8.heap.size := hT.size
           have ltak : w.heap.size < efw8.heap.size := heap_lt Ba
           have ltbk : w.heap.size + 1 < efw8.heap.size := heap_lt Bb
           have ltgk : pg < efw8.heap.size := heap_lt Bg
           have ltek : aw1 < efw8.heap.size := heap_lt Be
           have ltlk : pl < efw8.heap.size := heap_lt Bl
           have Bk_ := heap_new efw8 (.cells #[.slice none 0 0, .bool false] 26) efw8.heap.size rfl
           replace Ba := heap_kept gA Ba
           replace Bb := heap_kept gA Bb
           replace Bg := heap_kept gA Bg
           replace Be := heap_kept gA Be
           replace Bl := heap_kept gA Bl
           replace ia := ia.kept gA
           replace ib := ib.kept gA
           replace ig := ig.kept gA
           replace ie := ie.kept gA
           replace im := im.kept gA
           replace is := is.kept gA
           replace iq := iq.kept gA
           replace ir := ir.kept gA
           replace hG := grown_trans hG gA
           replace hT := grown_trans hT gA
           clear gA
           go_simp
           generalize (efw8.alloc (.cells #[.slice none 0 0, .bool false] 26)) = efw9 at *
           generalize efw8.heap.size = pk at *
           have Bk := Bk_
           clear Bk_
           refine hKQ.out _ _ (by exact ⟨(box_cells Bg).1, (box_cells Bg).2.1, (box_cells Ba).1, (box_cells Ba).2.1, (box_cells Be).1, (box_cells Be).2.1, (box_cells Bb).1, (box_cells Bb).2.1⟩) (fun hHeld => ?_)
           clear hKQ KQ
           try simp only [Act.put, List.getElem_toArray, List.getElem_cons_zero, List.getElem_cons_succ, List.setIfInBounds_toArray, List.set_cons_zero, List.set_cons_succ]
          rotate_left 1
          focus
           have gA := World.grownBy_alloc efw7 (.cells #[.slice none 0 0, .bool false] 26) none
           have lohGk : w.heap.size ≤ efw7.heap.size := hG.size
           have lohTk : w0.heap.size ≤ efw7.heap.size := hT.size
           have ltak : w.heap.size < efw7.heap.size := heap_lt Ba
           have ltbk : w.heap.size + 1 < efw7.heap.size := heap_lt Bb
           have ltgk : pg < efw7.heap.size := heap_lt Bg
           have ltek : aw1 < efw7.heap.size := heap_lt Be
           have ltlk : pl < efw7.heap.size := heap_lt Bl
           have Bk_ := heap_new efw7 (.cells #[.slice none 0 0, .bool false] 26) efw7.heap.size rfl
           replace Ba := heap_kept gA Ba
           replace Bb := heap_kept gA Bb
           replace Bg := heap_kept gA Bg
           replace Be := heap_kept gA Be
           replace Bl := heap_kept gA Bl
           replace ia := ia.kept gA
           replace ib := ib.kept gA
           replace ig := ig.kept gA
           replace ie := ie.kept gA
           replace im := im.kept gA
           replace is := is.kept gA
           replace hG := grown_trans hG gA
           replace hT := grown_trans hT gA
           clear gA
           go_simp
           generalize (efw7.alloc (.cells #[.slice none 0 0, .bool false] 26)) = efw8 at *
           generalize efw7.heap.size = pk at *
           have Bk := Bk_
           clear Bk_
           refine hKQ.out _ _ (by exact ⟨(box_cells Bg).1, (box_cells Bg).2.1, (box_cells Ba).1, (box_cells Ba).2.1, (box_cells Be).1, (box_cells Be).2.1, (box_cells Bb).1, (box_cells Bb).2.1⟩) (fun hHeld => ?_)
           clear hKQ KQ
           try simp only [Act.put, List.getElem_toArray, List.getElem_cons_zero, List.getElem_cons_succ, List.setIfInBounds_toArray, List.set_cons_zero, List.set_cons_succ]
           refine wpAnyH_ready (rs := [6]) (by kernel_rfl) (by simp) ?_
           refine AllReadyH.cons rfl (fun KQ hKQ => ?_) AllReadyH.nil
           go_simp
           go_at_call 38
           refine (HFL.out efw8 _ _ is ib).mono ?_
           rintro e efw9 ⟨_, _, rfl, ⟨sq, xq, bq, rfl, hq, vq, tq⟩, ⟨sr, xr, br, rfl, hr, vr, tr⟩, gefw9⟩
           have iq : IntV efw9 (.agg #[.slice sq xq.length xq.length, .bool bq]) (Z9) := ⟨sq, xq, bq, rfl, hq, vq, tq⟩
           have ir : IntV efw9 (.agg #[.slice sr xr.length xr.length, .bool br]) (R9) := ⟨sr, xr, br, rfl, hr, vr, tr⟩
           replace Ba := heap_kept gefw9 Ba
           replace Bb := heap_kept gefw9 Bb
           replace Bg := heap_kept gefw9 Bg
           replace Be := heap_kept gefw9 Be
           replace Bl := heap_kept gefw9 Bl
           replace Bk := heap_kept gefw9 Bk
           replace ia := ia.kept gefw9
           replace ib := ib.kept gefw9
           replace ig := ig.kept gefw9
           replace ie := ie.kept gefw9
           replace im := im.kept gefw9
           replace is := is.kept gefw9
           replace hG := grown_trans hG gefw9
           replace hT := grown_trans hT gefw9
           clear gefw9
           clear hq vq tq
           clear hr vr tr
           (try go_wp2_with fail)
           refine hKQ.out _ _ (by exact ⟨(box_cells Bg).1, (box_cells Bg).2.1, (box_cells Ba).1, (box_cells Ba).2.1, (box_cells Be).1, (box_cells Be).2.1, (box_cells Bb).1, (box_cells Bb).2.1⟩) (fun hHeld => ?_)
           clear hKQ KQ
           try simp only [Act.put, List.getElem_toArray, List.getElem_cons_zero, List.getElem_cons_succ, List.setIfInBounds_toArray, List.set_cons_zero, List.set_cons_succ]
           refine wpAnyH_take (i := 7) (v := ?_) rfl (by kernel_rfl) (by kernel_rfl) (by kernel_rfl) (fun _ _ _ h => h) (Or.inl ⟨by rfl, ?_⟩) (by assumption) ?_
           rotate_left
           · (intro w hSw; (try dsimp only at hSw); go_simp; (try with_reducible rfl))
           try simp only [Act.put, List.getElem_toArray, List.getElem_cons_zero, List.getElem_cons_succ, List.setIfInBounds_toArray, List.set_cons_zero, List.set_cons_succ]
           refine wpAnyH_take (i := 8) (v := ?_) rfl (by kernel_rfl) (by kernel_rfl) (by kernel_rfl) (fun _ _ _ h => h) (Or.inl ⟨by rfl, ?_⟩) (by assumption) ?_
           rotate_left
           · (intro w hSw; (try dsimp only at hSw); go_simp; (try with_reducible rfl))
           try simp only [Act.put, List.getElem_toArray, List.getElem_cons_zero, List.getElem_cons_succ, List.setIfInBounds_toArray, List.set_cons_zero, List.set_cons_succ]
           refine wpAnyH_take (i := 9) (v := ?_) rfl (by kernel_rfl) (by kernel_rfl) (by kernel_rfl) (fun _ _ _ h => h) (Or.inl ⟨by rfl, ?_⟩) (by assumption) ?_
           rotate_left
           · (intro w hSw; (try dsimp only at hSw); go_simp; (try with_reducible rfl))
           try simp only [Act.put, List.getElem_toArray, List.getElem_cons_zero, List.getElem_cons_succ, List.setIfInBounds_toArray, List.set_cons_zero, List.set_cons_succ]
           refine wpAnyH_take (i := 10) (v := ?_) rfl (by kernel_rfl) (by kernel_rfl) (by kernel_rfl) (fun _ _ _ h => h) (Or.inl ⟨by rfl, ?_⟩) (by assumption) ?_
           rotate_left
           · (intro w hSw; (try dsimp only at hSw); go_simp; (try with_reducible rfl))
           try simp only [Act.put, List.getElem_toArray, List.getElem_cons_zero, List.getElem_cons_succ, List.setIfInBounds_toArray, List.set_cons_zero, List.set_cons_succ]
          rotate_left 1
         rotate_left 2
         focus
          have gA := World.grownBy_alloc efw6 (.cells #[.slice none 0 0, .bool false] 26) none
          have lohGk : w.heap.size ≤ efw6.heap.size := hG.size
          have lohTk : w0.heap.size ≤ efw6.heap.size := hT.size
          have ltak : w.heap.size < efw6.heap.size := heap_lt Ba
          have ltbk : w.heap.size + 1 < efw6.heap.size := heap_lt Bb
          have ltgk : pg < efw6.heap.size := heap_lt Bg
          have ltek : aw1 < efw6.heap.size := heap_lt Be
          have ltlk : pl < efw6.heap.size := heap_lt Bl
          have Bk_ := heap_new efw6 (.cells #[.slice none 0 0, .bool false] 26) efw6.heap.size rfl
          replace Ba := heap_kept gA Ba
          replace Bb := heap_kept gA Bb
          replace Bg := heap_kept gA Bg
          replace Be := heap_kept gA Be
          replace Bl := heap_kept gA Bl
          replace ia := ia.kept gA
          replace ib := ib.kept gA
          replace ig := ig.kept gA
          replace ie := ie.kept gA
          replace im := im.kept gA
          replace hG := grown_trans hG gA
          replace hT := grown_trans hT gA
          clear gA
          go_simp
          generalize (efw6.alloc (.cells #[.slice none 0 0, .bool false] 26)) = efw7 at *
          generalize efw6.heap.size = pk at *
          have Bk := Bk_
          clear Bk_
          refine hKQ.out _ _ (by exact ⟨(box_cells Bg).1, (box_cells Bg).2.1, (box_cells Ba).1, (box_cells Ba).2.1, (box_cells Be).1, (box_cells Be).2.1, (box_cells Bb).1, (box_cells Bb).2.1⟩) (fun hHeld => ?_)
          clear hKQ KQ
          try simp only [Act.put, List.getElem_toArray, List.getElem_cons_zero, List.getElem_cons_succ, List.setIfInBounds_toArray, List.set_cons_zero, List.set_cons_succ]
          refine wpAnyH_ready (rs := [4]) (by kernel_rfl) (by simp) ?_
          refine AllReadyH.cons rfl (fun KQ hKQ => ?_) AllReadyH.nil
          go_simp
          go_at_call 31
          refine (ZSub_any efw7 _ _ (G : Int) (x * (X * sgn)) (K + 1 + (K + 1) + (K + 1 + (K + 1))) ig im (by omega) LGG.out LAU.out).mono ?_
          rintro e efw8 ⟨_, rfl, ⟨ss, xs, bs, rfl, hs, vs, ts⟩, gefw8⟩
          have is : IntV efw8 (.agg #[.slice ss xs.length xs.length, .bool bs]) ((G : Int) - x * (X * sgn)) := ⟨ss, xs, bs, rfl, hs, vs, ts⟩
          replace Ba := heap_kept gefw8 Ba
          replace Bb := heap_kept gefw8 Bb
          replace Bg := heap_kept gefw8 Bg
          replace Be := heap_kept gefw8 Be
          replace Bl := heap_kept gefw8 Bl
          replace Bk := heap_kept gefw8 Bk
          replace ia := ia.kept gefw8
          replace ib := ib.kept gefw8
          replace ig := ig.kept gefw8
          replace ie := ie.kept gefw8
          replace im := im.kept gefw8
          replace hG := grown_trans hG gefw8
          replace hT := grown_trans hT gefw8
          clear gefw8
          clear hs vs ts
          (try go_wp2_with fail)
          refine hKQ.out _ _ (by exact ⟨(box_cells Bg).1, (box_cells Bg).2.1, (box_cells Ba).1, (box_cells Ba).2.1, (box_cells Be).1, (box_cells Be).2.1, (box_cells Bb).1, (box_cells Bb).2.1⟩) (fun hHeld => ?_)
          clear hKQ KQ
          try simp only [Act.put, List.getElem_toArray, List.getElem_cons_zero, List.getElem_cons_succ, List.setIfInBounds_toArray, List.set_cons_zero, List.set_cons_succ]
          refine wpAnyH_ready (rs := [6]) (by kernel_rfl) (by simp) ?_
          refine AllReadyH.cons rfl (fun KQ hKQ => ?_) AllReadyH.nil
          go_simp
          go_at_call 38
          refine (HFL.out efw8 _ _ is ib).mono ?_
          rintro e efw9 ⟨_, _, rfl, ⟨sq, xq, bq, rfl, hq, vq, tq⟩, ⟨sr, xr, br, rfl, hr, vr, tr⟩, gefw9⟩
          have iq : IntV efw9 (.agg #[.slice sq xq.length xq.length, .bool bq]) (Z9) := ⟨sq, xq, bq, rfl, hq, vq, tq⟩
          have ir : IntV efw9 (.agg #[.slice sr xr.length xr.length, .bool br]) (R9) := ⟨sr, xr, br, rfl, hr, vr, tr⟩
          replace Ba := heap_kept gefw9 Ba
          replace Bb := heap_kept gefw9 Bb
          replace Bg := heap_kept gefw9 Bg
          replace Be := heap_kept gefw9 Be
          replace Bl := heap_kept gefw9 Bl
          replace Bk := heap_kept gefw9 Bk
          replace ia := ia.kept gefw9
          replace ib := ib.kept gefw9
          replace ig := ig.kept gefw9
          replace ie := ie.kept gefw9
          replace im := im.kept gefw9
          replace is := is.kept gefw9
          replace hG := grown_trans hG gefw9
          replace hT := grown_trans hT gefw9
          clear gefw9
          clear hq vq tq
          clear hr vr tr
          (try go_wp2_with fail)
          refine hKQ.out _ _ (by exact ⟨(box_cells Bg).1, (box_cells Bg).2.1, (box_cells Ba).1, (box_cells Ba).2.1, (box_cells Be).1, (box_cells Be).2.1, (box_cells Bb).1, (box_cells Bb).2.1⟩) (fun hHeld => ?_)
          clear hKQ KQ
          try simp only [Act.put, List.getElem_toArray, List.getElem_cons_zero, List.getElem_cons_succ, List.setIfInBounds_toArray, List.set_cons_zero, List.set_cons_succ]
          refine wpAnyH_take (i := 7) (v := ?_) rfl (by kernel_rfl) (by kernel_rfl) (by kernel_rfl) (fun _ _ _ h => h) (Or.inl ⟨by rfl, ?_⟩) (by assumption) ?_
          rotate_left
          · (intro w hSw; (try dsimp only at hSw); go_simp; (try with_reducible rfl))
          try simp only [Act.put, List.getElem_toArray, List.getElem_cons_zero, List.getElem_cons_succ, List.setIfInBounds_toArray, List.set_cons_zero, List.set_cons_succ]
          refine wpAnyH_take (i := 8) (v := ?_) rfl (by kernel_rfl) (by kernel_rfl) (by kernel_rfl) (fun _ _ _ h => h) (Or.inl ⟨by rfl, ?_⟩) (by assumption) ?_
          rotate_left
          · (intro w hSw; (try dsimp only at hSw); go_simp; (try with_reducible rfl))
          try simp only [Act.put, List.getElem_toArray, List.getElem_cons_zero, List.getElem_cons_succ, List.setIfInBounds_toArray, List.set_cons_zero, List.set_cons_succ]
          refine wpAnyH_take (i := 9) (v := ?_) rfl (by kernel_rfl) (by kernel_rfl) (by kernel_rfl) (fun _ _ _ h => h) (Or.inl ⟨by rfl, ?_⟩) (by assumption) ?_
          rotate_left
          · (intro w hSw; (try dsimp only at hSw); go_simp; (try with_reducible rfl))
          try simp only [Act.put, List.getElem_toArray, List.getElem_cons_zero, List.getElem_cons_succ, List.setIfInBounds_toArray, List.set_cons_zero, List.set_cons_succ]
          refine wpAnyH_take (i := 10) (v := ?_) rfl (by kernel_rfl) (by kernel_rfl) (by kernel_rfl) (fun _ _ _ h => h) (Or.inl ⟨by rfl, ?_⟩) (by assumption) ?_
          rotate_left
          · (intro w hSw; (try dsimp only at hSw); go_simp; (try with_reducible rfl))
          try simp only [Act.put, List.getElem_toArray, List.getElem_cons_zero, List.getElem_cons_succ, List.setIfInBounds_toArray, List.set_cons_zero, List.set_cons_succ]
         rotate_left 1
        rotate_left 3
        focus
         have gA := World.grownBy_alloc efw5 (.cells #[.slice none 0 0, .bool false] 26) none
         have lohGk : w.heap.size ≤ efw5.heap.size := hG.size
         have lohTk : w0.heap.size ≤ efw5.heap.size := hT.size
         have ltak : w.heap.size < efw5.heap.size := heap_lt Ba
         have ltbk : w.heap.size + 1 < efw5.heap.size := heap_lt Bb
         have ltgk : pg < efw5.heap.size := heap_lt Bg
         have ltek : aw1 < efw5.heap.size := heap_lt Be
         have ltlk : pl < efw5.heap.size := heap_lt Bl
         have Bk_ := heap_new efw5 (.cells #[.slice none 0 0, .bool false] 26) efw5.heap.size rfl
         replace Ba := heap_kept gA Ba
         replace Bb := heap_kept gA Bb
         replace Bg := heap_kept gA Bg
         replace Be := heap_kept gA Be
         replace Bl := heap_kept gA Bl
         replace ia := ia.kept gA
         replace ib := ib.kept gA
         replace ig := ig.kept gA
         replace ie := ie.kept gA
         replace hG := grown_trans hG gA
         replace hT := grown_trans hT gA
         clear gA
         go_simp
         generalize (efw5.alloc (.cells #[.slice none 0 0, .bool false] 26)) = efw6 at *
         generalize efw5.heap.size = pk at *
         have Bk := Bk_
         clear Bk_
         refine hKQ.out _ _ (by exact ⟨(box_cells Bg).1, (box_cells Bg).2.1, (box_cells Ba).1, (box_cells Ba).2.1, (box_cells Be).1, (box_cells Be).2.1, (box_cells Bb).1, (box_cells Bb).2.1⟩) (fun hHeld => ?_)
         clear hKQ KQ
         try simp only [Act.put, List.getElem_toArray, List.getElem_cons_zero, List.getElem_cons_succ, List.setIfInBounds_toArray, List.set_cons_zero, List.set_cons_succ]
         refine wpAnyH_ready (rs := [3]) (by kernel_rfl) (by simp) ?_
         refine AllReadyH.cons rfl (fun KQ hKQ => ?_) AllReadyH.nil
         go_simp
         go_at_call 36
         refine (ZMul_any efw6 _ _ x (X * sgn) (K + 1 + (K + 1)) ia ie (by omega) (bw Hla.out (by omega)) LU.out).mono ?_
         rintro e efw7 ⟨_, rfl, ⟨sm, xm, bm, rfl, hm, vm, tm⟩, gefw7⟩
         have im : IntV efw7 (.agg #[.slice sm xm.length xm.length, .bool bm]) (x * (X * sgn)) := ⟨sm, xm, bm, rfl, hm, vm, tm⟩
         replace Ba := heap_kept gefw7 Ba
         replace Bb := heap_kept gefw7 Bb
         replace Bg := heap_kept gefw7 Bg
         replace Be := heap_kept gefw7 Be
         replace Bl := heap_kept gefw7 Bl
         replace Bk := heap_kept gefw7 Bk
         replace ia := ia.kept gefw7
         replace ib := ib.kept gefw7
         replace ig := ig.kept gefw7
         replace ie := ie.kept gefw7
         replace hG := grown_trans hG gefw7
         replace hT := grown_trans hT gefw7
         clear gefw7
         clear hm vm tm
         (try go_wp2_with fail)
         refine hKQ.out _ _ (by exact ⟨(box_cells Bg).1, (box_cells Bg).2.1, (box_cells Ba).1, (box_cells Ba).2.1, (box_cells Be).1, (box_cells Be).2.1, (box_cells Bb).1, (box_cells Bb).2.1⟩) (fun hHeld => ?_)
         clear hKQ KQ
         try simp only [Act.put, List.getElem_toArray, List.getElem_cons_zero, List.getElem_cons_succ, List.setIfInBounds_toArray, List.set_cons_zero, List.set_cons_succ]
         refine wpAnyH_ready (rs := [4]) (by kernel_rfl) (by simp) ?_
         refine AllReadyH.cons rfl (fun KQ hKQ => ?_) AllReadyH.nil
         go_simp
         go_at_call 31
         refine (ZSub_any efw7 _ _ (G : Int) (x * (X * sgn)) (K + 1 + (K + 1) + (K + 1 + (K + 1))) ig im (by omega) LGG.out LAU.out).mono ?_
         rintro e efw8 ⟨_, rfl, ⟨ss, xs, bs, rfl, hs, vs, ts⟩, gefw8⟩
         have is : IntV efw8 (.agg #[.slice ss xs.length xs.length, .bool bs]) ((G : Int) - x * (X * sgn)) := ⟨ss, xs, bs, rfl, hs, vs, ts⟩
         replace Ba := heap_kept gefw8 Ba
         replace Bb := heap_kept gefw8 Bb
         replace Bg := heap_kept gefw8 Bg
         replace Be := heap_kept gefw8 Be
         replace Bl := heap_kept gefw8 Bl
         replace Bk := heap_kept gefw8 Bk
         replace ia := ia.kept gefw8
         replace ib := ib.kept gefw8
         replace ig := ig.kept gefw8
         replace ie := ie.kept gefw8
         replace im := im.kept gefw8
         replace hG := grown_trans hG gefw8
         replace hT := grown_trans hT gefw8
         clear gefw8
         clear hs vs ts
         (try go_wp2_with fail)
         refine hKQ.out _ _ (by exact ⟨(box_cells Bg).1, (box_cells Bg).2.1, (box_cells Ba).1, (box_cells Ba).2.1, (box_cells Be).1, (box_cells Be).2.1, (box_cells Bb).1, (box_cells Bb).2.1⟩) (fun hHeld => ?_)
         clear hKQ KQ
         try simp only [Act.put, List.getElem_toArray, List.getElem_cons_zero, List.getElem_cons_succ, List.setIfInBounds_toArray, List.set_cons_zero, List.set_cons_succ]
         refine wpAnyH_ready (rs := [6]) (by kernel_rfl) (by simp) ?_
         refine AllReadyH.cons rfl (fun KQ hKQ => ?_) AllReadyH.nil
         go_simp
         go_at_call 38
         refine (HFL.out efw8 _ _ is ib).mono ?_
         rintro e efw9 ⟨_, _, rfl, ⟨sq, xq, bq, rfl, hq, vq, tq⟩, ⟨sr, xr, br, rfl, hr, vr, tr⟩, gefw9⟩
         have iq : IntV efw9 (.agg #[.slice sq xq.length xq.length, .bool bq]) (Z9) := ⟨sq, xq, bq, rfl, hq, vq, tq⟩
         have ir : IntV efw9 (.agg #[.slice sr xr.length xr.length, .bool br]) (R9) := ⟨sr, xr, br, rfl, hr, vr, tr⟩
         replace Ba := heap_kept gefw9 Ba
         replace Bb := heap_kept gefw9 Bb
         replace Bg := heap_kept gefw9 Bg
         replace Be := heap_kept gefw9 Be
         replace Bl := heap_kept gefw9 Bl
         replace Bk := heap_kept gefw9 Bk
         replace ia := ia.kept gefw9
         replace ib := ib.kept gefw9
         replace ig := ig.kept gefw9
         replace ie := ie.kept gefw9
         replace im := im.kept gefw9
         replace is := is.kept gefw9
         replace hG := grown_trans hG gefw9
         replace hT := grown_trans hT gefw9
         clear gefw9
         clear hq vq tq
         clear hr vr tr
         (try go_wp2_with fail)
         refine hKQ.out _ _ (by exact ⟨(box_cells Bg).1, (box_cells Bg).2.1, (box_cells Ba).1, (box_cells Ba).2.1, (box_cells Be).1, (box_cells Be).2.1, (box_cells Bb).1, (box_cells Bb).2.1⟩) (fun hHeld => ?_)
         clear hKQ KQ
         try simp only [Act.put, List.getElem_toArray, List.getElem_cons_zero, List.getElem_cons_succ, List.setIfInBounds_toArray, List.set_cons_zero, List.set_cons_succ]
         refine wpAnyH_take (i := 7) (v := ?_) rfl (by kernel_rfl) (by kernel_rfl) (by kernel_rfl) (fun _ _ _ h => h) (Or.inl ⟨by rfl, ?_⟩) (by assumption) ?_
         rotate_left
         · (intro w hSw; (try dsimp only at hSw); go_simp; (try with_reducible rfl))
         try simp only [Act.put, List.getElem_toArray, List.getElem_cons_zero, List.getElem_cons_succ, List.setIfInBounds_toArray, List.set_cons_zero, List.set_cons_succ]
         refine wpAnyH_take (i := 8) (v := ?_) rfl (by kernel_rfl) (by kernel_rfl) (by kernel_rfl) (fun _ _ _ h => h) (Or.inl ⟨by rfl, ?_⟩) (by assumption) ?_
         rotate_left
         · (intro w hSw; (try dsimp only at hSw); go_simp; (try with_reducible rfl))
         try simp only [Act.put, List.getElem_toArray, List.getElem_cons_zero, List.getElem_cons_succ, List.setIfInBounds_toArray, List.set_cons_zero, List.set_cons_succ]
         refine wpAnyH_take (i := 9) (v := ?_) rfl (by kernel_rfl) (by kernel_rfl) (by kernel_rfl) (fun _ _ _ h => h) (Or.inl ⟨by rfl, ?_⟩) (by assumption) ?_
         rotate_left
         · (intro w hSw; (try dsimp only at hSw); go_simp; (try with_reducible rfl))
         try simp only [Act.put, List.getElem_toArray, List.getElem_cons_zero, List.getElem_cons_succ, List.setIfInBounds_toArray, List.set_cons_zero, List.set_cons_succ]
         refine wpAnyH_take (i := 10) (v := ?_) rfl (by kernel_rfl) (by kernel_rfl) (by kernel_rfl) (fun _ _ _ h => h) (Or.inl ⟨by rfl, ?_⟩) (by assumption) ?_
         rotate_left
         · (intro w hSw; (try dsimp only at hSw); go_simp; (try with_reducible rfl))
         try simp only [Act.put, List.getElem_toArray, List.getElem_cons_zero, List.getElem_cons_succ, List.setIfInBounds_toArray, List.set_cons_zero, List.set_cons_succ]
        rotate_left 1
       rotate_left 4
       all_goals (
        refine wpAnyH_ready (rs := [13]) (by kernel_rfl) (by simp) ?_
        refine AllReadyH.cons rfl (fun KQ hKQ => ?_) AllReadyH.nil
        obtain ⟨c0', c1', c2', c3'⟩ := box_cells Bk
        go_simp
        clear c0' c1' c2' c3'
        replace ia := ia.set2 Bk (.slice sq xq.length xq.length) (.bool bq)
        replace ib := ib.set2 Bk (.slice sq xq.length xq.length) (.bool bq)
        replace ig := ig.set2 Bk (.slice sq xq.length xq.length) (.bool bq)
        replace ie := ie.set2 Bk (.slice sq xq.length xq.length) (.bool bq)
        replace im := im.set2 Bk (.slice sq xq.length xq.length) (.bool bq)
        replace is := is.set2 Bk (.slice sq xq.length xq.length) (.bool bq)
        replace iq := iq.set2 Bk (.slice sq xq.length xq.length) (.bool bq)
        replace ir := ir.set2 Bk (.slice sq xq.length xq.length) (.bool bq)
        replace hG := grown_set2 (g := pk) hG (by omega) (.slice sq xq.length xq.length) (.bool bq)
        replace hT := grown_set2 (g := pk) hT (by omega) (.slice sq xq.length xq.length) (.bool bq)
        replace Ba := heap_unset2 Ba (show w.heap.size ≠ pk by omega) (.slice sq xq.length xq.length) (.bool bq)
        replace Bb := heap_unset2 Bb (show w.heap.size + 1 ≠ pk by omega) (.slice sq xq.length xq.length) (.bool bq)
        replace Bg := heap_unset2 Bg (show pg ≠ pk by omega) (.slice sq xq.length xq.length) (.bool bq)
        replace Be := heap_unset2 Be (show aw1 ≠ pk by omega) (.slice sq xq.length xq.length) (.bool bq)
        replace Bl := heap_unset2 Bl (show pl ≠ pk by omega) (.slice sq xq.length xq.length) (.bool bq)
        replace Bk := heap_set2 Bk (.slice sq xq.length xq.length) (.bool bq)
        generalize ((efw9.setCell ⟨pk, 0, none⟩ (.slice sq xq.length xq.length)).setCell ⟨pk, 1, none⟩ (.bool bq)) = efw10 at *
        refine hKQ.out _ _ (by exact ⟨(box_cells Bg).1, (box_cells Bg).2.1, (box_cells Ba).1, (box_cells Ba).2.1, (box_cells Be).1, (box_cells Be).2.1, (box_cells Bb).1, (box_cells Bb).2.1⟩) (fun hHeld => ?_)
        clear hKQ KQ
        try simp only [Act.put, List.getElem_toArray, List.getElem_cons_zero, List.getElem_cons_succ, List.setIfInBounds_toArray, List.set_cons_zero, List.set_cons_succ]
        refine wpAnyH_ready (rs := [14]) (by kernel_rfl) (by simp) ?_
        refine AllReadyH.cons rfl (fun KQ hKQ => ?_) AllReadyH.nil
        obtain ⟨c0', c1', c2', c3'⟩ := box_cells Bl
        go_simp
        clear c0' c1' c2' c3'
        replace ia := ia.set2 Bl (.slice sr xr.length xr.length) (.bool br)
        replace ib := ib.set2 Bl (.slice sr xr.length xr.length) (.bool br)
        replace ig := ig.set2 Bl (.slice sr xr.length xr.length) (.bool br)
        replace ie := ie.set2 Bl (.slice sr xr.length xr.length) (.bool br)
        replace im := im.set2 Bl (.slice sr xr.length xr.length) (.bool br)
        replace is := is.set2 Bl (.slice sr xr.length xr.length) (.bool br)
        replace iq := iq.set2 Bl (.slice sr xr.length xr.length) (.bool br)
        replace ir := ir.set2 Bl (.slice sr xr.length xr.length) (.bool br)
        replace hG := grown_set2 (g := pl) hG (by omega) (.slice sr xr.length xr.length) (.bool br)
        replace hT := grown_set2 (g := pl) hT (by omega) (.slice sr xr.length xr.length) (.bool br)
        replace Ba := heap_unset2 Ba (show w.heap.size ≠ pl by omega) (.slice sr xr.length xr.length) (.bool br)
        replace Bb := heap_unset2 Bb (show w.heap.size + 1 ≠ pl by omega) (.slice sr xr.length xr.length) (.bool br)
        replace Bg := heap_unset2 Bg (show pg ≠ pl by omega) (.slice sr xr.length xr.length) (.bool br)
        replace Be := heap_unset2 Be (show aw1 ≠ pl by omega) (.slice sr xr.length xr.length) (.bool br)
        replace Bk := heap_unset2 Bk (show pk ≠ pl by omega) (.slice sr xr.length xr.length) (.bool br)
        replace Bl := heap_set2 Bl (.slice sr xr.length xr.length) (.bool br)
        generalize ((efw10.setCell ⟨pl, 0, none⟩ (.slice sr xr.length xr.length)).setCell ⟨pl, 1, none⟩ (.bool br)) = efw11 at *
        refine hKQ.out _ _ (by exact ⟨(box_cells Bg).1, (box_cells Bg).2.1, (box_cells Ba).1, (box_cells Ba).2.1, (box_cells Be).1, (box_cells Be).2.1, (box_cells Bb).1, (box_cells Bb).2.1⟩) (fun hHeld => ?_)
        clear hKQ KQ
        try simp only [Act.put, List.getElem_toArray, List.getElem_cons_zero, List.getElem_cons_succ, List.setIfInBounds_toArray, List.set_cons_zero, List.set_cons_succ]
        refine wpAnyH_take (i := 15) (v := ?_) rfl (by kernel_rfl) (by kernel_rfl) (by kernel_rfl) (fun _ _ _ h => h) (Or.inl ⟨by rfl, ?_⟩) (by assumption) ?_
        rotate_left
        · (intro w hSw; (try dsimp only at hSw); go_simp; (try with_reducible rfl))
        try simp only [Act.put, List.getElem_toArray, List.getElem_cons_zero, List.getElem_cons_succ, List.setIfInBounds_toArray, List.set_cons_zero, List.set_cons_succ]
        refine wpAnyH_done (by kernel_rfl) ?_ _
        go_wp2_with fail
        go_meet
        exact ⟨pk, rfl, ⟨_, _, Bk, iq⟩, ⟨_, _, Bg, ig⟩, ⟨_, _, Be, ie⟩, by omega, hT⟩)
      case rest =>
       clear hG hT ia ib ig ie Ba Bb Bu Bv Bt Bg Be
       obtain ⟨py, rfl, Kk, Kg, Ke, lk, hT⟩ := hcut
       have hG := grown_trans HG9.out hT
       have Ba := heap_kept hT Ha9.out
       have Bb := heap_kept hT Hb9.out
       have Bu := heap_kept hT Hu9.out
       have Bv := heap_kept hT Hv9.out
       have Bt := heap_kept hT Ht9.out
       obtain ⟨sg, xg, bg, Bg, ig⟩ := Kg.open
       obtain ⟨se, xe, be, Be, ie⟩ := Ke.open
       obtain ⟨sk, xk, bk, Bk, ik⟩ := Kk.open
       obtain ⟨Ca0, Ca1, Fa0, Fa1⟩ := box_cells Ba
       obtain ⟨Cb0, Cb1, Fb0, Fb1⟩ := box_cells Bb
       obtain ⟨Cu0, Cu1, Fu0, Fu1⟩ := box_cells Bu
       obtain ⟨Cv0, Cv1, Fv0, Fv1⟩ := box_cells Bv
       obtain ⟨Ct0, Ct1, Ft0, Ft1⟩ := box_cells Bt
       obtain ⟨Cg0, Cg1, Fg0, Fg1⟩ := box_cells Bg
       obtain ⟨Ce0, Ce1, Fe0, Fe1⟩ := box_cells Be
       obtain ⟨Ck0, Ck1, Fk0, Fk1⟩ := box_cells Bk
       go_wp2_with fail
       obtain ⟨W9, hW9⟩ : ∃ W9, W9 = ((((((wc.setCell ⟨w.heap.size + 1 + 1, 0, none⟩ (.slice sg xg.length xg.length)).setCell ⟨w.heap.size + 1 + 1, 1, none⟩ (.bool bg)).setCell ⟨w.heap.size + 1 + 1 + 1, 0, none⟩ (.slice se xe.length xe.length)).setCell ⟨w.heap.size + 1 + 1 + 1, 1, none⟩ (.bool be)).setCell ⟨w.heap.size + 1 + 1 + 1 + 1, 0, none⟩ (.slice sk xk.length xk.length)).setCell ⟨w.heap.size + 1 + 1 + 1 + 1, 1, none⟩ (.bool bk)).drew := ⟨_, rfl⟩
       obtain ⟨n1, n2, n3, n4, n5, n6, n7⟩ := lay_three hG (by omega) Bu Bv Bt ig ie ik hW9
       have HR : Hid (RetBez w x y (.returned (.tuple #[.agg #[.slice sg xg.length xg.length, .bool bg], .agg #[.slice se xe.length xe.length, .bool be], .agg #[.slice sk xk.length xk.length, .bool bk]])) W9) := ⟨X * sgn, Z9, _, _, _, rfl, by rw [← HG1.out]; exact n4, n5, n6, by show BGood _ _ _ _ _; rw [← HG1.out, ← HZ9.out, ← HSG.out]; exact HG2.out, n7⟩
       clear n4 n5 n6 n7 ig ie ik hG hT
       go_region
       rw [← hW9]
       clear hW9
       obtain ⟨m10, m11, m12, m13⟩ := box_cells n1
       obtain ⟨m20, m21, m22, m23⟩ := box_cells n2
       obtain ⟨m30, m31, m32, m33⟩ := box_cells n3
       go_wp2_with fail
       exact bodyPost_ret (v := .tuple #[.agg #[.slice sg xg.length xg.length, .bool bg], .agg #[.slice se xe.length xe.length, .bool be], .agg #[.slice sk xk.length xk.length, .bool bk]]) (by simp [results, Try.results41, go_sem, m10, m11, m20, m21, m30, m31]) rfl HR.out
end Go.Proofs.Ytljfhiikoimdiaa
