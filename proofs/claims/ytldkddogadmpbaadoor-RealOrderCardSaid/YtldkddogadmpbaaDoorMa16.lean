/- What the laws lean on, part 16. -/
import Derived.Deep.RegionHeld3
import Derived.Test.YtldkddogadmpbaaDoorMa15
namespace Go.Proofs.YtldkddogadmpbaaDoor
open Go.RowKit Mat
set_option maxRecDepth 100000
set_option linter.unusedVariables false
set_option linter.unusedSimpArgs false
theorem dn_bd {r : Rat} {K : Nat} (h : r.den < B ^ K) : (dn r).natAbs < B ^ K := by
  unfold dn
  split
  · exact Nat.pow_pos B_pos
  · rw [Int.natAbs_natCast]; exact h
theorem fmul_bd {x y : Int} {K L : Nat} (hx : x.natAbs < B ^ K) (hy : y.natAbs < B ^ L) : (x * y).natAbs < B ^ (K + L) := by
  rw [Int.natAbs_mul, Nat.pow_add]
  exact Nat.mul_lt_mul'' hx hy
def rcmp (a b : Rat) : Int := zcmp (a.num * (b.den : Int)) (b.num * (a.den : Int))
theorem rcmp_whole {a b : Rat} (ha : a.den = 1) (hb : b.den = 1) : zcmp a.num b.num = rcmp a b := by
  unfold rcmp; rw [ha, hb]; simp
theorem dn_neg (r : Rat) : dn (-r) = dn r := by unfold dn; rw [Rat.neg_den]
theorem dn_int (x : Int) : dn (x : Rat) = 0 := by unfold dn; rw [if_pos (Rat.den_intCast x)]
set_option maxHeartbeats 8000000 in
theorem FWhole_any (w : World) (va : Value) (r : Rat) (K : Nat) (Ha : RatV w va r) (hK : K ≤ 800000) (ld : r.den < B ^ K) :
    Calls Tryd.prog 32 #[va] w (RetB w (decide (r.den = 1))) := by
  have Hld := Lib.hid ld
  clear ld
  obtain ⟨n, hn⟩ : ∃ n, (dn r).sign = n := ⟨_, rfl⟩
  obtain ⟨p, hp⟩ : ∃ p, decide (r.den = 1) = p := ⟨_, rfl⟩
  have f1 : (n == 0) = p := by
    rw [← hn, ← hp]
    unfold dn
    by_cases h : r.den = 1
    · rw [if_pos h, decide_eq_true h]; rfl
    · rw [if_neg h, decide_eq_false h]
      refine beq_eq_false_iff_ne.2 ?_
      have := r.den_pos
      rw [Int.sign_eq_one_of_pos (by omega)]
      decide
  have HN := Lib.hid hn
  rw [hp]
  clear hn hp
  obtain ⟨sa, xa, ba, sa', xa', ba', rfl, ha, ha'⟩ := Ha
  have hG : w.grownBy (w.alloc (.cells #[.slice sa xa.length xa.length, .bool ba, .slice sa' xa'.length xa'.length, .bool ba'] 30)) none := (World.grownBy_alloc _ _ _)
  have Ba := (heap_new w (.cells #[.slice sa xa.length xa.length, .bool ba, .slice sa' xa'.length xa'.length, .bool ba'] 30) (w.heap.size) rfl)
  have qa : RatV (w.alloc (.cells #[.slice sa xa.length xa.length, .bool ba, .slice sa' xa'.length xa'.length, .bool ba'] 30)) (.agg #[.slice sa xa.length xa.length, .bool ba, .slice sa' xa'.length xa'.length, .bool ba']) (r) := ⟨sa, xa, ba, sa', xa', ba', rfl, ha.kept hG, ha'.kept hG⟩
  have ia : IntV (w.alloc (.cells #[.slice sa xa.length xa.length, .bool ba, .slice sa' xa'.length xa'.length, .bool ba'] 30)) (.agg #[.slice sa xa.length xa.length, .bool ba]) (r).num := ha.kept hG
  have ia' : IntV (w.alloc (.cells #[.slice sa xa.length xa.length, .bool ba, .slice sa' xa'.length xa'.length, .bool ba'] 30)) (.agg #[.slice sa' xa'.length xa'.length, .bool ba']) (dn (r)) := ha'.kept hG
  have oa : RatV w (.agg #[.slice sa xa.length xa.length, .bool ba, .slice sa' xa'.length xa'.length, .bool ba']) (r) := ⟨sa, xa, ba, sa', xa', ba', rfl, ha, ha'⟩
  clear ha ha'
  go_enter Tryd.func32, Tryd.ntmps32
  obtain ⟨Ca0, Ca1, Ca2, Ca3, Fa0, Fa1, Fa2, Fa3⟩ := box_cells4 Ba
  go_wp2_with fail
  generalize (w.alloc (.cells #[.slice sa xa.length xa.length, .bool ba, .slice sa' xa'.length xa'.length, .bool ba'] 30)) = w0 at *
  clear Ca0 Fa0 Ca1 Fa1 Ca2 Fa2 Ca3 Fa3
  refine (Sign_any w0 _ (dn r) K ia' (by omega) (dn_bd Hld.out)).mono ?_
  rintro e w1 ⟨rfl, gw1⟩
  rw [HN.out]
  replace Ba := heap_kept gw1 Ba
  replace qa := qa.kept gw1
  replace ia := ia.kept gw1
  replace ia' := ia'.kept gw1
  replace hG := grown_trans hG gw1
  clear gw1
  obtain ⟨Ca0, Ca1, Ca2, Ca3, Fa0, Fa1, Fa2, Fa3⟩ := box_cells4 Ba
  go_wp2_with fail
  go_ret
  exact ⟨rfl, hG⟩
set_option maxHeartbeats 8000000 in
theorem FSign_any (w : World) (va : Value) (r : Rat) (K : Nat) (Ha : RatV w va r) (hK : K ≤ 800000) (ln : r.num.natAbs < B ^ K) :
    Calls Tryd.prog 15 #[va] w (fun e w' => e = .returned (.int .i64 r.num.sign) ∧ w.grownBy w' none) := by
  have Hln := Lib.hid ln
  clear ln
  obtain ⟨sa, xa, ba, sa', xa', ba', rfl, ha, ha'⟩ := Ha
  have hG : w.grownBy (w.alloc (.cells #[.slice sa xa.length xa.length, .bool ba, .slice sa' xa'.length xa'.length, .bool ba'] 30)) none := (World.grownBy_alloc _ _ _)
  have Ba := (heap_new w (.cells #[.slice sa xa.length xa.length, .bool ba, .slice sa' xa'.length xa'.length, .bool ba'] 30) (w.heap.size) rfl)
  have qa : RatV (w.alloc (.cells #[.slice sa xa.length xa.length, .bool ba, .slice sa' xa'.length xa'.length, .bool ba'] 30)) (.agg #[.slice sa xa.length xa.length, .bool ba, .slice sa' xa'.length xa'.length, .bool ba']) (r) := ⟨sa, xa, ba, sa', xa', ba', rfl, ha.kept hG, ha'.kept hG⟩
  have ia : IntV (w.alloc (.cells #[.slice sa xa.length xa.length, .bool ba, .slice sa' xa'.length xa'.length, .bool ba'] 30)) (.agg #[.slice sa xa.length xa.length, .bool ba]) (r).num := ha.kept hG
  have ia' : IntV (w.alloc (.cells #[.slice sa xa.length xa.length, .bool ba, .slice sa' xa'.length xa'.length, .bool ba'] 30)) (.agg #[.slice sa' xa'.length xa'.length, .bool ba']) (dn (r)) := ha'.kept hG
  have oa : RatV w (.agg #[.slice sa xa.length xa.length, .bool ba, .slice sa' xa'.length xa'.length, .bool ba']) (r) := ⟨sa, xa, ba, sa', xa', ba', rfl, ha, ha'⟩
  clear ha ha'
  go_enter Tryd.func15, Tryd.ntmps15
  obtain ⟨Ca0, Ca1, Ca2, Ca3, Fa0, Fa1, Fa2, Fa3⟩ := box_cells4 Ba
  go_wp2_with fail
  generalize (w.alloc (.cells #[.slice sa xa.length xa.length, .bool ba, .slice sa' xa'.length xa'.length, .bool ba'] 30)) = w0 at *
  clear Ca0 Fa0 Ca1 Fa1 Ca2 Fa2 Ca3 Fa3
  refine (Sign_any w0 _ r.num K ia (by omega) Hln.out).mono ?_
  rintro e w1 ⟨rfl, gw1⟩
  replace Ba := heap_kept gw1 Ba
  replace qa := qa.kept gw1
  replace ia := ia.kept gw1
  replace ia' := ia'.kept gw1
  replace hG := grown_trans hG gw1
  clear gw1
  obtain ⟨Ca0, Ca1, Ca2, Ca3, Fa0, Fa1, Fa2, Fa3⟩ := box_cells4 Ba
  go_wp2_with fail
  go_ret
  exact ⟨rfl, hG⟩
set_option maxHeartbeats 8000000 in
theorem FNum_any (w : World) (va : Value) (r : Rat) (K : Nat) (Ha : RatV w va r) (hK : K ≤ 800000) (ln : r.num.natAbs < B ^ K) :
    Calls Tryd.prog 66 #[va] w (RetInt w r.num) := by
  have Hln := Lib.hid ln
  clear ln
  obtain ⟨sa, xa, ba, sa', xa', ba', rfl, ha, ha'⟩ := Ha
  have hG : w.grownBy ((w.alloc (.cells #[.slice sa xa.length xa.length, .bool ba, .slice sa' xa'.length xa'.length, .bool ba'] 30)).alloc (.cells #[.slice none 0 0, .bool false] 28)) none := (grown_alloc (World.grownBy_alloc _ _ _) _)
  have Ba := heap_kept (World.grownBy_alloc _ (.cells #[.slice none 0 0, .bool false] 28) none) (heap_new w (.cells #[.slice sa xa.length xa.length, .bool ba, .slice sa' xa'.length xa'.length, .bool ba'] 30) (w.heap.size) rfl)
  have Bq := (heap_new (w.alloc (.cells #[.slice sa xa.length xa.length, .bool ba, .slice sa' xa'.length xa'.length, .bool ba'] 30)) (.cells #[.slice none 0 0, .bool false] 28) (w.heap.size + 1) (by simp))
  have qa : RatV ((w.alloc (.cells #[.slice sa xa.length xa.length, .bool ba, .slice sa' xa'.length xa'.length, .bool ba'] 30)).alloc (.cells #[.slice none 0 0, .bool false] 28)) (.agg #[.slice sa xa.length xa.length, .bool ba, .slice sa' xa'.length xa'.length, .bool ba']) (r) := ⟨sa, xa, ba, sa', xa', ba', rfl, ha.kept hG, ha'.kept hG⟩
  have ia : IntV ((w.alloc (.cells #[.slice sa xa.length xa.length, .bool ba, .slice sa' xa'.length xa'.length, .bool ba'] 30)).alloc (.cells #[.slice none 0 0, .bool false] 28)) (.agg #[.slice sa xa.length xa.length, .bool ba]) (r).num := ha.kept hG
  have ia' : IntV ((w.alloc (.cells #[.slice sa xa.length xa.length, .bool ba, .slice sa' xa'.length xa'.length, .bool ba'] 30)).alloc (.cells #[.slice none 0 0, .bool false] 28)) (.agg #[.slice sa' xa'.length xa'.length, .bool ba']) (dn (r)) := ha'.kept hG
  have oa : RatV w (.agg #[.slice sa xa.length xa.length, .bool ba, .slice sa' xa'.length xa'.length, .bool ba']) (r) := ⟨sa, xa, ba, sa', xa', ba', rfl, ha, ha'⟩
  clear ha ha'
  go_enter Tryd.func66, Tryd.ntmps66
  obtain ⟨Ca0, Ca1, Ca2, Ca3, Fa0, Fa1, Fa2, Fa3⟩ := box_cells4 Ba
  obtain ⟨Cq0, Cq1, Fq0, Fq1⟩ := box_cells Bq
  go_wp2_with fail
  generalize ((w.alloc (.cells #[.slice sa xa.length xa.length, .bool ba, .slice sa' xa'.length xa'.length, .bool ba'] 30)).alloc (.cells #[.slice none 0 0, .bool false] 28)) = w0 at *
  clear Ca0 Fa0 Ca1 Fa1 Ca2 Fa2 Ca3 Fa3 Cq0 Fq0 Cq1 Fq1
  refine (FFresh_any w0 _ r.num K ia (by omega) Hln.out).mono ?_
  rintro e w1 ⟨_, rfl, ⟨sd, xd, bd, rfl, hd, vd, td⟩, gw1⟩
  have id : IntV w1 (.agg #[.slice sd xd.length xd.length, .bool bd]) (r.num) := ⟨sd, xd, bd, rfl, hd, vd, td⟩
  replace Ba := heap_kept gw1 Ba
  replace Bq := heap_kept gw1 Bq
  replace qa := qa.kept gw1
  replace ia := ia.kept gw1
  replace ia' := ia'.kept gw1
  replace hG := grown_trans hG gw1
  clear gw1
  clear hd vd td
  obtain ⟨Ca0, Ca1, Ca2, Ca3, Fa0, Fa1, Fa2, Fa3⟩ := box_cells4 Ba
  obtain ⟨Cq0, Cq1, Fq0, Fq1⟩ := box_cells Bq
  clear Ca0 Fa0 Ca1 Fa1 Ca2 Fa2 Ca3 Fa3 Cq0 Fq0 Cq1 Fq1
  obtain ⟨k90, k91, k92, k93⟩ := box_cells Bq
  obtain ⟨q90, q91, q92, q93⟩ := box_cells (heap_set2 Bq (.slice sd xd.length xd.length) (.bool bd))
  have hF : Hid (RetInt w (r.num) (.returned (.agg #[.slice sd xd.length xd.length, .bool bd])) ((w1.setCell ⟨w.heap.size + 1, 0, none⟩ (.slice sd xd.length xd.length)).setCell ⟨w.heap.size + 1, 1, none⟩ (.bool bd))) := ret_intv hG Bq (by omega) id
  clear qa ia ia' id
  go_wp2_with fail
  exact bodyPost_ret (v := .agg #[.slice sd xd.length xd.length, .bool bd]) (by simp [results, Tryd.results66, go_sem, q90, q91]) rfl hF.out
set_option maxHeartbeats 8000000 in
theorem FUnder_any (w : World) (va : Value) (r : Rat) (K : Nat) (Ha : RatV w va r) (hK : K ≤ 800000) (ld : r.den < B ^ K) :
    Calls Tryd.prog 43 #[va] w (RetInt w (r.den : Int)) := by
  have Hld := Lib.hid ld
  clear ld
  by_cases h1 : r.den = 1
  · skip
    have H1 := Lib.hid h1
    have hd : decide (r.den = 1) = true := decide_eq_true h1
    have HD := Lib.hid hd
    rw [show ((r.den : Nat) : Int) = 1 by rw [h1]; rfl]
    clear h1 hd
    obtain ⟨sa, xa, ba, sa', xa', ba', rfl, ha, ha'⟩ := Ha
    have hG : w.grownBy ((w.alloc (.cells #[.slice sa xa.length xa.length, .bool ba, .slice sa' xa'.length xa'.length, .bool ba'] 30)).alloc (.cells #[.slice none 0 0, .bool false] 28)) none := (grown_alloc (World.grownBy_alloc _ _ _) _)
    have Ba := heap_kept (World.grownBy_alloc _ (.cells #[.slice none 0 0, .bool false] 28) none) (heap_new w (.cells #[.slice sa xa.length xa.length, .bool ba, .slice sa' xa'.length xa'.length, .bool ba'] 30) (w.heap.size) rfl)
    have Bq := (heap_new (w.alloc (.cells #[.slice sa xa.length xa.length, .bool ba, .slice sa' xa'.length xa'.length, .bool ba'] 30)) (.cells #[.slice none 0 0, .bool false] 28) (w.heap.size + 1) (by simp))
    have qa : RatV ((w.alloc (.cells #[.slice sa xa.length xa.length, .bool ba, .slice sa' xa'.length xa'.length, .bool ba'] 30)).alloc (.cells #[.slice none 0 0, .bool false] 28)) (.agg #[.slice sa xa.length xa.length, .bool ba, .slice sa' xa'.length xa'.length, .bool ba']) (r) := ⟨sa, xa, ba, sa', xa', ba', rfl, ha.kept hG, ha'.kept hG⟩
    have ia : IntV ((w.alloc (.cells #[.slice sa xa.length xa.length, .bool ba, .slice sa' xa'.length xa'.length, .bool ba'] 30)).alloc (.cells #[.slice none 0 0, .bool false] 28)) (.agg #[.slice sa xa.length xa.length, .bool ba]) (r).num := ha.kept hG
    have ia' : IntV ((w.alloc (.cells #[.slice sa xa.length xa.length, .bool ba, .slice sa' xa'.length xa'.length, .bool ba'] 30)).alloc (.cells #[.slice none 0 0, .bool false] 28)) (.agg #[.slice sa' xa'.length xa'.length, .bool ba']) (dn (r)) := ha'.kept hG
    have oa : RatV w (.agg #[.slice sa xa.length xa.length, .bool ba, .slice sa' xa'.length xa'.length, .bool ba']) (r) := ⟨sa, xa, ba, sa', xa', ba', rfl, ha, ha'⟩
    clear ha ha'
    go_enter Tryd.func43, Tryd.ntmps43
    obtain ⟨Ca0, Ca1, Ca2, Ca3, Fa0, Fa1, Fa2, Fa3⟩ := box_cells4 Ba
    obtain ⟨Cq0, Cq1, Fq0, Fq1⟩ := box_cells Bq
    go_wp2_with fail
    generalize ((w.alloc (.cells #[.slice sa xa.length xa.length, .bool ba, .slice sa' xa'.length xa'.length, .bool ba'] 30)).alloc (.cells #[.slice none 0 0, .bool false] 28)) = w0 at *
    clear Ca0 Fa0 Ca1 Fa1 Ca2 Fa2 Ca3 Fa3 Cq0 Fq0 Cq1 Fq1
    refine (FWhole_any w0 _ r K qa (by omega) Hld.out).mono ?_
    rintro e u1w1 ⟨rfl, gu1w1⟩
    rw [HD.out]
    replace Ba := heap_kept gu1w1 Ba
    replace Bq := heap_kept gu1w1 Bq
    replace qa := qa.kept gu1w1
    replace ia := ia.kept gu1w1
    replace ia' := ia'.kept gu1w1
    replace hG := grown_trans hG gu1w1
    clear gu1w1
    obtain ⟨Ca0, Ca1, Ca2, Ca3, Fa0, Fa1, Fa2, Fa3⟩ := box_cells4 Ba
    obtain ⟨Cq0, Cq1, Fq0, Fq1⟩ := box_cells Bq
    go_wp2_with fail
    clear Ca0 Fa0 Ca1 Fa1 Ca2 Fa2 Ca3 Fa3 Cq0 Fq0 Cq1 Fq1
    refine (ZOf_any u1w1 1 (by omega) (by omega)).mono ?_
    rintro e u1w2 ⟨_, rfl, ⟨sd, xd, bd, rfl, hd, vd, td⟩, gu1w2⟩
    have id : IntV u1w2 (.agg #[.slice sd xd.length xd.length, .bool bd]) (1) := ⟨sd, xd, bd, rfl, hd, vd, td⟩
    replace Ba := heap_kept gu1w2 Ba
    replace Bq := heap_kept gu1w2 Bq
    replace qa := qa.kept gu1w2
    replace ia := ia.kept gu1w2
    replace ia' := ia'.kept gu1w2
    replace hG := grown_trans hG gu1w2
    clear gu1w2
    clear hd vd td
    obtain ⟨Ca0, Ca1, Ca2, Ca3, Fa0, Fa1, Fa2, Fa3⟩ := box_cells4 Ba
    obtain ⟨Cq0, Cq1, Fq0, Fq1⟩ := box_cells Bq
    clear Ca0 Fa0 Ca1 Fa1 Ca2 Fa2 Ca3 Fa3 Cq0 Fq0 Cq1 Fq1
    obtain ⟨k90, k91, k92, k93⟩ := box_cells Bq
    obtain ⟨q90, q91, q92, q93⟩ := box_cells (heap_set2 Bq (.slice sd xd.length xd.length) (.bool bd))
    have hF : Hid (RetInt w (1) (.returned (.agg #[.slice sd xd.length xd.length, .bool bd])) ((u1w2.setCell ⟨w.heap.size + 1, 0, none⟩ (.slice sd xd.length xd.length)).setCell ⟨w.heap.size + 1, 1, none⟩ (.bool bd))) := ret_intv hG Bq (by omega) id
    clear qa ia ia' id
    go_wp2_with fail
    exact bodyPost_ret (v := .agg #[.slice sd xd.length xd.length, .bool bd]) (by simp [results, Tryd.results43, go_sem, q90, q91]) rfl hF.out
  · skip
    have H1 := Lib.hid h1
    have hd : decide (r.den = 1) = false := decide_eq_false h1
    have HD := Lib.hid hd
    clear h1 hd
    obtain ⟨sa, xa, ba, sa', xa', ba', rfl, ha, ha'⟩ := Ha
    have hG : w.grownBy ((w.alloc (.cells #[.slice sa xa.length xa.length, .bool ba, .slice sa' xa'.length xa'.length, .bool ba'] 30)).alloc (.cells #[.slice none 0 0, .bool false] 28)) none := (grown_alloc (World.grownBy_alloc _ _ _) _)
    have Ba := heap_kept (World.grownBy_alloc _ (.cells #[.slice none 0 0, .bool false] 28) none) (heap_new w (.cells #[.slice sa xa.length xa.length, .bool ba, .slice sa' xa'.length xa'.length, .bool ba'] 30) (w.heap.size) rfl)
    have Bq := (heap_new (w.alloc (.cells #[.slice sa xa.length xa.length, .bool ba, .slice sa' xa'.length xa'.length, .bool ba'] 30)) (.cells #[.slice none 0 0, .bool false] 28) (w.heap.size + 1) (by simp))
    have qa : RatV ((w.alloc (.cells #[.slice sa xa.length xa.length, .bool ba, .slice sa' xa'.length xa'.length, .bool ba'] 30)).alloc (.cells #[.slice none 0 0, .bool false] 28)) (.agg #[.slice sa xa.length xa.length, .bool ba, .slice sa' xa'.length xa'.length, .bool ba']) (r) := ⟨sa, xa, ba, sa', xa', ba', rfl, ha.kept hG, ha'.kept hG⟩
    have ia : IntV ((w.alloc (.cells #[.slice sa xa.length xa.length, .bool ba, .slice sa' xa'.length xa'.length, .bool ba'] 30)).alloc (.cells #[.slice none 0 0, .bool false] 28)) (.agg #[.slice sa xa.length xa.length, .bool ba]) (r).num := ha.kept hG
    have ia' : IntV ((w.alloc (.cells #[.slice sa xa.length xa.length, .bool ba, .slice sa' xa'.length xa'.length, .bool ba'] 30)).alloc (.cells #[.slice none 0 0, .bool false] 28)) (.agg #[.slice sa' xa'.length xa'.length, .bool ba']) (dn (r)) := ha'.kept hG
    have oa : RatV w (.agg #[.slice sa xa.length xa.length, .bool ba, .slice sa' xa'.length xa'.length, .bool ba']) (r) := ⟨sa, xa, ba, sa', xa', ba', rfl, ha, ha'⟩
    clear ha ha'
    go_enter Tryd.func43, Tryd.ntmps43
    obtain ⟨Ca0, Ca1, Ca2, Ca3, Fa0, Fa1, Fa2, Fa3⟩ := box_cells4 Ba
    obtain ⟨Cq0, Cq1, Fq0, Fq1⟩ := box_cells Bq
    go_wp2_with fail
    generalize ((w.alloc (.cells #[.slice sa xa.length xa.length, .bool ba, .slice sa' xa'.length xa'.length, .bool ba'] 30)).alloc (.cells #[.slice none 0 0, .bool false] 28)) = w0 at *
    clear Ca0 Fa0 Ca1 Fa1 Ca2 Fa2 Ca3 Fa3 Cq0 Fq0 Cq1 Fq1
    refine (FWhole_any w0 _ r K qa (by omega) Hld.out).mono ?_
    rintro e u0w1 ⟨rfl, gu0w1⟩
    rw [HD.out]
    replace Ba := heap_kept gu0w1 Ba
    replace Bq := heap_kept gu0w1 Bq
    replace qa := qa.kept gu0w1
    replace ia := ia.kept gu0w1
    replace ia' := ia'.kept gu0w1
    replace hG := grown_trans hG gu0w1
    clear gu0w1
    obtain ⟨Ca0, Ca1, Ca2, Ca3, Fa0, Fa1, Fa2, Fa3⟩ := box_cells4 Ba
    obtain ⟨Cq0, Cq1, Fq0, Fq1⟩ := box_cells Bq
    have iu : IntV u0w1 (.agg #[.slice sa' xa'.length xa'.length, .bool ba']) (r.den : Int) := by have h := ia'; unfold dn at h; rw [if_neg H1.out] at h; exact h
    clear Ca0 Fa0 Ca1 Fa1 Ca2 Fa2 Ca3 Fa3 Cq0 Fq0 Cq1 Fq1
    obtain ⟨k90, k91, k92, k93⟩ := box_cells Bq
    obtain ⟨q90, q91, q92, q93⟩ := box_cells (heap_set2 Bq (.slice sa' xa'.length xa'.length) (.bool ba'))
    have hF : Hid (RetInt w ((r.den : Int)) (.returned (.agg #[.slice sa' xa'.length xa'.length, .bool ba'])) ((u0w1.setCell ⟨w.heap.size + 1, 0, none⟩ (.slice sa' xa'.length xa'.length)).setCell ⟨w.heap.size + 1, 1, none⟩ (.bool ba'))) := ret_intv hG Bq (by omega) iu
    clear qa ia ia' iu
    obtain ⟨Ca0, Ca1, Ca2, Ca3, Fa0, Fa1, Fa2, Fa3⟩ := box_cells4 Ba
    go_wp2_with fail
    exact bodyPost_ret (v := .agg #[.slice sa' xa'.length xa'.length, .bool ba']) (by simp [results, Tryd.results43, go_sem, q90, q91]) rfl hF.out
set_option maxHeartbeats 8000000 in
theorem FDen_any (w : World) (va : Value) (r : Rat) (K : Nat) (Ha : RatV w va r) (hK : K ≤ 800000) (ld : r.den < B ^ K) :
    Calls Tryd.prog 62 #[va] w (RetInt w (r.den : Int)) := by
  have Hld := Lib.hid ld
  clear ld
  obtain ⟨sa, xa, ba, sa', xa', ba', rfl, ha, ha'⟩ := Ha
  have hG : w.grownBy ((w.alloc (.cells #[.slice sa xa.length xa.length, .bool ba, .slice sa' xa'.length xa'.length, .bool ba'] 30)).alloc (.cells #[.slice none 0 0, .bool false] 28)) none := (grown_alloc (World.grownBy_alloc _ _ _) _)
  have Ba := heap_kept (World.grownBy_alloc _ (.cells #[.slice none 0 0, .bool false] 28) none) (heap_new w (.cells #[.slice sa xa.length xa.length, .bool ba, .slice sa' xa'.length xa'.length, .bool ba'] 30) (w.heap.size) rfl)
  have Bq := (heap_new (w.alloc (.cells #[.slice sa xa.length xa.length, .bool ba, .slice sa' xa'.length xa'.length, .bool ba'] 30)) (.cells #[.slice none 0 0, .bool false] 28) (w.heap.size + 1) (by simp))
  have qa : RatV ((w.alloc (.cells #[.slice sa xa.length xa.length, .bool ba, .slice sa' xa'.length xa'.length, .bool ba'] 30)).alloc (.cells #[.slice none 0 0, .bool false] 28)) (.agg #[.slice sa xa.length xa.length, .bool ba, .slice sa' xa'.length xa'.length, .bool ba']) (r) := ⟨sa, xa, ba, sa', xa', ba', rfl, ha.kept hG, ha'.kept hG⟩
  have oa : RatV w (.agg #[.slice sa xa.length xa.length, .bool ba, .slice sa' xa'.length xa'.length, .bool ba']) (r) := ⟨sa, xa, ba, sa', xa', ba', rfl, ha, ha'⟩
  clear ha ha'
  go_enter Tryd.func62, Tryd.ntmps62
  obtain ⟨Ca0, Ca1, Ca2, Ca3, Fa0, Fa1, Fa2, Fa3⟩ := box_cells4 Ba
  obtain ⟨Cq0, Cq1, Fq0, Fq1⟩ := box_cells Bq
  go_wp2_with fail
  generalize ((w.alloc (.cells #[.slice sa xa.length xa.length, .bool ba, .slice sa' xa'.length xa'.length, .bool ba'] 30)).alloc (.cells #[.slice none 0 0, .bool false] 28)) = w0 at *
  clear Ca0 Fa0 Ca1 Fa1 Ca2 Fa2 Ca3 Fa3 Cq0 Fq0 Cq1 Fq1
  refine (FUnder_any w0 _ r K qa (by omega) Hld.out).mono ?_
  rintro e w1 ⟨_, rfl, ⟨su, xu, bu, rfl, hu, vu, tu⟩, gw1⟩
  have iu : IntV w1 (.agg #[.slice su xu.length xu.length, .bool bu]) ((r.den : Int)) := ⟨su, xu, bu, rfl, hu, vu, tu⟩
  replace Ba := heap_kept gw1 Ba
  replace Bq := heap_kept gw1 Bq
  replace qa := qa.kept gw1
  replace hG := grown_trans hG gw1
  clear gw1
  clear hu vu tu
  obtain ⟨Ca0, Ca1, Ca2, Ca3, Fa0, Fa1, Fa2, Fa3⟩ := box_cells4 Ba
  obtain ⟨Cq0, Cq1, Fq0, Fq1⟩ := box_cells Bq
  go_wp2_with fail
  clear Ca0 Fa0 Ca1 Fa1 Ca2 Fa2 Ca3 Fa3 Cq0 Fq0 Cq1 Fq1
  refine (FFresh_any w1 _ (r.den : Int) K iu (by omega) (by rw [Int.natAbs_natCast]; exact Hld.out)).mono ?_
  rintro e w2 ⟨_, rfl, ⟨sd, xd, bd, rfl, hd, vd, td⟩, gw2⟩
  have id : IntV w2 (.agg #[.slice sd xd.length xd.length, .bool bd]) ((r.den : Int)) := ⟨sd, xd, bd, rfl, hd, vd, td⟩
  replace Ba := heap_kept gw2 Ba
  replace Bq := heap_kept gw2 Bq
  replace qa := qa.kept gw2
  replace iu := iu.kept gw2
  replace hG := grown_trans hG gw2
  clear gw2
  clear hd vd td
  obtain ⟨Ca0, Ca1, Ca2, Ca3, Fa0, Fa1, Fa2, Fa3⟩ := box_cells4 Ba
  obtain ⟨Cq0, Cq1, Fq0, Fq1⟩ := box_cells Bq
  clear Ca0 Fa0 Ca1 Fa1 Ca2 Fa2 Ca3 Fa3 Cq0 Fq0 Cq1 Fq1
  obtain ⟨k90, k91, k92, k93⟩ := box_cells Bq
  obtain ⟨q90, q91, q92, q93⟩ := box_cells (heap_set2 Bq (.slice sd xd.length xd.length) (.bool bd))
  have hF : Hid (RetInt w ((r.den : Int)) (.returned (.agg #[.slice sd xd.length xd.length, .bool bd])) ((w2.setCell ⟨w.heap.size + 1, 0, none⟩ (.slice sd xd.length xd.length)).setCell ⟨w.heap.size + 1, 1, none⟩ (.bool bd))) := ret_intv hG Bq (by omega) id
  clear qa iu id
  go_wp2_with fail
  exact bodyPost_ret (v := .agg #[.slice sd xd.length xd.length, .bool bd]) (by simp [results, Tryd.results62, go_sem, q90, q91]) rfl hF.out
set_option maxHeartbeats 8000000 in
theorem FCmp_any (w : World) (va vb : Value) (r t : Rat) (K : Nat) (Ha : RatV w va r) (Hb : RatV w vb t) (hK : K ≤ 400000) (ln : r.num.natAbs < B ^ K) (ld : r.den < B ^ K) (mn : t.num.natAbs < B ^ K) (md : t.den < B ^ K) :
    Calls Tryd.prog 16 #[va, vb] w (fun e w' => e = .returned (.int .i64 (rcmp r t)) ∧ w.grownBy w' none) := by
  have Hln := Lib.hid ln
  have Hld := Lib.hid ld
  have Hmn := Lib.hid mn
  have Hmd := Lib.hid md
  clear ln ld mn md
  have hg : (decide (r.den = 1) = true ∧ decide (t.den = 1) = true) ∨ (decide (r.den = 1) = true ∧ decide (t.den = 1) = false) ∨ decide (r.den = 1) = false := by
    by_cases h1 : r.den = 1
    · by_cases h2 : t.den = 1
      · left; exact ⟨decide_eq_true h1, decide_eq_true h2⟩
      · right; left; exact ⟨decide_eq_true h1, decide_eq_false h2⟩
    · right; right; exact decide_eq_false h1
  obtain ⟨o1, ho1⟩ : ∃ o, decide (r.den = 1) = o := ⟨_, rfl⟩
  obtain ⟨o2, ho2⟩ : ∃ o, decide (t.den = 1) = o := ⟨_, rfl⟩
  rw [ho1, ho2] at hg
  have HO1 := Lib.hid ho1
  have HO2 := Lib.hid ho2
  clear ho1 ho2
  rcases hg with ⟨rfl, rfl⟩ | ⟨rfl, rfl⟩ | rfl
  · skip
    rw [← rcmp_whole (of_decide_eq_true HO1.out) (of_decide_eq_true HO2.out)]
    obtain ⟨sa, xa, ba, sa', xa', ba', rfl, ha, ha'⟩ := Ha
    obtain ⟨sb, xb, bb, sb', xb', bb', rfl, hb, hb'⟩ := Hb
    have hG : w.grownBy ((w.alloc (.cells #[.slice sa xa.length xa.length, .bool ba, .slice sa' xa'.length xa'.length, .bool ba'] 30)).alloc (.cells #[.slice sb xb.length xb.length, .bool bb, .slice sb' xb'.length xb'.length, .bool bb'] 30)) none := (grown_alloc (World.grownBy_alloc _ _ _) _)
    have Ba := heap_kept (World.grownBy_alloc _ (.cells #[.slice sb xb.length xb.length, .bool bb, .slice sb' xb'.length xb'.length, .bool bb'] 30) none) (heap_new w (.cells #[.slice sa xa.length xa.length, .bool ba, .slice sa' xa'.length xa'.length, .bool ba'] 30) (w.heap.size) rfl)
    have Bb := (heap_new (w.alloc (.cells #[.slice sa xa.length xa.length, .bool ba, .slice sa' xa'.length xa'.length, .bool ba'] 30)) (.cells #[.slice sb xb.length xb.length, .bool bb, .slice sb' xb'.length xb'.length, .bool bb'] 30) (w.heap.size + 1) (by simp))
    have qa : RatV ((w.alloc (.cells #[.slice sa xa.length xa.length, .bool ba, .slice sa' xa'.length xa'.length, .bool ba'] 30)).alloc (.cells #[.slice sb xb.length xb.length, .bool bb, .slice sb' xb'.length xb'.length, .bool bb'] 30)) (.agg #[.slice sa xa.length xa.length, .bool ba, .slice sa' xa'.length xa'.length, .bool ba']) (r) := ⟨sa, xa, ba, sa', xa', ba', rfl, ha.kept hG, ha'.kept hG⟩
    have ia : IntV ((w.alloc (.cells #[.slice sa xa.length xa.length, .bool ba, .slice sa' xa'.length xa'.length, .bool ba'] 30)).alloc (.cells #[.slice sb xb.length xb.length, .bool bb, .slice sb' xb'.length xb'.length, .bool bb'] 30)) (.agg #[.slice sa xa.length xa.length, .bool ba]) (r).num := ha.kept hG
    have ia' : IntV ((w.alloc (.cells #[.slice sa xa.length xa.length, .bool ba, .slice sa' xa'.length xa'.length, .bool ba'] 30)).alloc (.cells #[.slice sb xb.length xb.length, .bool bb, .slice sb' xb'.length xb'.length, .bool bb'] 30)) (.agg #[.slice sa' xa'.length xa'.length, .bool ba']) (dn (r)) := ha'.kept hG
    have qb : RatV ((w.alloc (.cells #[.slice sa xa.length xa.length, .bool ba, .slice sa' xa'.length xa'.length, .bool ba'] 30)).alloc (.cells #[.slice sb xb.length xb.length, .bool bb, .slice sb' xb'.length xb'.length, .bool bb'] 30)) (.agg #[.slice sb xb.length xb.length, .bool bb, .slice sb' xb'.length xb'.length, .bool bb']) (t) := ⟨sb, xb, bb, sb', xb', bb', rfl, hb.kept hG, hb'.kept hG⟩
    have ib : IntV ((w.alloc (.cells #[.slice sa xa.length xa.length, .bool ba, .slice sa' xa'.length xa'.length, .bool ba'] 30)).alloc (.cells #[.slice sb xb.length xb.length, .bool bb, .slice sb' xb'.length xb'.length, .bool bb'] 30)) (.agg #[.slice sb xb.length xb.length, .bool bb]) (t).num := hb.kept hG
    have ib' : IntV ((w.alloc (.cells #[.slice sa xa.length xa.length, .bool ba, .slice sa' xa'.length xa'.length, .bool ba'] 30)).alloc (.cells #[.slice sb xb.length xb.length, .bool bb, .slice sb' xb'.length xb'.length, .bool bb'] 30)) (.agg #[.slice sb' xb'.length xb'.length, .bool bb']) (dn (t)) := hb'.kept hG
    have oa : RatV w (.agg #[.slice sa xa.length xa.length, .bool ba, .slice sa' xa'.length xa'.length, .bool ba']) (r) := ⟨sa, xa, ba, sa', xa', ba', rfl, ha, ha'⟩
    clear ha ha'
    have ob : RatV w (.agg #[.slice sb xb.length xb.length, .bool bb, .slice sb' xb'.length xb'.length, .bool bb']) (t) := ⟨sb, xb, bb, sb', xb', bb', rfl, hb, hb'⟩
    clear hb hb'
    go_enter Tryd.func16, Tryd.ntmps16
    obtain ⟨Ca0, Ca1, Ca2, Ca3, Fa0, Fa1, Fa2, Fa3⟩ := box_cells4 Ba
    obtain ⟨Cb0, Cb1, Cb2, Cb3, Fb0, Fb1, Fb2, Fb3⟩ := box_cells4 Bb
    go_wp2_with fail
    generalize ((w.alloc (.cells #[.slice sa xa.length xa.length, .bool ba, .slice sa' xa'.length xa'.length, .bool ba'] 30)).alloc (.cells #[.slice sb xb.length xb.length, .bool bb, .slice sb' xb'.length xb'.length, .bool bb'] 30)) = w0 at *
    clear Ca0 Fa0 Ca1 Fa1 Ca2 Fa2 Ca3 Fa3 Cb0 Fb0 Cb1 Fb1 Cb2 Fb2 Cb3 Fb3
    refine (FWhole_any w0 _ r K qa (by omega) Hld.out).mono ?_
    rintro e c0w1 ⟨rfl, gc0w1⟩
    rw [HO1.out]
    replace Ba := heap_kept gc0w1 Ba
    replace Bb := heap_kept gc0w1 Bb
    replace qa := qa.kept gc0w1
    replace ia := ia.kept gc0w1
    replace ia' := ia'.kept gc0w1
    replace qb := qb.kept gc0w1
    replace ib := ib.kept gc0w1
    replace ib' := ib'.kept gc0w1
    replace hG := grown_trans hG gc0w1
    clear gc0w1
    obtain ⟨Ca0, Ca1, Ca2, Ca3, Fa0, Fa1, Fa2, Fa3⟩ := box_cells4 Ba
    obtain ⟨Cb0, Cb1, Cb2, Cb3, Fb0, Fb1, Fb2, Fb3⟩ := box_cells4 Bb
    go_wp2_with fail
    clear Ca0 Fa0 Ca1 Fa1 Ca2 Fa2 Ca3 Fa3 Cb0 Fb0 Cb1 Fb1 Cb2 Fb2 Cb3 Fb3
    refine (FWhole_any c0w1 _ t K qb (by omega) Hmd.out).mono ?_
    rintro e c0w2 ⟨rfl, gc0w2⟩
    rw [HO2.out]
    replace Ba := heap_kept gc0w2 Ba
    replace Bb := heap_kept gc0w2 Bb
    replace qa := qa.kept gc0w2
    replace ia := ia.kept gc0w2
    replace ia' := ia'.kept gc0w2
    replace qb := qb.kept gc0w2
    replace ib := ib.kept gc0w2
    replace ib' := ib'.kept gc0w2
    replace hG := grown_trans hG gc0w2
    clear gc0w2
    obtain ⟨Ca0, Ca1, Ca2, Ca3, Fa0, Fa1, Fa2, Fa3⟩ := box_cells4 Ba
    obtain ⟨Cb0, Cb1, Cb2, Cb3, Fb0, Fb1, Fb2, Fb3⟩ := box_cells4 Bb
    go_wp2_with fail
    clear Ca0 Fa0 Ca1 Fa1 Ca2 Fa2 Ca3 Fa3 Cb0 Fb0 Cb1 Fb1 Cb2 Fb2 Cb3 Fb3
    refine (ZCmp_any c0w2 _ _ r.num t.num K ia ib (by omega) Hln.out Hmn.out).mono ?_
    rintro e c0w3 ⟨rfl, gc0w3⟩
    replace Ba := heap_kept gc0w3 Ba
    replace Bb := heap_kept gc0w3 Bb
    replace qa := qa.kept gc0w3
    replace ia := ia.kept gc0w3
    replace ia' := ia'.kept gc0w3
    replace qb := qb.kept gc0w3
    replace ib := ib.kept gc0w3
    replace ib' := ib'.kept gc0w3
    replace hG := grown_trans hG gc0w3
    clear gc0w3
    obtain ⟨Ca0, Ca1, Ca2, Ca3, Fa0, Fa1, Fa2, Fa3⟩ := box_cells4 Ba
    obtain ⟨Cb0, Cb1, Cb2, Cb3, Fb0, Fb1, Fb2, Fb3⟩ := box_cells4 Bb
    go_wp2_with fail
    go_ret
    exact ⟨rfl, hG⟩
  · skip
    obtain ⟨sa, xa, ba, sa', xa', ba', rfl, ha, ha'⟩ := Ha
    obtain ⟨sb, xb, bb, sb', xb', bb', rfl, hb, hb'⟩ := Hb
    have hG : w.grownBy ((w.alloc (.cells #[.slice sa xa.length xa.length, .bool ba, .slice sa' xa'.length xa'.length, .bool ba'] 30)).alloc (.cells #[.slice sb xb.length xb.length, .bool bb, .slice sb' xb'.length xb'.length, .bool bb'] 30)) none := (grown_alloc (World.grownBy_alloc _ _ _) _)
    have Ba := heap_kept (World.grownBy_alloc _ (.cells #[.slice sb xb.length xb.length, .bool bb, .slice sb' xb'.length xb'.length, .bool bb'] 30) none) (heap_new w (.cells #[.slice sa xa.length xa.length, .bool ba, .slice sa' xa'.length xa'.length, .bool ba'] 30) (w.heap.size) rfl)
    have Bb := (heap_new (w.alloc (.cells #[.slice sa xa.length xa.length, .bool ba, .slice sa' xa'.length xa'.length, .bool ba'] 30)) (.cells #[.slice sb xb.length xb.length, .bool bb, .slice sb' xb'.length xb'.length, .bool bb'] 30) (w.heap.size + 1) (by simp))
    have qa : RatV ((w.alloc (.cells #[.slice sa xa.length xa.length, .bool ba, .slice sa' xa'.length xa'.length, .bool ba'] 30)).alloc (.cells #[.slice sb xb.length xb.length, .bool bb, .slice sb' xb'.length xb'.length, .bool bb'] 30)) (.agg #[.slice sa xa.length xa.length, .bool ba, .slice sa' xa'.length xa'.length, .bool ba']) (r) := ⟨sa, xa, ba, sa', xa', ba', rfl, ha.kept hG, ha'.kept hG⟩
    have ia : IntV ((w.alloc (.cells #[.slice sa xa.length xa.length, .bool ba, .slice sa' xa'.length xa'.length, .bool ba'] 30)).alloc (.cells #[.slice sb xb.length xb.length, .bool bb, .slice sb' xb'.length xb'.length, .bool bb'] 30)) (.agg #[.slice sa xa.length xa.length, .bool ba]) (r).num := ha.kept hG
    have ia' : IntV ((w.alloc (.cells #[.slice sa xa.length xa.length, .bool ba, .slice sa' xa'.length xa'.length, .bool ba'] 30)).alloc (.cells #[.slice sb xb.length xb.length, .bool bb, .slice sb' xb'.length xb'.length, .bool bb'] 30)) (.agg #[.slice sa' xa'.length xa'.length, .bool ba']) (dn (r)) := ha'.kept hG
    have qb : RatV ((w.alloc (.cells #[.slice sa xa.length xa.length, .bool ba, .slice sa' xa'.length xa'.length, .bool ba'] 30)).alloc (.cells #[.slice sb xb.length xb.length, .bool bb, .slice sb' xb'.length xb'.length, .bool bb'] 30)) (.agg #[.slice sb xb.length xb.length, .bool bb, .slice sb' xb'.length xb'.length, .bool bb']) (t) := ⟨sb, xb, bb, sb', xb', bb', rfl, hb.kept hG, hb'.kept hG⟩
    have ib : IntV ((w.alloc (.cells #[.slice sa xa.length xa.length, .bool ba, .slice sa' xa'.length xa'.length, .bool ba'] 30)).alloc (.cells #[.slice sb xb.length xb.length, .bool bb, .slice sb' xb'.length xb'.length, .bool bb'] 30)) (.agg #[.slice sb xb.length xb.length, .bool bb]) (t).num := hb.kept hG
    have ib' : IntV ((w.alloc (.cells #[.slice sa xa.length xa.length, .bool ba, .slice sa' xa'.length xa'.length, .bool ba'] 30)).alloc (.cells #[.slice sb xb.length xb.length, .bool bb, .slice sb' xb'.length xb'.length, .bool bb'] 30)) (.agg #[.slice sb' xb'.length xb'.length, .bool bb']) (dn (t)) := hb'.kept hG
    have oa : RatV w (.agg #[.slice sa xa.length xa.length, .bool ba, .slice sa' xa'.length xa'.length, .bool ba']) (r) := ⟨sa, xa, ba, sa', xa', ba', rfl, ha, ha'⟩
    clear ha ha'
    have ob : RatV w (.agg #[.slice sb xb.length xb.length, .bool bb, .slice sb' xb'.length xb'.length, .bool bb']) (t) := ⟨sb, xb, bb, sb', xb', bb', rfl, hb, hb'⟩
    clear hb hb'
    go_enter Tryd.func16, Tryd.ntmps16
    obtain ⟨Ca0, Ca1, Ca2, Ca3, Fa0, Fa1, Fa2, Fa3⟩ := box_cells4 Ba
    obtain ⟨Cb0, Cb1, Cb2, Cb3, Fb0, Fb1, Fb2, Fb3⟩ := box_cells4 Bb
    go_wp2_with fail
    generalize ((w.alloc (.cells #[.slice sa xa.length xa.length, .bool ba, .slice sa' xa'.length xa'.length, .bool ba'] 30)).alloc (.cells #[.slice sb xb.length xb.length, .bool bb, .slice sb' xb'.length xb'.length, .bool bb'] 30)) = w0 at *
    clear Ca0 Fa0 Ca1 Fa1 Ca2 Fa2 Ca3 Fa3 Cb0 Fb0 Cb1 Fb1 Cb2 Fb2 Cb3 Fb3
    refine (FWhole_any w0 _ r K qa (by omega) Hld.out).mono ?_
    rintro e c1w1 ⟨rfl, gc1w1⟩
    rw [HO1.out]
    replace Ba := heap_kept gc1w1 Ba
    replace Bb := heap_kept gc1w1 Bb
    replace qa := qa.kept gc1w1
    replace ia := ia.kept gc1w1
    replace ia' := ia'.kept gc1w1
    replace qb := qb.kept gc1w1
    replace ib := ib.kept gc1w1
    replace ib' := ib'.kept gc1w1
    replace hG := grown_trans hG gc1w1
    clear gc1w1
    obtain ⟨Ca0, Ca1, Ca2, Ca3, Fa0, Fa1, Fa2, Fa3⟩ := box_cells4 Ba
    obtain ⟨Cb0, Cb1, Cb2, Cb3, Fb0, Fb1, Fb2, Fb3⟩ := box_cells4 Bb
    go_wp2_with fail
    clear Ca0 Fa0 Ca1 Fa1 Ca2 Fa2 Ca3 Fa3 Cb0 Fb0 Cb1 Fb1 Cb2 Fb2 Cb3 Fb3
    refine (FWhole_any c1w1 _ t K qb (by omega) Hmd.out).mono ?_
    rintro e c1w2 ⟨rfl, gc1w2⟩
    rw [HO2.out]
    replace Ba := heap_kept gc1w2 Ba
    replace Bb := heap_kept gc1w2 Bb
    replace qa := qa.kept gc1w2
    replace ia := ia.kept gc1w2
    replace ia' := ia'.kept gc1w2
    replace qb := qb.kept gc1w2
    replace ib := ib.kept gc1w2
    replace ib' := ib'.kept gc1w2
    replace hG := grown_trans hG gc1w2
    clear gc1w2
    obtain ⟨Ca0, Ca1, Ca2, Ca3, Fa0, Fa1, Fa2, Fa3⟩ := box_cells4 Ba
    obtain ⟨Cb0, Cb1, Cb2, Cb3, Fb0, Fb1, Fb2, Fb3⟩ := box_cells4 Bb
    go_wp2_with fail
    have HRD : Hid ((r.den : Int).natAbs < B ^ K) := by show _ < _; rw [Int.natAbs_natCast]; exact Hld.out
    have HTD : Hid ((t.den : Int).natAbs < B ^ K) := by show _ < _; rw [Int.natAbs_natCast]; exact Hmd.out
    go_region_held3 (fun w' => w'.cell? ⟨w.heap.size, 0, none⟩ = some (.slice sa xa.length xa.length) ∧ w'.cell? ⟨w.heap.size, 1, none⟩ = some (.bool ba) ∧ w'.cell? ⟨w.heap.size, 2, none⟩ = some (.slice sa' xa'.length xa'.length) ∧ w'.cell? ⟨w.heap.size, 3, none⟩ = some (.bool ba') ∧ w'.cell? ⟨w.heap.size + 1, 0, none⟩ = some (.slice sb xb.length xb.length) ∧ w'.cell? ⟨w.heap.size + 1, 1, none⟩ = some (.bool bb) ∧ w'.cell? ⟨w.heap.size + 1, 2, none⟩ = some (.slice sb' xb'.length xb'.length) ∧ w'.cell? ⟨w.heap.size + 1, 3, none⟩ = some (.bool bb'))
      (first | assumption | exact ⟨Ca0, Ca1, Ca2, Ca3, Cb0, Cb1, Cb2, Cb3⟩ | go_keep)
      (first
        | (go_at_call 43; (with_reducible refine (FUnder_any c1w2.drew _ t K (qb.kept (grown_drew (grown_refl _ _))) (by omega) Hmd.out).mono ?_); rintro e c1w3_1 ⟨v1, rfl, n1, gc1w3_1⟩; have hGc1w3_1 := grown_pre c1w2 gc1w3_1 rfl rfl rfl rfl; have hSc1w3_1 := (And.intro (hGc1w3_1.cell Ca0 (by simp)) (And.intro (hGc1w3_1.cell Ca1 (by simp)) (And.intro (hGc1w3_1.cell Ca2 (by simp)) (And.intro (hGc1w3_1.cell Ca3 (by simp)) (And.intro (hGc1w3_1.cell Cb0 (by simp)) (And.intro (hGc1w3_1.cell Cb1 (by simp)) (And.intro (hGc1w3_1.cell Cb2 (by simp)) (hGc1w3_1.cell Cb3 (by simp))))))))); clear gc1w3_1)
        | (go_at_call 42; (with_reducible refine (ZMul_any c1w3_1 _ _ r.num (t.den : Int) K (ia.kept hGc1w3_1) n1 (by omega) Hln.out HTD.out).mono ?_); rintro e c1w3_2 ⟨v2, rfl, n2, gc1w3_2⟩; have hGc1w3_2 := grown_trans hGc1w3_1 gc1w3_2; replace n1 := n1.kept gc1w3_2; have hSc1w3_2 := (And.intro (hGc1w3_2.cell Ca0 (by simp)) (And.intro (hGc1w3_2.cell Ca1 (by simp)) (And.intro (hGc1w3_2.cell Ca2 (by simp)) (And.intro (hGc1w3_2.cell Ca3 (by simp)) (And.intro (hGc1w3_2.cell Cb0 (by simp)) (And.intro (hGc1w3_2.cell Cb1 (by simp)) (And.intro (hGc1w3_2.cell Cb2 (by simp)) (hGc1w3_2.cell Cb3 (by simp))))))))); clear gc1w3_2)
        | (go_at_call 43; (with_reducible refine (FUnder_any c1w3_2 _ r K (qa.kept hGc1w3_2) (by omega) Hld.out).mono ?_); rintro e c1w3_3 ⟨v3, rfl, n3, gc1w3_3⟩; have hGc1w3_3 := grown_trans hGc1w3_2 gc1w3_3; replace n1 := n1.kept gc1w3_3; replace n2 := n2.kept gc1w3_3; have hSc1w3_3 := (And.intro (hGc1w3_3.cell Ca0 (by simp)) (And.intro (hGc1w3_3.cell Ca1 (by simp)) (And.intro (hGc1w3_3.cell Ca2 (by simp)) (And.intro (hGc1w3_3.cell Ca3 (by simp)) (And.intro (hGc1w3_3.cell Cb0 (by simp)) (And.intro (hGc1w3_3.cell Cb1 (by simp)) (And.intro (hGc1w3_3.cell Cb2 (by simp)) (hGc1w3_3.cell Cb3 (by simp))))))))); clear gc1w3_3)
        | (go_at_call 42; (with_reducible refine (ZMul_any c1w3_3 _ _ t.num (r.den : Int) K (ib.kept hGc1w3_3) n3 (by omega) Hmn.out HRD.out).mono ?_); rintro e c1w3_4 ⟨v4, rfl, n4, gc1w3_4⟩; have hGc1w3_4 := grown_trans hGc1w3_3 gc1w3_4; replace n1 := n1.kept gc1w3_4; replace n2 := n2.kept gc1w3_4; replace n3 := n3.kept gc1w3_4; have hSc1w3_4 := (And.intro (hGc1w3_4.cell Ca0 (by simp)) (And.intro (hGc1w3_4.cell Ca1 (by simp)) (And.intro (hGc1w3_4.cell Ca2 (by simp)) (And.intro (hGc1w3_4.cell Ca3 (by simp)) (And.intro (hGc1w3_4.cell Cb0 (by simp)) (And.intro (hGc1w3_4.cell Cb1 (by simp)) (And.intro (hGc1w3_4.cell Cb2 (by simp)) (hGc1w3_4.cell Cb3 (by simp))))))))); clear gc1w3_4)
        | (go_at_call 41; (with_reducible refine (ZCmp_any c1w3_4 _ _ (r.num * (t.den : Int)) (t.num * (r.den : Int)) (K + K) n2 n4 (by omega) (fmul_bd Hln.out HTD.out) (fmul_bd Hmn.out HRD.out)).mono ?_); rintro e c1w3_5 ⟨rfl, gc1w3_5⟩; have hGc1w3_5 := grown_trans hGc1w3_4 gc1w3_5; replace n1 := n1.kept gc1w3_5; replace n2 := n2.kept gc1w3_5; replace n3 := n3.kept gc1w3_5; replace n4 := n4.kept gc1w3_5; have hSc1w3_5 := (And.intro (hGc1w3_5.cell Ca0 (by simp)) (And.intro (hGc1w3_5.cell Ca1 (by simp)) (And.intro (hGc1w3_5.cell Ca2 (by simp)) (And.intro (hGc1w3_5.cell Ca3 (by simp)) (And.intro (hGc1w3_5.cell Cb0 (by simp)) (And.intro (hGc1w3_5.cell Cb1 (by simp)) (And.intro (hGc1w3_5.cell Cb2 (by simp)) (hGc1w3_5.cell Cb3 (by simp))))))))); clear gc1w3_5))
    replace Ba := heap_kept hGc1w3_5 Ba
    replace Bb := heap_kept hGc1w3_5 Bb
    replace qa := qa.kept hGc1w3_5
    replace ia := ia.kept hGc1w3_5
    replace ia' := ia'.kept hGc1w3_5
    replace qb := qb.kept hGc1w3_5
    replace ib := ib.kept hGc1w3_5
    replace ib' := ib'.kept hGc1w3_5
    replace hG := grown_trans hG hGc1w3_5
    clear Ca0 Fa0 Ca1 Fa1 Ca2 Fa2 Ca3 Fa3 Cb0 Fb0 Cb1 Fb1 Cb2 Fb2 Cb3 Fb3
    obtain ⟨Ca0, Ca1, Ca2, Ca3, Fa0, Fa1, Fa2, Fa3⟩ := box_cells4 Ba
    obtain ⟨Cb0, Cb1, Cb2, Cb3, Fb0, Fb1, Fb2, Fb3⟩ := box_cells4 Bb
    go_wp2_with fail
    go_ret
    exact ⟨rfl, hG⟩
  · skip
    obtain ⟨sa, xa, ba, sa', xa', ba', rfl, ha, ha'⟩ := Ha
    obtain ⟨sb, xb, bb, sb', xb', bb', rfl, hb, hb'⟩ := Hb
    have hG : w.grownBy ((w.alloc (.cells #[.slice sa xa.length xa.length, .bool ba, .slice sa' xa'.length xa'.length, .bool ba'] 30)).alloc (.cells #[.slice sb xb.length xb.length, .bool bb, .slice sb' xb'.length xb'.length, .bool bb'] 30)) none := (grown_alloc (World.grownBy_alloc _ _ _) _)
    have Ba := heap_kept (World.grownBy_alloc _ (.cells #[.slice sb xb.length xb.length, .bool bb, .slice sb' xb'.length xb'.length, .bool bb'] 30) none) (heap_new w (.cells #[.slice sa xa.length xa.length, .bool ba, .slice sa' xa'.length xa'.length, .bool ba'] 30) (w.heap.size) rfl)
    have Bb := (heap_new (w.alloc (.cells #[.slice sa xa.length xa.length, .bool ba, .slice sa' xa'.length xa'.length, .bool ba'] 30)) (.cells #[.slice sb xb.length xb.length, .bool bb, .slice sb' xb'.length xb'.length, .bool bb'] 30) (w.heap.size + 1) (by simp))
    have qa : RatV ((w.alloc (.cells #[.slice sa xa.length xa.length, .bool ba, .slice sa' xa'.length xa'.length, .bool ba'] 30)).alloc (.cells #[.slice sb xb.length xb.length, .bool bb, .slice sb' xb'.length xb'.length, .bool bb'] 30)) (.agg #[.slice sa xa.length xa.length, .bool ba, .slice sa' xa'.length xa'.length, .bool ba']) (r) := ⟨sa, xa, ba, sa', xa', ba', rfl, ha.kept hG, ha'.kept hG⟩
    have ia : IntV ((w.alloc (.cells #[.slice sa xa.length xa.length, .bool ba, .slice sa' xa'.length xa'.length, .bool ba'] 30)).alloc (.cells #[.slice sb xb.length xb.length, .bool bb, .slice sb' xb'.length xb'.length, .bool bb'] 30)) (.agg #[.slice sa xa.length xa.length, .bool ba]) (r).num := ha.kept hG
    have ia' : IntV ((w.alloc (.cells #[.slice sa xa.length xa.length, .bool ba, .slice sa' xa'.length xa'.length, .bool ba'] 30)).alloc (.cells #[.slice sb xb.length xb.length, .bool bb, .slice sb' xb'.length xb'.length, .bool bb'] 30)) (.agg #[.slice sa' xa'.length xa'.length, .bool ba']) (dn (r)) := ha'.kept hG
    have qb : RatV ((w.alloc (.cells #[.slice sa xa.length xa.length, .bool ba, .slice sa' xa'.length xa'.length, .bool ba'] 30)).alloc (.cells #[.slice sb xb.length xb.length, .bool bb, .slice sb' xb'.length xb'.length, .bool bb'] 30)) (.agg #[.slice sb xb.length xb.length, .bool bb, .slice sb' xb'.length xb'.length, .bool bb']) (t) := ⟨sb, xb, bb, sb', xb', bb', rfl, hb.kept hG, hb'.kept hG⟩
    have ib : IntV ((w.alloc (.cells #[.slice sa xa.length xa.length, .bool ba, .slice sa' xa'.length xa'.length, .bool ba'] 30)).alloc (.cells #[.slice sb xb.length xb.length, .bool bb, .slice sb' xb'.length xb'.length, .bool bb'] 30)) (.agg #[.slice sb xb.length xb.length, .bool bb]) (t).num := hb.kept hG
    have ib' : IntV ((w.alloc (.cells #[.slice sa xa.length xa.length, .bool ba, .slice sa' xa'.length xa'.length, .bool ba'] 30)).alloc (.cells #[.slice sb xb.length xb.length, .bool bb, .slice sb' xb'.length xb'.length, .bool bb'] 30)) (.agg #[.slice sb' xb'.length xb'.length, .bool bb']) (dn (t)) := hb'.kept hG
    have oa : RatV w (.agg #[.slice sa xa.length xa.length, .bool ba, .slice sa' xa'.length xa'.length, .bool ba']) (r) := ⟨sa, xa, ba, sa', xa', ba', rfl, ha, ha'⟩
    clear ha ha'
    have ob : RatV w (.agg #[.slice sb xb.length xb.length, .bool bb, .slice sb' xb'.length xb'.length, .bool bb']) (t) := ⟨sb, xb, bb, sb', xb', bb', rfl, hb, hb'⟩
    clear hb hb'
    go_enter Tryd.func16, Tryd.ntmps16
    obtain ⟨Ca0, Ca1, Ca2, Ca3, Fa0, Fa1, Fa2, Fa3⟩ := box_cells4 Ba
    obtain ⟨Cb0, Cb1, Cb2, Cb3, Fb0, Fb1, Fb2, Fb3⟩ := box_cells4 Bb
    go_wp2_with fail
    generalize ((w.alloc (.cells #[.slice sa xa.length xa.length, .bool ba, .slice sa' xa'.length xa'.length, .bool ba'] 30)).alloc (.cells #[.slice sb xb.length xb.length, .bool bb, .slice sb' xb'.length xb'.length, .bool bb'] 30)) = w0 at *
    clear Ca0 Fa0 Ca1 Fa1 Ca2 Fa2 Ca3 Fa3 Cb0 Fb0 Cb1 Fb1 Cb2 Fb2 Cb3 Fb3
    refine (FWhole_any w0 _ r K qa (by omega) Hld.out).mono ?_
    rintro e c2w1 ⟨rfl, gc2w1⟩
    rw [HO1.out]
    replace Ba := heap_kept gc2w1 Ba
    replace Bb := heap_kept gc2w1 Bb
    replace qa := qa.kept gc2w1
    replace ia := ia.kept gc2w1
    replace ia' := ia'.kept gc2w1
    replace qb := qb.kept gc2w1
    replace ib := ib.kept gc2w1
    replace ib' := ib'.kept gc2w1
    replace hG := grown_trans hG gc2w1
    clear gc2w1
    obtain ⟨Ca0, Ca1, Ca2, Ca3, Fa0, Fa1, Fa2, Fa3⟩ := box_cells4 Ba
    obtain ⟨Cb0, Cb1, Cb2, Cb3, Fb0, Fb1, Fb2, Fb3⟩ := box_cells4 Bb
    go_wp2_with fail
    have HRD : Hid ((r.den : Int).natAbs < B ^ K) := by show _ < _; rw [Int.natAbs_natCast]; exact Hld.out
    have HTD : Hid ((t.den : Int).natAbs < B ^ K) := by show _ < _; rw [Int.natAbs_natCast]; exact Hmd.out
    go_region_held3 (fun w' => w'.cell? ⟨w.heap.size, 0, none⟩ = some (.slice sa xa.length xa.length) ∧ w'.cell? ⟨w.heap.size, 1, none⟩ = some (.bool ba) ∧ w'.cell? ⟨w.heap.size, 2, none⟩ = some (.slice sa' xa'.length xa'.length) ∧ w'.cell? ⟨w.heap.size, 3, none⟩ = some (.bool ba') ∧ w'.cell? ⟨w.heap.size + 1, 0, none⟩ = some (.slice sb xb.length xb.length) ∧ w'.cell? ⟨w.heap.size + 1, 1, none⟩ = some (.bool bb) ∧ w'.cell? ⟨w.heap.size + 1, 2, none⟩ = some (.slice sb' xb'.length xb'.length) ∧ w'.cell? ⟨w.heap.size + 1, 3, none⟩ = some (.bool bb'))
      (first | assumption | exact ⟨Ca0, Ca1, Ca2, Ca3, Cb0, Cb1, Cb2, Cb3⟩ | go_keep)
      (first
        | (go_at_call 43; (with_reducible refine (FUnder_any c2w1.drew _ t K (qb.kept (grown_drew (grown_refl _ _))) (by omega) Hmd.out).mono ?_); rintro e c2w2_1 ⟨v1, rfl, n1, gc2w2_1⟩; have hGc2w2_1 := grown_pre c2w1 gc2w2_1 rfl rfl rfl rfl; have hSc2w2_1 := (And.intro (hGc2w2_1.cell Ca0 (by simp)) (And.intro (hGc2w2_1.cell Ca1 (by simp)) (And.intro (hGc2w2_1.cell Ca2 (by simp)) (And.intro (hGc2w2_1.cell Ca3 (by simp)) (And.intro (hGc2w2_1.cell Cb0 (by simp)) (And.intro (hGc2w2_1.cell Cb1 (by simp)) (And.intro (hGc2w2_1.cell Cb2 (by simp)) (hGc2w2_1.cell Cb3 (by simp))))))))); clear gc2w2_1)
        | (go_at_call 42; (with_reducible refine (ZMul_any c2w2_1 _ _ r.num (t.den : Int) K (ia.kept hGc2w2_1) n1 (by omega) Hln.out HTD.out).mono ?_); rintro e c2w2_2 ⟨v2, rfl, n2, gc2w2_2⟩; have hGc2w2_2 := grown_trans hGc2w2_1 gc2w2_2; replace n1 := n1.kept gc2w2_2; have hSc2w2_2 := (And.intro (hGc2w2_2.cell Ca0 (by simp)) (And.intro (hGc2w2_2.cell Ca1 (by simp)) (And.intro (hGc2w2_2.cell Ca2 (by simp)) (And.intro (hGc2w2_2.cell Ca3 (by simp)) (And.intro (hGc2w2_2.cell Cb0 (by simp)) (And.intro (hGc2w2_2.cell Cb1 (by simp)) (And.intro (hGc2w2_2.cell Cb2 (by simp)) (hGc2w2_2.cell Cb3 (by simp))))))))); clear gc2w2_2)
        | (go_at_call 43; (with_reducible refine (FUnder_any c2w2_2 _ r K (qa.kept hGc2w2_2) (by omega) Hld.out).mono ?_); rintro e c2w2_3 ⟨v3, rfl, n3, gc2w2_3⟩; have hGc2w2_3 := grown_trans hGc2w2_2 gc2w2_3; replace n1 := n1.kept gc2w2_3; replace n2 := n2.kept gc2w2_3; have hSc2w2_3 := (And.intro (hGc2w2_3.cell Ca0 (by simp)) (And.intro (hGc2w2_3.cell Ca1 (by simp)) (And.intro (hGc2w2_3.cell Ca2 (by simp)) (And.intro (hGc2w2_3.cell Ca3 (by simp)) (And.intro (hGc2w2_3.cell Cb0 (by simp)) (And.intro (hGc2w2_3.cell Cb1 (by simp)) (And.intro (hGc2w2_3.cell Cb2 (by simp)) (hGc2w2_3.cell Cb3 (by simp))))))))); clear gc2w2_3)
        | (go_at_call 42; (with_reducible refine (ZMul_any c2w2_3 _ _ t.num (r.den : Int) K (ib.kept hGc2w2_3) n3 (by omega) Hmn.out HRD.out).mono ?_); rintro e c2w2_4 ⟨v4, rfl, n4, gc2w2_4⟩; have hGc2w2_4 := grown_trans hGc2w2_3 gc2w2_4; replace n1 := n1.kept gc2w2_4; replace n2 := n2.kept gc2w2_4; replace n3 := n3.kept gc2w2_4; have hSc2w2_4 := (And.intro (hGc2w2_4.cell Ca0 (by simp)) (And.intro (hGc2w2_4.cell Ca1 (by simp)) (And.intro (hGc2w2_4.cell Ca2 (by simp)) (And.intro (hGc2w2_4.cell Ca3 (by simp)) (And.intro (hGc2w2_4.cell Cb0 (by simp)) (And.intro (hGc2w2_4.cell Cb1 (by simp)) (And.intro (hGc2w2_4.cell Cb2 (by simp)) (hGc2w2_4.cell Cb3 (by simp))))))))); clear gc2w2_4)
        | (go_at_call 41; (with_reducible refine (ZCmp_any c2w2_4 _ _ (r.num * (t.den : Int)) (t.num * (r.den : Int)) (K + K) n2 n4 (by omega) (fmul_bd Hln.out HTD.out) (fmul_bd Hmn.out HRD.out)).mono ?_); rintro e c2w2_5 ⟨rfl, gc2w2_5⟩; have hGc2w2_5 := grown_trans hGc2w2_4 gc2w2_5; replace n1 := n1.kept gc2w2_5; replace n2 := n2.kept gc2w2_5; replace n3 := n3.kept gc2w2_5; replace n4 := n4.kept gc2w2_5; have hSc2w2_5 := (And.intro (hGc2w2_5.cell Ca0 (by simp)) (And.intro (hGc2w2_5.cell Ca1 (by simp)) (And.intro (hGc2w2_5.cell Ca2 (by simp)) (And.intro (hGc2w2_5.cell Ca3 (by simp)) (And.intro (hGc2w2_5.cell Cb0 (by simp)) (And.intro (hGc2w2_5.cell Cb1 (by simp)) (And.intro (hGc2w2_5.cell Cb2 (by simp)) (hGc2w2_5.cell Cb3 (by simp))))))))); clear gc2w2_5))
    replace Ba := heap_kept hGc2w2_5 Ba
    replace Bb := heap_kept hGc2w2_5 Bb
    replace qa := qa.kept hGc2w2_5
    replace ia := ia.kept hGc2w2_5
    replace ia' := ia'.kept hGc2w2_5
    replace qb := qb.kept hGc2w2_5
    replace ib := ib.kept hGc2w2_5
    replace ib' := ib'.kept hGc2w2_5
    replace hG := grown_trans hG hGc2w2_5
    clear Ca0 Fa0 Ca1 Fa1 Ca2 Fa2 Ca3 Fa3 Cb0 Fb0 Cb1 Fb1 Cb2 Fb2 Cb3 Fb3
    obtain ⟨Ca0, Ca1, Ca2, Ca3, Fa0, Fa1, Fa2, Fa3⟩ := box_cells4 Ba
    obtain ⟨Cb0, Cb1, Cb2, Cb3, Fb0, Fb1, Fb2, Fb3⟩ := box_cells4 Bb
    go_wp2_with fail
    go_ret
    exact ⟨rfl, hG⟩
end Go.Proofs.YtldkddogadmpbaaDoor
