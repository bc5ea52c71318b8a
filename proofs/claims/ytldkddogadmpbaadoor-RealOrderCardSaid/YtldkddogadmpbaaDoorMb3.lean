/- What the laws lean on, part 3. -/
import Derived.Deep.RegionHeld3
import Derived.OwnWalk
import Derived.Laws.AppendOwn
import Derived.Laws.AppendOwnNone
import Derived.Deep.CutRange
import Derived.Test.YtldkddogadmpbaaDoorMb2
import Derived.Test.YtldkddogadmpbaaDoorMb1
import Derived.Test.YtldkddogadmpbaaDoorMa17
import Derived.Test.YtldkddogadmpbaaDoorMa26
namespace Go.Proofs.YtldkddogadmpbaaDoor
open Go.RowKit Mat
set_option maxRecDepth 100000
set_option linter.unusedVariables false
set_option linter.unusedSimpArgs false
theorem rmul_whole {a b : Rat} (ha : a.den = 1) (hb : b.den = 1) : (a * b).num = a.num * b.num ∧ dn (a * b) = 0 := by
  constructor
  · rw [rmul_num, ha, hb]; simp
  · unfold dn; rw [if_pos (by rw [rmul_den, ha, hb]; simp)]
set_option maxHeartbeats 16000000 in
theorem FMul_any (w : World) (va vb : Value) (r t : Rat) (K : Nat) (Ha : RatV w va r) (Hb : RatV w vb t) (hK : K ≤ 300000) (ln : r.num.natAbs < B ^ K) (ld : r.den < B ^ K) (mn : t.num.natAbs < B ^ K) (md : t.den < B ^ K) (hTab : Tab w) :
    Calls Tryd.prog 20 #[va, vb] w (RetRat w (r * t)) := by
  have HTB : Hid (∀ W, w.grownBy W none → Tab W) := fun W hW => hTab.kept hW (by simp)
  clear hTab
  have Hln := Lib.hid ln
  have Hld := Lib.hid ld
  have Hmn := Lib.hid mn
  have Hmd := Lib.hid md
  clear ln ld mn md
  have HRW : Hid (r.den = 1 → t.den = 1 → (r * t).num = r.num * t.num ∧ dn (r * t) = 0) := fun h1 h2 => rmul_whole h1 h2
  have hg : (decide (r.den = 1) = true ∧ decide (t.den = 1) = true) ∨ (decide (r.den = 1) = true ∧ decide (t.den = 1) = false) ∨ decide (r.den = 1) = false := by
    by_cases h1 : r.den = 1
    · by_cases h2 : t.den = 1
      · left; exact ⟨decide_eq_true h1, decide_eq_true h2⟩
      · right; left; exact ⟨decide_eq_true h1, decide_eq_false h2⟩
    · right; right; exact decide_eq_false h1
  obtain ⟨o1, ho1⟩ : ∃ o, decide (r.den = 1) = o := ⟨_, rfl⟩
  obtain ⟨o2, ho2⟩ : ∃ o, decide (t.den = 1) = o := ⟨_, rfl⟩
  rw [ho1, ho2] at hg
  have HO1 := Lib.hid ho1
  have HO2 := Lib.hid ho2
  clear ho1 ho2
  rcases hg with ⟨rfl, rfl⟩ | ⟨rfl, rfl⟩ | rfl
  · skip
    obtain ⟨sa, xa, ba, sa', xa', ba', rfl, ha, ha'⟩ := Ha
    obtain ⟨sb, xb, bb, sb', xb', bb', rfl, hb, hb'⟩ := Hb
    have hG : w.grownBy (((w.alloc (.cells #[.slice sa xa.length xa.length, .bool ba, .slice sa' xa'.length xa'.length, .bool ba'] 30)).alloc (.cells #[.slice sb xb.length xb.length, .bool bb, .slice sb' xb'.length xb'.length, .bool bb'] 30)).alloc (.cells #[.slice none 0 0, .bool false, .slice none 0 0, .bool false] 30)) none := (grown_alloc (grown_alloc (World.grownBy_alloc _ _ _) _) _)
    have Ba := heap_kept (grown_alloc (World.grownBy_alloc _ (.cells #[.slice sb xb.length xb.length, .bool bb, .slice sb' xb'.length xb'.length, .bool bb'] 30) none) (.cells #[.slice none 0 0, .bool false, .slice none 0 0, .bool false] 30)) (heap_new w (.cells #[.slice sa xa.length xa.length, .bool ba, .slice sa' xa'.length xa'.length, .bool ba'] 30) (w.heap.size) rfl)
    have Bb := heap_kept (World.grownBy_alloc _ (.cells #[.slice none 0 0, .bool false, .slice none 0 0, .bool false] 30) none) (heap_new (w.alloc (.cells #[.slice sa xa.length xa.length, .bool ba, .slice sa' xa'.length xa'.length, .bool ba'] 30)) (.cells #[.slice sb xb.length xb.length, .bool bb, .slice sb' xb'.length xb'.length, .bool bb'] 30) (w.heap.size + 1) (by simp))
    have Bq := (heap_new ((w.alloc (.cells #[.slice sa xa.length xa.length, .bool ba, .slice sa' xa'.length xa'.length, .bool ba'] 30)).alloc (.cells #[.slice sb xb.length xb.length, .bool bb, .slice sb' xb'.length xb'.length, .bool bb'] 30)) (.cells #[.slice none 0 0, .bool false, .slice none 0 0, .bool false] 30) (w.heap.size + 1 + 1) (by simp))
    have qa : RatV (((w.alloc (.cells #[.slice sa xa.length xa.length, .bool ba, .slice sa' xa'.length xa'.length, .bool ba'] 30)).alloc (.cells #[.slice sb xb.length xb.length, .bool bb, .slice sb' xb'.length xb'.length, .bool bb'] 30)).alloc (.cells #[.slice none 0 0, .bool false, .slice none 0 0, .bool false] 30)) (.agg #[.slice sa xa.length xa.length, .bool ba, .slice sa' xa'.length xa'.length, .bool ba']) (r) := ⟨sa, xa, ba, sa', xa', ba', rfl, ha.kept hG, ha'.kept hG⟩
    have ia : IntV (((w.alloc (.cells #[.slice sa xa.length xa.length, .bool ba, .slice sa' xa'.length xa'.length, .bool ba'] 30)).alloc (.cells #[.slice sb xb.length xb.length, .bool bb, .slice sb' xb'.length xb'.length, .bool bb'] 30)).alloc (.cells #[.slice none 0 0, .bool false, .slice none 0 0, .bool false] 30)) (.agg #[.slice sa xa.length xa.length, .bool ba]) (r).num := ha.kept hG
    have ia' : IntV (((w.alloc (.cells #[.slice sa xa.length xa.length, .bool ba, .slice sa' xa'.length xa'.length, .bool ba'] 30)).alloc (.cells #[.slice sb xb.length xb.length, .bool bb, .slice sb' xb'.length xb'.length, .bool bb'] 30)).alloc (.cells #[.slice none 0 0, .bool false, .slice none 0 0, .bool false] 30)) (.agg #[.slice sa' xa'.length xa'.length, .bool ba']) (dn (r)) := ha'.kept hG
    have qb : RatV (((w.alloc (.cells #[.slice sa xa.length xa.length, .bool ba, .slice sa' xa'.length xa'.length, .bool ba'] 30)).alloc (.cells #[.slice sb xb.length xb.length, .bool bb, .slice sb' xb'.length xb'.length, .bool bb'] 30)).alloc (.cells #[.slice none 0 0, .bool false, .slice none 0 0, .bool false] 30)) (.agg #[.slice sb xb.length xb.length, .bool bb, .slice sb' xb'.length xb'.length, .bool bb']) (t) := ⟨sb, xb, bb, sb', xb', bb', rfl, hb.kept hG, hb'.kept hG⟩
    have ib : IntV (((w.alloc (.cells #[.slice sa xa.length xa.length, .bool ba, .slice sa' xa'.length xa'.length, .bool ba'] 30)).alloc (.cells #[.slice sb xb.length xb.length, .bool bb, .slice sb' xb'.length xb'.length, .bool bb'] 30)).alloc (.cells #[.slice none 0 0, .bool false, .slice none 0 0, .bool false] 30)) (.agg #[.slice sb xb.length xb.length, .bool bb]) (t).num := hb.kept hG
    have ib' : IntV (((w.alloc (.cells #[.slice sa xa.length xa.length, .bool ba, .slice sa' xa'.length xa'.length, .bool ba'] 30)).alloc (.cells #[.slice sb xb.length xb.length, .bool bb, .slice sb' xb'.length xb'.length, .bool bb'] 30)).alloc (.cells #[.slice none 0 0, .bool false, .slice none 0 0, .bool false] 30)) (.agg #[.slice sb' xb'.length xb'.length, .bool bb']) (dn (t)) := hb'.kept hG
    have oa : RatV w (.agg #[.slice sa xa.length xa.length, .bool ba, .slice sa' xa'.length xa'.length, .bool ba']) (r) := ⟨sa, xa, ba, sa', xa', ba', rfl, ha, ha'⟩
    clear ha ha'
    have ob : RatV w (.agg #[.slice sb xb.length xb.length, .bool bb, .slice sb' xb'.length xb'.length, .bool bb']) (t) := ⟨sb, xb, bb, sb', xb', bb', rfl, hb, hb'⟩
    clear hb hb'
    go_enter Tryd.func20, Tryd.ntmps20
    obtain ⟨Ca0, Ca1, Ca2, Ca3, Fa0, Fa1, Fa2, Fa3⟩ := box_cells4 Ba
    obtain ⟨Cb0, Cb1, Cb2, Cb3, Fb0, Fb1, Fb2, Fb3⟩ := box_cells4 Bb
    obtain ⟨Cq0, Cq1, Cq2, Cq3, Fq0, Fq1, Fq2, Fq3⟩ := box_cells4 Bq
    go_wp2_with fail
    generalize (((w.alloc (.cells #[.slice sa xa.length xa.length, .bool ba, .slice sa' xa'.length xa'.length, .bool ba'] 30)).alloc (.cells #[.slice sb xb.length xb.length, .bool bb, .slice sb' xb'.length xb'.length, .bool bb'] 30)).alloc (.cells #[.slice none 0 0, .bool false, .slice none 0 0, .bool false] 30)) = w0 at *
    clear Ca0 Fa0 Ca1 Fa1 Ca2 Fa2 Ca3 Fa3 Cb0 Fb0 Cb1 Fb1 Cb2 Fb2 Cb3 Fb3 Cq0 Fq0 Cq1 Fq1 Cq2 Fq2 Cq3 Fq3
    refine (FWhole_any w0 _ r K qa (by omega) Hld.out).mono ?_
    rintro e c0w1 ⟨rfl, gc0w1⟩
    rw [HO1.out]
    replace Ba := heap_kept gc0w1 Ba
    replace Bb := heap_kept gc0w1 Bb
    replace Bq := heap_kept gc0w1 Bq
    replace qa := qa.kept gc0w1
    replace ia := ia.kept gc0w1
    replace ia' := ia'.kept gc0w1
    replace qb := qb.kept gc0w1
    replace ib := ib.kept gc0w1
    replace ib' := ib'.kept gc0w1
    replace hG := grown_trans hG gc0w1
    clear gc0w1
    obtain ⟨Ca0, Ca1, Ca2, Ca3, Fa0, Fa1, Fa2, Fa3⟩ := box_cells4 Ba
    obtain ⟨Cb0, Cb1, Cb2, Cb3, Fb0, Fb1, Fb2, Fb3⟩ := box_cells4 Bb
    obtain ⟨Cq0, Cq1, Cq2, Cq3, Fq0, Fq1, Fq2, Fq3⟩ := box_cells4 Bq
    go_wp2_with fail
    clear Ca0 Fa0 Ca1 Fa1 Ca2 Fa2 Ca3 Fa3 Cb0 Fb0 Cb1 Fb1 Cb2 Fb2 Cb3 Fb3 Cq0 Fq0 Cq1 Fq1 Cq2 Fq2 Cq3 Fq3
    refine (FWhole_any c0w1 _ t K qb (by omega) Hmd.out).mono ?_
    rintro e c0w2 ⟨rfl, gc0w2⟩
    rw [HO2.out]
    replace Ba := heap_kept gc0w2 Ba
    replace Bb := heap_kept gc0w2 Bb
    replace Bq := heap_kept gc0w2 Bq
    replace qa := qa.kept gc0w2
    replace ia := ia.kept gc0w2
    replace ia' := ia'.kept gc0w2
    replace qb := qb.kept gc0w2
    replace ib := ib.kept gc0w2
    replace ib' := ib'.kept gc0w2
    replace hG := grown_trans hG gc0w2
    clear gc0w2
    obtain ⟨Ca0, Ca1, Ca2, Ca3, Fa0, Fa1, Fa2, Fa3⟩ := box_cells4 Ba
    obtain ⟨Cb0, Cb1, Cb2, Cb3, Fb0, Fb1, Fb2, Fb3⟩ := box_cells4 Bb
    obtain ⟨Cq0, Cq1, Cq2, Cq3, Fq0, Fq1, Fq2, Fq3⟩ := box_cells4 Bq
    go_wp2_with fail
    clear Ca0 Fa0 Ca1 Fa1 Ca2 Fa2 Ca3 Fa3 Cb0 Fb0 Cb1 Fb1 Cb2 Fb2 Cb3 Fb3 Cq0 Fq0 Cq1 Fq1 Cq2 Fq2 Cq3 Fq3
    refine (ZMul_any c0w2 _ _ r.num t.num K ia ib (by omega) Hln.out Hmn.out).mono ?_
    rintro e c0w3 ⟨_, rfl, ⟨sd, xd, bd, rfl, hd, vd, td⟩, gc0w3⟩
    have id : IntV c0w3 (.agg #[.slice sd xd.length xd.length, .bool bd]) (r.num * t.num) := ⟨sd, xd, bd, rfl, hd, vd, td⟩
    replace Ba := heap_kept gc0w3 Ba
    replace Bb := heap_kept gc0w3 Bb
    replace Bq := heap_kept gc0w3 Bq
    replace qa := qa.kept gc0w3
    replace ia := ia.kept gc0w3
    replace ia' := ia'.kept gc0w3
    replace qb := qb.kept gc0w3
    replace ib := ib.kept gc0w3
    replace ib' := ib'.kept gc0w3
    replace hG := grown_trans hG gc0w3
    clear gc0w3
    clear hd vd td
    obtain ⟨Ca0, Ca1, Ca2, Ca3, Fa0, Fa1, Fa2, Fa3⟩ := box_cells4 Ba
    obtain ⟨Cb0, Cb1, Cb2, Cb3, Fb0, Fb1, Fb2, Fb3⟩ := box_cells4 Bb
    obtain ⟨Cq0, Cq1, Cq2, Cq3, Fq0, Fq1, Fq2, Fq3⟩ := box_cells4 Bq
    obtain ⟨hw1, hw2⟩ := HRW.out (of_decide_eq_true HO1.out) (of_decide_eq_true HO2.out)
    have qd : RatV c0w3 (.agg #[.slice sd xd.length xd.length, .bool bd, .slice none 0 0, .bool false]) (r * t) := ⟨_, _, _, none, [], false, rfl, by rw [hw1]; exact id, by rw [hw2]; exact IntV.zero _⟩
    clear hw1 hw2
    clear Ca0 Fa0 Ca1 Fa1 Ca2 Fa2 Ca3 Fa3 Cb0 Fb0 Cb1 Fb1 Cb2 Fb2 Cb3 Fb3 Cq0 Fq0 Cq1 Fq1 Cq2 Fq2 Cq3 Fq3
    obtain ⟨k90, k91, k92, k93, k94, k95, k96, k97⟩ := box_cells4 Bq
    obtain ⟨q90, q91, q92, q93, q94, q95, q96, q97⟩ := box_cells4 (heap_set4 Bq (.slice sd xd.length xd.length) (.bool bd) (.slice none 0 0) (.bool false))
    have hF : Hid (RetRat w (r * t) (.returned (.agg #[.slice sd xd.length xd.length, .bool bd, .slice none 0 0, .bool false])) ((((c0w3.setCell ⟨w.heap.size + 1 + 1, 0, none⟩ (.slice sd xd.length xd.length)).setCell ⟨w.heap.size + 1 + 1, 1, none⟩ (.bool bd)).setCell ⟨w.heap.size + 1 + 1, 2, none⟩ (.slice none 0 0)).setCell ⟨w.heap.size + 1 + 1, 3, none⟩ (.bool false))) := ret_ratv hG Bq (by omega) qd
    clear qa ia ia' qb ib ib' id qd
    go_wp2_with fail
    exact bodyPost_ret (v := .agg #[.slice sd xd.length xd.length, .bool bd, .slice none 0 0, .bool false]) (by simp [results, Tryd.results20, go_sem, q90, q91, q92, q93]) rfl hF.out
  · skip
    obtain ⟨sa, xa, ba, sa', xa', ba', rfl, ha, ha'⟩ := Ha
    obtain ⟨sb, xb, bb, sb', xb', bb', rfl, hb, hb'⟩ := Hb
    have hG : w.grownBy (((w.alloc (.cells #[.slice sa xa.length xa.length, .bool ba, .slice sa' xa'.length xa'.length, .bool ba'] 30)).alloc (.cells #[.slice sb xb.length xb.length, .bool bb, .slice sb' xb'.length xb'.length, .bool bb'] 30)).alloc (.cells #[.slice none 0 0, .bool false, .slice none 0 0, .bool false] 30)) none := (grown_alloc (grown_alloc (World.grownBy_alloc _ _ _) _) _)
    have Ba := heap_kept (grown_alloc (World.grownBy_alloc _ (.cells #[.slice sb xb.length xb.length, .bool bb, .slice sb' xb'.length xb'.length, .bool bb'] 30) none) (.cells #[.slice none 0 0, .bool false, .slice none 0 0, .bool false] 30)) (heap_new w (.cells #[.slice sa xa.length xa.length, .bool ba, .slice sa' xa'.length xa'.length, .bool ba'] 30) (w.heap.size) rfl)
    have Bb := heap_kept (World.grownBy_alloc _ (.cells #[.slice none 0 0, .bool false, .slice none 0 0, .bool false] 30) none) (heap_new (w.alloc (.cells #[.slice sa xa.length xa.length, .bool ba, .slice sa' xa'.length xa'.length, .bool ba'] 30)) (.cells #[.slice sb xb.length xb.length, .bool bb, .slice sb' xb'.length xb'.length, .bool bb'] 30) (w.heap.size + 1) (by simp))
    have Bq := (heap_new ((w.alloc (.cells #[.slice sa xa.length xa.length, .bool ba, .slice sa' xa'.length xa'.length, .bool ba'] 30)).alloc (.cells #[.slice sb xb.length xb.length, .bool bb, .slice sb' xb'.length xb'.length, .bool bb'] 30)) (.cells #[.slice none 0 0, .bool false, .slice none 0 0, .bool false] 30) (w.heap.size + 1 + 1) (by simp))
    have qa : RatV (((w.alloc (.cells #[.slice sa xa.length xa.length, .bool ba, .slice sa' xa'.length xa'.length, .bool ba'] 30)).alloc (.cells #[.slice sb xb.length xb.length, .bool bb, .slice sb' xb'.length xb'.length, .bool bb'] 30)).alloc (.cells #[.slice none 0 0, .bool false, .slice none 0 0, .bool false] 30)) (.agg #[.slice sa xa.length xa.length, .bool ba, .slice sa' xa'.length xa'.length, .bool ba']) (r) := ⟨sa, xa, ba, sa', xa', ba', rfl, ha.kept hG, ha'.kept hG⟩
    have ia : IntV (((w.alloc (.cells #[.slice sa xa.length xa.length, .bool ba, .slice sa' xa'.length xa'.length, .bool ba'] 30)).alloc (.cells #[.slice sb xb.length xb.length, .bool bb, .slice sb' xb'.length xb'.length, .bool bb'] 30)).alloc (.cells #[.slice none 0 0, .bool false, .slice none 0 0, .bool false] 30)) (.agg #[.slice sa xa.length xa.length, .bool ba]) (r).num := ha.kept hG
    have ia' : IntV (((w.alloc (.cells #[.slice sa xa.length xa.length, .bool ba, .slice sa' xa'.length xa'.length, .bool ba'] 30)).alloc (.cells #[.slice sb xb.length xb.length, .bool bb, .slice sb' xb'.length xb'.length, .bool bb'] 30)).alloc (.cells #[.slice none 0 0, .bool false, .slice none 0 0, .bool false] 30)) (.agg #[.slice sa' xa'.length xa'.length, .bool ba']) (dn (r)) := ha'.kept hG
    have qb : RatV (((w.alloc (.cells #[.slice sa xa.length xa.length, .bool ba, .slice sa' xa'.length xa'.length, .bool ba'] 30)).alloc (.cells #[.slice sb xb.length xb.length, .bool bb, .slice sb' xb'.length xb'.length, .bool bb'] 30)).alloc (.cells #[.slice none 0 0, .bool false, .slice none 0 0, .bool false] 30)) (.agg #[.slice sb xb.length xb.length, .bool bb, .slice sb' xb'.length xb'.length, .bool bb']) (t) := ⟨sb, xb, bb, sb', xb', bb', rfl, hb.kept hG, hb'.kept hG⟩
    have ib : IntV (((w.alloc (.cells #[.slice sa xa.length xa.length, .bool ba, .slice sa' xa'.length xa'.length, .bool ba'] 30)).alloc (.cells #[.slice sb xb.length xb.length, .bool bb, .slice sb' xb'.length xb'.length, .bool bb'] 30)).alloc (.cells #[.slice none 0 0, .bool false, .slice none 0 0, .bool false] 30)) (.agg #[.slice sb xb.length xb.length, .bool bb]) (t).num := hb.kept hG
    have ib' : IntV (((w.alloc (.cells #[.slice sa xa.length xa.length, .bool ba, .slice sa' xa'.length xa'.length, .bool ba'] 30)).alloc (.cells #[.slice sb xb.length xb.length, .bool bb, .slice sb' xb'.length xb'.length, .bool bb'] 30)).alloc (.cells #[.slice none 0 0, .bool false, .slice none 0 0, .bool false] 30)) (.agg #[.slice sb' xb'.length xb'.length, .bool bb']) (dn (t)) := hb'.kept hG
    have oa : RatV w (.agg #[.slice sa xa.length xa.length, .bool ba, .slice sa' xa'.length xa'.length, .bool ba']) (r) := ⟨sa, xa, ba, sa', xa', ba', rfl, ha, ha'⟩
    clear ha ha'
    have ob : RatV w (.agg #[.slice sb xb.length xb.length, .bool bb, .slice sb' xb'.length xb'.length, .bool bb']) (t) := ⟨sb, xb, bb, sb', xb', bb', rfl, hb, hb'⟩
    clear hb hb'
    go_enter Tryd.func20, Tryd.ntmps20
    obtain ⟨Ca0, Ca1, Ca2, Ca3, Fa0, Fa1, Fa2, Fa3⟩ := box_cells4 Ba
    obtain ⟨Cb0, Cb1, Cb2, Cb3, Fb0, Fb1, Fb2, Fb3⟩ := box_cells4 Bb
    obtain ⟨Cq0, Cq1, Cq2, Cq3, Fq0, Fq1, Fq2, Fq3⟩ := box_cells4 Bq
    go_wp2_with fail
    generalize (((w.alloc (.cells #[.slice sa xa.length xa.length, .bool ba, .slice sa' xa'.length xa'.length, .bool ba'] 30)).alloc (.cells #[.slice sb xb.length xb.length, .bool bb, .slice sb' xb'.length xb'.length, .bool bb'] 30)).alloc (.cells #[.slice none 0 0, .bool false, .slice none 0 0, .bool false] 30)) = w0 at *
    clear Ca0 Fa0 Ca1 Fa1 Ca2 Fa2 Ca3 Fa3 Cb0 Fb0 Cb1 Fb1 Cb2 Fb2 Cb3 Fb3 Cq0 Fq0 Cq1 Fq1 Cq2 Fq2 Cq3 Fq3
    refine (FWhole_any w0 _ r K qa (by omega) Hld.out).mono ?_
    rintro e c1w1 ⟨rfl, gc1w1⟩
    rw [HO1.out]
    replace Ba := heap_kept gc1w1 Ba
    replace Bb := heap_kept gc1w1 Bb
    replace Bq := heap_kept gc1w1 Bq
    replace qa := qa.kept gc1w1
    replace ia := ia.kept gc1w1
    replace ia' := ia'.kept gc1w1
    replace qb := qb.kept gc1w1
    replace ib := ib.kept gc1w1
    replace ib' := ib'.kept gc1w1
    replace hG := grown_trans hG gc1w1
    clear gc1w1
    obtain ⟨Ca0, Ca1, Ca2, Ca3, Fa0, Fa1, Fa2, Fa3⟩ := box_cells4 Ba
    obtain ⟨Cb0, Cb1, Cb2, Cb3, Fb0, Fb1, Fb2, Fb3⟩ := box_cells4 Bb
    obtain ⟨Cq0, Cq1, Cq2, Cq3, Fq0, Fq1, Fq2, Fq3⟩ := box_cells4 Bq
    go_wp2_with fail
    clear Ca0 Fa0 Ca1 Fa1 Ca2 Fa2 Ca3 Fa3 Cb0 Fb0 Cb1 Fb1 Cb2 Fb2 Cb3 Fb3 Cq0 Fq0 Cq1 Fq1 Cq2 Fq2 Cq3 Fq3
    refine (FWhole_any c1w1 _ t K qb (by omega) Hmd.out).mono ?_
    rintro e c1w2 ⟨rfl, gc1w2⟩
    rw [HO2.out]
    replace Ba := heap_kept gc1w2 Ba
    replace Bb := heap_kept gc1w2 Bb
    replace Bq := heap_kept gc1w2 Bq
    replace qa := qa.kept gc1w2
    replace ia := ia.kept gc1w2
    replace ia' := ia'.kept gc1w2
    replace qb := qb.kept gc1w2
    replace ib := ib.kept gc1w2
    replace ib' := ib'.kept gc1w2
    replace hG := grown_trans hG gc1w2
    clear gc1w2
    obtain ⟨Ca0, Ca1, Ca2, Ca3, Fa0, Fa1, Fa2, Fa3⟩ := box_cells4 Ba
    obtain ⟨Cb0, Cb1, Cb2, Cb3, Fb0, Fb1, Fb2, Fb3⟩ := box_cells4 Bb
    obtain ⟨Cq0, Cq1, Cq2, Cq3, Fq0, Fq1, Fq2, Fq3⟩ := box_cells4 Bq
    go_wp2_with fail
    have HT3 : Hid (∀ W, c1w2.grownBy W none → Tab W) := fun W hW => HTB.out _ (grown_trans hG hW)
    go_region_held3 (fun w' => w'.cell? ⟨w.heap.size, 0, none⟩ = some (.slice sa xa.length xa.length) ∧ w'.cell? ⟨w.heap.size, 1, none⟩ = some (.bool ba) ∧ w'.cell? ⟨w.heap.size, 2, none⟩ = some (.slice sa' xa'.length xa'.length) ∧ w'.cell? ⟨w.heap.size, 3, none⟩ = some (.bool ba') ∧ w'.cell? ⟨w.heap.size + 1, 0, none⟩ = some (.slice sb xb.length xb.length) ∧ w'.cell? ⟨w.heap.size + 1, 1, none⟩ = some (.bool bb) ∧ w'.cell? ⟨w.heap.size + 1, 2, none⟩ = some (.slice sb' xb'.length xb'.length) ∧ w'.cell? ⟨w.heap.size + 1, 3, none⟩ = some (.bool bb'))
      (first | assumption | exact ⟨Ca0, Ca1, Ca2, Ca3, Cb0, Cb1, Cb2, Cb3⟩ | exact HSc1w3_30 | go_keep)
      (first
        | (go_at_call 43; (with_reducible refine (FUnder_any c1w2.drew _ r K (qa.kept (grown_drew (grown_refl _ _))) (by omega) Hld.out).mono ?_); rintro e c1w3_1 ⟨v1, rfl, n1, gc1w3_1⟩; have hGc1w3_1 := grown_pre c1w2 gc1w3_1 rfl rfl rfl rfl; have hSc1w3_1 := (And.intro (hGc1w3_1.cell Ca0 (by simp)) (And.intro (hGc1w3_1.cell Ca1 (by simp)) (And.intro (hGc1w3_1.cell Ca2 (by simp)) (And.intro (hGc1w3_1.cell Ca3 (by simp)) (And.intro (hGc1w3_1.cell Cb0 (by simp)) (And.intro (hGc1w3_1.cell Cb1 (by simp)) (And.intro (hGc1w3_1.cell Cb2 (by simp)) (hGc1w3_1.cell Cb3 (by simp))))))))); clear gc1w3_1)
        | (go_at_call 43; (with_reducible refine (FUnder_any c1w3_1 _ t K (qb.kept hGc1w3_1) (by omega) Hmd.out).mono ?_); rintro e c1w3_2 ⟨v2, rfl, n2, gc1w3_2⟩; have hGc1w3_2 := grown_trans hGc1w3_1 gc1w3_2; replace n1 := n1.kept gc1w3_2; have hSc1w3_2 := (And.intro (hGc1w3_2.cell Ca0 (by simp)) (And.intro (hGc1w3_2.cell Ca1 (by simp)) (And.intro (hGc1w3_2.cell Ca2 (by simp)) (And.intro (hGc1w3_2.cell Ca3 (by simp)) (And.intro (hGc1w3_2.cell Cb0 (by simp)) (And.intro (hGc1w3_2.cell Cb1 (by simp)) (And.intro (hGc1w3_2.cell Cb2 (by simp)) (hGc1w3_2.cell Cb3 (by simp))))))))); clear gc1w3_2)
        | (go_at_call 46; (with_reducible refine (FProduct_any c1w3_2 _ _ _ _ r t K (ia.kept hGc1w3_2) n1 (ib.kept hGc1w3_2) n2 (by omega) Hln.out Hld.out Hmn.out Hmd.out (HT3.out _ hGc1w3_2)).mono ?_); rintro e c1w3_3 ⟨_, rfl, ⟨sd, xd, bd, sd', xd', bd', rfl, hd, hd'⟩, gc1w3_3⟩; have hGc1w3_3 := grown_trans hGc1w3_2 gc1w3_3; replace n1 := n1.kept gc1w3_3; replace n2 := n2.kept gc1w3_3; have qd : RatV c1w3_3 (.agg #[.slice sd xd.length xd.length, .bool bd, .slice sd' xd'.length xd'.length, .bool bd']) (r * t) := ⟨sd, xd, bd, sd', xd', bd', rfl, hd, hd'⟩; have hSc1w3_3 := (And.intro (hGc1w3_3.cell Ca0 (by simp)) (And.intro (hGc1w3_3.cell Ca1 (by simp)) (And.intro (hGc1w3_3.cell Ca2 (by simp)) (And.intro (hGc1w3_3.cell Ca3 (by simp)) (And.intro (hGc1w3_3.cell Cb0 (by simp)) (And.intro (hGc1w3_3.cell Cb1 (by simp)) (And.intro (hGc1w3_3.cell Cb2 (by simp)) (hGc1w3_3.cell Cb3 (by simp))))))))); clear gc1w3_3; clear hd hd'; (obtain ⟨dq0, dq1, dq2, dq3, dq4, dq5, dq6, dq7⟩ := box_cells4 (heap_kept hGc1w3_3 Bq)); have HSc1w3_30 := (And.intro ((box_cells4 (heap_unset4 (heap_kept hGc1w3_3 Ba) (show w.heap.size ≠ w.heap.size + 1 + 1 by omega) (.slice sd xd.length xd.length) (.bool bd) (.slice sd' xd'.length xd'.length) (.bool bd'))).1) (And.intro ((box_cells4 (heap_unset4 (heap_kept hGc1w3_3 Ba) (show w.heap.size ≠ w.heap.size + 1 + 1 by omega) (.slice sd xd.length xd.length) (.bool bd) (.slice sd' xd'.length xd'.length) (.bool bd'))).2.1) (And.intro ((box_cells4 (heap_unset4 (heap_kept hGc1w3_3 Ba) (show w.heap.size ≠ w.heap.size + 1 + 1 by omega) (.slice sd xd.length xd.length) (.bool bd) (.slice sd' xd'.length xd'.length) (.bool bd'))).2.2.1) (And.intro ((box_cells4 (heap_unset4 (heap_kept hGc1w3_3 Ba) (show w.heap.size ≠ w.heap.size + 1 + 1 by omega) (.slice sd xd.length xd.length) (.bool bd) (.slice sd' xd'.length xd'.length) (.bool bd'))).2.2.2.1) (And.intro ((box_cells4 (heap_unset4 (heap_kept hGc1w3_3 Bb) (show w.heap.size + 1 ≠ w.heap.size + 1 + 1 by omega) (.slice sd xd.length xd.length) (.bool bd) (.slice sd' xd'.length xd'.length) (.bool bd'))).1) (And.intro ((box_cells4 (heap_unset4 (heap_kept hGc1w3_3 Bb) (show w.heap.size + 1 ≠ w.heap.size + 1 + 1 by omega) (.slice sd xd.length xd.length) (.bool bd) (.slice sd' xd'.length xd'.length) (.bool bd'))).2.1) (And.intro ((box_cells4 (heap_unset4 (heap_kept hGc1w3_3 Bb) (show w.heap.size + 1 ≠ w.heap.size + 1 + 1 by omega) (.slice sd xd.length xd.length) (.bool bd) (.slice sd' xd'.length xd'.length) (.bool bd'))).2.2.1) ((box_cells4 (heap_unset4 (heap_kept hGc1w3_3 Bb) (show w.heap.size + 1 ≠ w.heap.size + 1 + 1 by omega) (.slice sd xd.length xd.length) (.bool bd) (.slice sd' xd'.length xd'.length) (.bool bd'))).2.2.2.1))))))))))
    replace Ba := heap_kept hGc1w3_3 Ba
    replace Bb := heap_kept hGc1w3_3 Bb
    replace Bq := heap_kept hGc1w3_3 Bq
    replace qa := qa.kept hGc1w3_3
    replace ia := ia.kept hGc1w3_3
    replace ia' := ia'.kept hGc1w3_3
    replace qb := qb.kept hGc1w3_3
    replace ib := ib.kept hGc1w3_3
    replace ib' := ib'.kept hGc1w3_3
    replace hG := grown_trans hG hGc1w3_3
    clear Ca0 Fa0 Ca1 Fa1 Ca2 Fa2 Ca3 Fa3 Cb0 Fb0 Cb1 Fb1 Cb2 Fb2 Cb3 Fb3 Cq0 Fq0 Cq1 Fq1 Cq2 Fq2 Cq3 Fq3
    obtain ⟨k90, k91, k92, k93, k94, k95, k96, k97⟩ := box_cells4 Bq
    obtain ⟨q90, q91, q92, q93, q94, q95, q96, q97⟩ := box_cells4 (heap_set4 Bq (.slice sd xd.length xd.length) (.bool bd) (.slice sd' xd'.length xd'.length) (.bool bd'))
    have hF : Hid (RetRat w (r * t) (.returned (.agg #[.slice sd xd.length xd.length, .bool bd, .slice sd' xd'.length xd'.length, .bool bd'])) ((((c1w3_3.setCell ⟨w.heap.size + 1 + 1, 0, none⟩ (.slice sd xd.length xd.length)).setCell ⟨w.heap.size + 1 + 1, 1, none⟩ (.bool bd)).setCell ⟨w.heap.size + 1 + 1, 2, none⟩ (.slice sd' xd'.length xd'.length)).setCell ⟨w.heap.size + 1 + 1, 3, none⟩ (.bool bd'))) := ret_ratv hG Bq (by omega) qd
    clear qa ia ia' qb ib ib' n1 n2 qd
    go_wp2_with fail
    exact bodyPost_ret (v := .agg #[.slice sd xd.length xd.length, .bool bd, .slice sd' xd'.length xd'.length, .bool bd']) (by simp [results, Tryd.results20, go_sem, q90, q91, q92, q93]) rfl hF.out
  · skip
    obtain ⟨sa, xa, ba, sa', xa', ba', rfl, ha, ha'⟩ := Ha
    obtain ⟨sb, xb, bb, sb', xb', bb', rfl, hb, hb'⟩ := Hb
    have hG : w.grownBy (((w.alloc (.cells #[.slice sa xa.length xa.length, .bool ba, .slice sa' xa'.length xa'.length, .bool ba'] 30)).alloc (.cells #[.slice sb xb.length xb.length, .bool bb, .slice sb' xb'.length xb'.length, .bool bb'] 30)).alloc (.cells #[.slice none 0 0, .bool false, .slice none 0 0, .bool false] 30)) none := (grown_alloc (grown_alloc (World.grownBy_alloc _ _ _) _) _)
    have Ba := heap_kept (grown_alloc (World.grownBy_alloc _ (.cells #[.slice sb xb.length xb.length, .bool bb, .slice sb' xb'.length xb'.length, .bool bb'] 30) none) (.cells #[.slice none 0 0, .bool false, .slice none 0 0, .bool false] 30)) (heap_new w (.cells #[.slice sa xa.length xa.length, .bool ba, .slice sa' xa'.length xa'.length, .bool ba'] 30) (w.heap.size) rfl)
    have Bb := heap_kept (World.grownBy_alloc _ (.cells #[.slice none 0 0, .bool false, .slice none 0 0, .bool false] 30) none) (heap_new (w.alloc (.cells #[.slice sa xa.length xa.length, .bool ba, .slice sa' xa'.length xa'.length, .bool ba'] 30)) (.cells #[.slice sb xb.length xb.length, .bool bb, .slice sb' xb'.length xb'.length, .bool bb'] 30) (w.heap.size + 1) (by simp))
    have Bq := (heap_new ((w.alloc (.cells #[.slice sa xa.length xa.length, .bool ba, .slice sa' xa'.length xa'.length, .bool ba'] 30)).alloc (.cells #[.slice sb xb.length xb.length, .bool bb, .slice sb' xb'.length xb'.length, .bool bb'] 30)) (.cells #[.slice none 0 0, .bool false, .slice none 0 0, .bool false] 30) (w.heap.size + 1 + 1) (by simp))
    have qa : RatV (((w.alloc (.cells #[.slice sa xa.length xa.length, .bool ba, .slice sa' xa'.length xa'.length, .bool ba'] 30)).alloc (.cells #[.slice sb xb.length xb.length, .bool bb, .slice sb' xb'.length xb'.length, .bool bb'] 30)).alloc (.cells #[.slice none 0 0, .bool false, .slice none 0 0, .bool false] 30)) (.agg #[.slice sa xa.length xa.length, .bool ba, .slice sa' xa'.length xa'.length, .bool ba']) (r) := ⟨sa, xa, ba, sa', xa', ba', rfl, ha.kept hG, ha'.kept hG⟩
    have ia : IntV (((w.alloc (.cells #[.slice sa xa.length xa.length, .bool ba, .slice sa' xa'.length xa'.length, .bool ba'] 30)).alloc (.cells #[.slice sb xb.length xb.length, .bool bb, .slice sb' xb'.length xb'.length, .bool bb'] 30)).alloc (.cells #[.slice none 0 0, .bool false, .slice none 0 0, .bool false] 30)) (.agg #[.slice sa xa.length xa.length, .bool ba]) (r).num := ha.kept hG
    have ia' : IntV (((w.alloc (.cells #[.slice sa xa.length xa.length, .bool ba, .slice sa' xa'.length xa'.length, .bool ba'] 30)).alloc (.cells #[.slice sb xb.length xb.length, .bool bb, .slice sb' xb'.length xb'.length, .bool bb'] 30)).alloc (.cells #[.slice none 0 0, .bool false, .slice none 0 0, .bool false] 30)) (.agg #[.slice sa' xa'.length xa'.length, .bool ba']) (dn (r)) := ha'.kept hG
    have qb : RatV (((w.alloc (.cells #[.slice sa xa.length xa.length, .bool ba, .slice sa' xa'.length xa'.length, .bool ba'] 30)).alloc (.cells #[.slice sb xb.length xb.length, .bool bb, .slice sb' xb'.length xb'.length, .bool bb'] 30)).alloc (.cells #[.slice none 0 0, .bool false, .slice none 0 0, .bool false] 30)) (.agg #[.slice sb xb.length xb.length, .bool bb, .slice sb' xb'.length xb'.length, .bool bb']) (t) := ⟨sb, xb, bb, sb', xb', bb', rfl, hb.kept hG, hb'.kept hG⟩
    have ib : IntV (((w.alloc (.cells #[.slice sa xa.length xa.length, .bool ba, .slice sa' xa'.length xa'.length, .bool ba'] 30)).alloc (.cells #[.slice sb xb.length xb.length, .bool bb, .slice sb' xb'.length xb'.length, .bool bb'] 30)).alloc (.cells #[.slice none 0 0, .bool false, .slice none 0 0, .bool false] 30)) (.agg #[.slice sb xb.length xb.length, .bool bb]) (t).num := hb.kept hG
    have ib' : IntV (((w.alloc (.cells #[.slice sa xa.length xa.length, .bool ba, .slice sa' xa'.length xa'.length, .bool ba'] 30)).alloc (.cells #[.slice sb xb.length xb.length, .bool bb, .slice sb' xb'.length xb'.length, .bool bb'] 30)).alloc (.cells #[.slice none 0 0, .bool false, .slice none 0 0, .bool false] 30)) (.agg #[.slice sb' xb'.length xb'.length, .bool bb']) (dn (t)) := hb'.kept hG
    have oa : RatV w (.agg #[.slice sa xa.length xa.length, .bool ba, .slice sa' xa'.length xa'.length, .bool ba']) (r) := ⟨sa, xa, ba, sa', xa', ba', rfl, ha, ha'⟩
    clear ha ha'
    have ob : RatV w (.agg #[.slice sb xb.length xb.length, .bool bb, .slice sb' xb'.length xb'.length, .bool bb']) (t) := ⟨sb, xb, bb, sb', xb', bb', rfl, hb, hb'⟩
    clear hb hb'
    go_enter Tryd.func20, Tryd.ntmps20
    obtain ⟨Ca0, Ca1, Ca2, Ca3, Fa0, Fa1, Fa2, Fa3⟩ := box_cells4 Ba
    obtain ⟨Cb0, Cb1, Cb2, Cb3, Fb0, Fb1, Fb2, Fb3⟩ := box_cells4 Bb
    obtain ⟨Cq0, Cq1, Cq2, Cq3, Fq0, Fq1, Fq2, Fq3⟩ := box_cells4 Bq
    go_wp2_with fail
    generalize (((w.alloc (.cells #[.slice sa xa.length xa.length, .bool ba, .slice sa' xa'.length xa'.length, .bool ba'] 30)).alloc (.cells #[.slice sb xb.length xb.length, .bool bb, .slice sb' xb'.length xb'.length, .bool bb'] 30)).alloc (.cells #[.slice none 0 0, .bool false, .slice none 0 0, .bool false] 30)) = w0 at *
    clear Ca0 Fa0 Ca1 Fa1 Ca2 Fa2 Ca3 Fa3 Cb0 Fb0 Cb1 Fb1 Cb2 Fb2 Cb3 Fb3 Cq0 Fq0 Cq1 Fq1 Cq2 Fq2 Cq3 Fq3
    refine (FWhole_any w0 _ r K qa (by omega) Hld.out).mono ?_
    rintro e c2w1 ⟨rfl, gc2w1⟩
    rw [HO1.out]
    replace Ba := heap_kept gc2w1 Ba
    replace Bb := heap_kept gc2w1 Bb
    replace Bq := heap_kept gc2w1 Bq
    replace qa := qa.kept gc2w1
    replace ia := ia.kept gc2w1
    replace ia' := ia'.kept gc2w1
    replace qb := qb.kept gc2w1
    replace ib := ib.kept gc2w1
    replace ib' := ib'.kept gc2w1
    replace hG := grown_trans hG gc2w1
    clear gc2w1
    obtain ⟨Ca0, Ca1, Ca2, Ca3, Fa0, Fa1, Fa2, Fa3⟩ := box_cells4 Ba
    obtain ⟨Cb0, Cb1, Cb2, Cb3, Fb0, Fb1, Fb2, Fb3⟩ := box_cells4 Bb
    obtain ⟨Cq0, Cq1, Cq2, Cq3, Fq0, Fq1, Fq2, Fq3⟩ := box_cells4 Bq
    go_wp2_with fail
    have HT3 : Hid (∀ W, c2w1.grownBy W none → Tab W) := fun W hW => HTB.out _ (grown_trans hG hW)
    go_region_held3 (fun w' => w'.cell? ⟨w.heap.size, 0, none⟩ = some (.slice sa xa.length xa.length) ∧ w'.cell? ⟨w.heap.size, 1, none⟩ = some (.bool ba) ∧ w'.cell? ⟨w.heap.size, 2, none⟩ = some (.slice sa' xa'.length xa'.length) ∧ w'.cell? ⟨w.heap.size, 3, none⟩ = some (.bool ba') ∧ w'.cell? ⟨w.heap.size + 1, 0, none⟩ = some (.slice sb xb.length xb.length) ∧ w'.cell? ⟨w.heap.size + 1, 1, none⟩ = some (.bool bb) ∧ w'.cell? ⟨w.heap.size + 1, 2, none⟩ = some (.slice sb' xb'.length xb'.length) ∧ w'.cell? ⟨w.heap.size + 1, 3, none⟩ = some (.bool bb'))
      (first | assumption | exact ⟨Ca0, Ca1, Ca2, Ca3, Cb0, Cb1, Cb2, Cb3⟩ | exact HSc2w2_30 | go_keep)
      (first
        | (go_at_call 43; (with_reducible refine (FUnder_any c2w1.drew _ r K (qa.kept (grown_drew (grown_refl _ _))) (by omega) Hld.out).mono ?_); rintro e c2w2_1 ⟨v1, rfl, n1, gc2w2_1⟩; have hGc2w2_1 := grown_pre c2w1 gc2w2_1 rfl rfl rfl rfl; have hSc2w2_1 := (And.intro (hGc2w2_1.cell Ca0 (by simp)) (And.intro (hGc2w2_1.cell Ca1 (by simp)) (And.intro (hGc2w2_1.cell Ca2 (by simp)) (And.intro (hGc2w2_1.cell Ca3 (by simp)) (And.intro (hGc2w2_1.cell Cb0 (by simp)) (And.intro (hGc2w2_1.cell Cb1 (by simp)) (And.intro (hGc2w2_1.cell Cb2 (by simp)) (hGc2w2_1.cell Cb3 (by simp))))))))); clear gc2w2_1)
        | (go_at_call 43; (with_reducible refine (FUnder_any c2w2_1 _ t K (qb.kept hGc2w2_1) (by omega) Hmd.out).mono ?_); rintro e c2w2_2 ⟨v2, rfl, n2, gc2w2_2⟩; have hGc2w2_2 := grown_trans hGc2w2_1 gc2w2_2; replace n1 := n1.kept gc2w2_2; have hSc2w2_2 := (And.intro (hGc2w2_2.cell Ca0 (by simp)) (And.intro (hGc2w2_2.cell Ca1 (by simp)) (And.intro (hGc2w2_2.cell Ca2 (by simp)) (And.intro (hGc2w2_2.cell Ca3 (by simp)) (And.intro (hGc2w2_2.cell Cb0 (by simp)) (And.intro (hGc2w2_2.cell Cb1 (by simp)) (And.intro (hGc2w2_2.cell Cb2 (by simp)) (hGc2w2_2.cell Cb3 (by simp))))))))); clear gc2w2_2)
        | (go_at_call 46; (with_reducible refine (FProduct_any c2w2_2 _ _ _ _ r t K (ia.kept hGc2w2_2) n1 (ib.kept hGc2w2_2) n2 (by omega) Hln.out Hld.out Hmn.out Hmd.out (HT3.out _ hGc2w2_2)).mono ?_); rintro e c2w2_3 ⟨_, rfl, ⟨sd, xd, bd, sd', xd', bd', rfl, hd, hd'⟩, gc2w2_3⟩; have hGc2w2_3 := grown_trans hGc2w2_2 gc2w2_3; replace n1 := n1.kept gc2w2_3; replace n2 := n2.kept gc2w2_3; have qd : RatV c2w2_3 (.agg #[.slice sd xd.length xd.length, .bool bd, .slice sd' xd'.length xd'.length, .bool bd']) (r * t) := ⟨sd, xd, bd, sd', xd', bd', rfl, hd, hd'⟩; have hSc2w2_3 := (And.intro (hGc2w2_3.cell Ca0 (by simp)) (And.intro (hGc2w2_3.cell Ca1 (by simp)) (And.intro (hGc2w2_3.cell Ca2 (by simp)) (And.intro (hGc2w2_3.cell Ca3 (by simp)) (And.intro (hGc2w2_3.cell Cb0 (by simp)) (And.intro (hGc2w2_3.cell Cb1 (by simp)) (And.intro (hGc2w2_3.cell Cb2 (by simp)) (hGc2w2_3.cell Cb3 (by simp))))))))); clear gc2w2_3; clear hd hd'; (obtain ⟨dq0, dq1, dq2, dq3, dq4, dq5, dq6, dq7⟩ := box_cells4 (heap_kept hGc2w2_3 Bq)); have HSc2w2_30 := (And.intro ((box_cells4 (heap_unset4 (heap_kept hGc2w2_3 Ba) (show w.heap.size ≠ w.heap.size + 1 + 1 by omega) (.slice sd xd.length xd.length) (.bool bd) (.slice sd' xd'.length xd'.length) (.bool bd'))).1) (And.intro ((box_cells4 (heap_unset4 (heap_kept hGc2w2_3 Ba) (show w.heap.size ≠ w.heap.size + 1 + 1 by omega) (.slice sd xd.length xd.length) (.bool bd) (.slice sd' xd'.length xd'.length) (.bool bd'))).2.1) (And.intro ((box_cells4 (heap_unset4 (heap_kept hGc2w2_3 Ba) (show w.heap.size ≠ w.heap.size + 1 + 1 by omega) (.slice sd xd.length xd.length) (.bool bd) (.slice sd' xd'.length xd'.length) (.bool bd'))).2.2.1) (And.intro ((box_cells4 (heap_unset4 (heap_kept hGc2w2_3 Ba) (show w.heap.size ≠ w.heap.size + 1 + 1 by omega) (.slice sd xd.length xd.length) (.bool bd) (.slice sd' xd'.length xd'.length) (.bool bd'))).2.2.2.1) (And.intro ((box_cells4 (heap_unset4 (heap_kept hGc2w2_3 Bb) (show w.heap.size + 1 ≠ w.heap.size + 1 + 1 by omega) (.slice sd xd.length xd.length) (.bool bd) (.slice sd' xd'.length xd'.length) (.bool bd'))).1) (And.intro ((box_cells4 (heap_unset4 (heap_kept hGc2w2_3 Bb) (show w.heap.size + 1 ≠ w.heap.size + 1 + 1 by omega) (.slice sd xd.length xd.length) (.bool bd) (.slice sd' xd'.length xd'.length) (.bool bd'))).2.1) (And.intro ((box_cells4 (heap_unset4 (heap_kept hGc2w2_3 Bb) (show w.heap.size + 1 ≠ w.heap.size + 1 + 1 by omega) (.slice sd xd.length xd.length) (.bool bd) (.slice sd' xd'.length xd'.length) (.bool bd'))).2.2.1) ((box_cells4 (heap_unset4 (heap_kept hGc2w2_3 Bb) (show w.heap.size + 1 ≠ w.heap.size + 1 + 1 by omega) (.slice sd xd.length xd.length) (.bool bd) (.slice sd' xd'.length xd'.length) (.bool bd'))).2.2.2.1))))))))))
    replace Ba := heap_kept hGc2w2_3 Ba
    replace Bb := heap_kept hGc2w2_3 Bb
    replace Bq := heap_kept hGc2w2_3 Bq
    replace qa := qa.kept hGc2w2_3
    replace ia := ia.kept hGc2w2_3
    replace ia' := ia'.kept hGc2w2_3
    replace qb := qb.kept hGc2w2_3
    replace ib := ib.kept hGc2w2_3
    replace ib' := ib'.kept hGc2w2_3
    replace hG := grown_trans hG hGc2w2_3
    clear Ca0 Fa0 Ca1 Fa1 Ca2 Fa2 Ca3 Fa3 Cb0 Fb0 Cb1 Fb1 Cb2 Fb2 Cb3 Fb3 Cq0 Fq0 Cq1 Fq1 Cq2 Fq2 Cq3 Fq3
    obtain ⟨k90, k91, k92, k93, k94, k95, k96, k97⟩ := box_cells4 Bq
    obtain ⟨q90, q91, q92, q93, q94, q95, q96, q97⟩ := box_cells4 (heap_set4 Bq (.slice sd xd.length xd.length) (.bool bd) (.slice sd' xd'.length xd'.length) (.bool bd'))
    have hF : Hid (RetRat w (r * t) (.returned (.agg #[.slice sd xd.length xd.length, .bool bd, .slice sd' xd'.length xd'.length, .bool bd'])) ((((c2w2_3.setCell ⟨w.heap.size + 1 + 1, 0, none⟩ (.slice sd xd.length xd.length)).setCell ⟨w.heap.size + 1 + 1, 1, none⟩ (.bool bd)).setCell ⟨w.heap.size + 1 + 1, 2, none⟩ (.slice sd' xd'.length xd'.length)).setCell ⟨w.heap.size + 1 + 1, 3, none⟩ (.bool bd'))) := ret_ratv hG Bq (by omega) qd
    clear qa ia ia' qb ib ib' n1 n2 qd
    go_wp2_with fail
    exact bodyPost_ret (v := .agg #[.slice sd xd.length xd.length, .bool bd, .slice sd' xd'.length xd'.length, .bool bd']) (by simp [results, Tryd.results20, go_sem, q90, q91, q92, q93]) rfl hF.out
end Go.Proofs.YtldkddogadmpbaaDoor
namespace Go.Proofs.YtldkddogadmpbaaDoor
open Go.RowKit Mat
set_option maxRecDepth 100000
set_option linter.unusedVariables false
set_option linter.unusedSimpArgs false
def ByBlk (w : World) (g : Nat) (l : List Nat) : Prop := (∃ cur, w.heap[g]? = some (.cells cur 5 (0, 0)) ∧ ∀ i (h : i < l.length), cur[i]? = some (.int .u8 (l[i] : Int))) ∧ ∀ x ∈ l, x < 256
theorem ByBlk.kept {w W : World} {g : Nat} {l : List Nat} (h : ByBlk w g l) (hg : w.grownBy W none) : ByBlk W g l :=
  ⟨h.1.imp fun cur hc => ⟨heap_kept hg hc.1, hc.2⟩, h.2⟩
theorem ByBlk.cell {w : World} {g : Nat} {l : List Nat} (h : ByBlk w g l) (i : Nat) (hi : i < l.length) : w.cell? ⟨g, i, none⟩ = some (.int .u8 (l[i] : Int)) := by
  obtain ⟨⟨cur, h1, h2⟩, _⟩ := h
  simp [World.cell?, h1, h2 i hi]
theorem ByBlk.free {w : World} {g : Nat} {l : List Nat} (h : ByBlk w g l) (i : Nat) : w.frozen? ⟨g, i, none⟩ = false := by
  obtain ⟨⟨cur, h1, h2⟩, _⟩ := h
  simp [World.frozen?, h1]
theorem ByBlk.sl {w : World} {g : Nat} {l : List Nat} (h : ByBlk w g l) : BySl w (some ⟨g, 0, none⟩) l := by
  refine ⟨Or.inr ⟨_, rfl, fun i hi => ?_⟩, h.2⟩
  have e : (⟨g, 0, none⟩ : Addr).add i = ⟨g, i, none⟩ := by unfold Addr.add; split <;> simp_all
  rw [e]; exact h.cell i hi
theorem ByBlk.lt {w : World} {g : Nat} {l : List Nat} (h : ByBlk w g l) : g < w.heap.size := by
  obtain ⟨⟨cur, h1, h2⟩, _⟩ := h
  exact (Array.getElem?_eq_some_iff.1 h1).1
theorem ByBlk.set {w : World} {g : Nat} {x y : Nat} {t : List Nat} (h : ByBlk w g (x :: t)) (hy : y < 256) : ByBlk (w.setCell ⟨g, 0, none⟩ (.int .u8 (y : Int))) g (y :: t) := by
  obtain ⟨⟨cur, h1, h2⟩, h3⟩ := h
  refine ⟨⟨cur.setIfInBounds 0 (.int .u8 (y : Int)), by simp [World.setCell, Array.getElem?_modify, h1], fun i hi => ?_⟩, fun z hz => ?_⟩
  · have h0 := h2 0 (by simp)
    have hl := (Array.getElem?_eq_some_iff.1 h0).1
    cases i with
    | zero => rw [Array.getElem?_setIfInBounds_self_of_lt hl]; rfl
    | succ i => rw [Array.getElem?_setIfInBounds_ne (by omega)]; exact h2 (i + 1) hi
  · rcases List.mem_cons.1 hz with rfl | hz
    · exact hy
    · exact h3 z (List.mem_cons_of_mem _ hz)
theorem ByBlk.unset {w : World} {g k : Nat} {l : List Nat} (h : ByBlk w g l) (hne : g ≠ k) (v : Value) : ByBlk (w.setCell ⟨k, 0, none⟩ v) g l :=
  ⟨h.1.imp fun cur hc => ⟨heap_unset hc.1 hne v, hc.2⟩, h.2⟩
theorem RatV.setu {w : World} {v : Value} {r : Rat} {g : Nat} {l : List Nat} (h : RatV w v r) (hb : ByBlk w g l) (u : Value) : RatV (w.setCell ⟨g, 0, none⟩ u) v r := by
  obtain ⟨⟨cur, h1, h2⟩, _⟩ := hb
  obtain ⟨s, xs, b, s', xs', b', e, i1, i2⟩ := h
  exact ⟨s, xs, b, s', xs', b', e, i1.set_other h1 (by decide) 0 u, i2.set_other h1 (by decide) 0 u⟩
theorem own_blk {w : World} {base g n cap : Nat} {l : List Nat} (h : w.ownsRow base 5 1 (.slice (some ⟨g, 0, none⟩) n cap) n (bvs l)) (hn : l.length = n) (hd : ∀ x ∈ l, x < 256) : ByBlk w g l := by
  obtain ⟨_, h⟩ := h
  rcases h with ⟨e, _⟩ | ⟨g', c1, cur, e, hb, hc, hc1, hc2, hsz, htk⟩
  · cases e
  · cases e
    refine ⟨⟨cur, hc, fun i hi => ?_⟩, hd⟩
    have h1 : (bvs l)[i]? = some (.int .u8 (l[i] : Int)) := by simp [bvs, List.getElem?_eq_getElem hi]
    rw [← htk, List.getElem?_take_of_lt (by omega)] at h1
    simpa using h1
def RetCopyB (w : World) (l : List Nat) (e : Ending) (w' : World) : Prop := ∃ g cap, e = .returned (.slice (some ⟨g, 0, none⟩) 8 cap) ∧ ByBlk w' g l ∧ w.heap.size ≤ g ∧ 8 ≤ cap ∧ cap ≤ 9223372036854775807 ∧ w.grownBy w' none
set_option maxHeartbeats 16000000 in
theorem copied_blk (w : World) (a : Addr) (n cap : Nat) (l : List Nat) (hn : l.length = n) (hl : BySl w (some a) l) (h64 : n = 8) :
    Calls Tryd.prog 7 #[.slice (some a) n cap] w (RetCopyB w l) := by
  obtain ⟨i1, hi, hz0, hz1, hz2⟩ := info_partsU
  have hG := World.grownBy_alloc w (.cells #[] 5) none
  have HO := Lib.hid (own_empty w)
  have hs1 : (w.alloc (.cells #[] 5)).heap.size = w.heap.size + 1 := by simp
  have HSZ := Lib.hid hs1
  clear hs1
  have hnews : ∀ j u, (bvs l)[j]? = some u → w.cell? (a.add j) = some u := fun j u hj => by
    obtain ⟨h1, h2⟩ := hl
    have hj2 : j < l.length := by
      rcases Nat.lt_or_ge j l.length with h | h
      · exact h
      · rw [List.getElem?_eq_none (by simpa [bvs] using h)] at hj; cases hj
    rcases h1 with rfl | ⟨a', e, hc⟩
    · simp at hj2
    · cases e
      simp [bvs, List.getElem?_eq_getElem hj2] at hj
      rw [hc j hj2, hj]
  have HW : Hid (∀ j u, (bvs l)[j]? = some u → (w.alloc (.cells #[] 5)).cell? (a.add j) = some u) := Lib.hid fun j u hj => hG.cell (hnews j u hj) (by simp)
  have H1 : Hid (∀ u ∈ bvs l, u.oneCell' = true) := Lib.hid fun u hu => by
    unfold bvs at hu
    rw [List.mem_map] at hu
    obtain ⟨x, _, rfl⟩ := hu
    rfl
  have HLN : Hid ((bvs l).length = n * 1) := Lib.hid (by unfold bvs; rw [List.length_map, hn, Nat.mul_one])
  have HL := Lib.hid hl
  have HN := Lib.hid hn
  clear hnews hl hn
  go_enter Tryd.func7, Tryd.ntmps7
  go_wp2_with (at_builtin; refine wpList_append_own _ rfl (.tmp 3) (.tmp 4) 22 rfl w.heap.size 5 i1 (.int .u8 0) 1 1 Tryd.underlying22 hi hz0 hz1 hz2 rfl (by decide) (.slice (some ⟨w.heap.size, 0, none⟩) 0 0) 0 [] rfl HO.out a n cap (bvs l) rfl HLN.out HW.out H1.out (by unfold maxLen; omega) (by omega) (by simp) ?_)
  intro v1 w1 hown1 hgrow1 hnil1
  have hg1 : w.grownBy w1 none := grown_new (g := w.heap.size) hG hgrow1 (Nat.le_refl _)
  have hF : Hid (RetCopyB w l (.returned v1) w1) := by
    have hown2 := hown1
    try simp only [List.nil_append, Nat.zero_add] at hown2
    have hown3 := hown2
    obtain ⟨_, h⟩ := hown2
    rcases h with ⟨e, _⟩ | ⟨g, c1, cur, rfl, hb, _, hc1, hc2, _⟩
    · exact absurd e (fun e => by first | exact hnil1 e | (have := (hnil1.1 e).1; cases this))
    · have hg : g = w.heap.size ∨ True := Or.inr trivial
      have hbb : w.heap.size ≤ g := hb
      have hb9 := own_blk hown3 (by first | exact HN.out | (rw [HN.out]; omega) | omega) HL.out.2
      exact ⟨g, c1, by first | rfl | rw [h64], hb9, hbb, by omega, hc2, hg1⟩
  clear hown1 hgrow1 hnil1 hg1 HL HN HW H1 HLN HO
  go_wp2_with fail
  go_ret
  exact hF.out
end Go.Proofs.YtldkddogadmpbaaDoor
namespace Go.Proofs.YtldkddogadmpbaaDoor
open Go.RowKit Mat
set_option maxRecDepth 100000
set_option linter.unusedVariables false
set_option linter.unusedSimpArgs false
def RetInt2 (w : World) (n k : Int) (e : Ending) (w' : World) : Prop := ∃ v u, e = .returned (.tuple #[v, u]) ∧ IntV w' v n ∧ IntV w' u k ∧ w.grownBy w' none
theorem BoxZ.mk {W : World} {p : Nat} {z : Int} {s : Option Addr} {xs : List Nat} {b : Bool} (h : W.heap[p]? = some (.cells #[.slice s xs.length xs.length, .bool b] 28 (0, 0))) (i : IntV W (.agg #[.slice s xs.length xs.length, .bool b]) z) : BoxZ W p z := ⟨_, _, _, h, i⟩
theorem BoxZ.kept {W W' : World} {p : Nat} {z : Int} (h : BoxZ W p z) (g : W.grownBy W' none) : BoxZ W' p z := by
  obtain ⟨s, xs, b, h1, h2⟩ := h
  exact ⟨s, xs, b, heap_kept g h1, h2.kept g⟩
end Go.Proofs.YtldkddogadmpbaaDoor
namespace Go.Proofs.YtldkddogadmpbaaDoor
open Go.RowKit Mat
set_option maxRecDepth 100000
set_option linter.unusedVariables false
set_option linter.unusedSimpArgs false
theorem RQ.sign {w : World} {g g' : Int} {s s' : Option Addr} {l c l' c' : Nat} {r : Rat} {E : Nat} (h : RQ w (.agg #[.int .i64 g, .slice s l c, .int .i64 g', .slice s' l' c']) r E) : Hid (g = r.num.sign) := by
  obtain ⟨g1, s1, l1, c1, g2, s2, l2, c2, n, d, e, h1, h2, h3⟩ := h
  cases e
  exact h1.nat.2.out.trans (rq_sign h3.out.1 h3.out.2.1)
theorem qden_bd (z : Int) (r : Rat) {k : Nat} (h : z = (r.den : Int)) (hz : z.natAbs < B ^ k) : r.den < B ^ k := by rw [h, Int.natAbs_natCast] at hz; exact hz
theorem qadd_nb {a b : Rat} {k m : Nat} (h1 : a.num.natAbs < B ^ k) (h2 : a.den < B ^ k) (h3 : b.num.natAbs < B ^ m) (h4 : b.den < B ^ m) : (a + b).num.natAbs < B ^ (k + m + 1) := by
  rw [Rat.add_def', ← Rat.divInt_ofNat]
  refine rdiv_nb ?_
  have e1 : (a.num * (b.den : Int)).natAbs < B ^ (k + m) := zmul_bd h1 (by rw [Int.natAbs_natCast]; exact h4)
  have e2 : (b.num * (a.den : Int)).natAbs < B ^ (k + m) := by rw [Nat.add_comm k m]; exact zmul_bd h3 (by rw [Int.natAbs_natCast]; exact h2)
  exact zadd_bd e1 e2
theorem qmulden {a b k m : Nat} (h1 : a < B ^ k) (h2 : b < B ^ m) : a * b < B ^ (k + m) := by rw [Nat.pow_add]; exact Nat.mul_lt_mul'' h1 h2
theorem qadd_db {a b : Rat} {k m : Nat} (h2 : a.den < B ^ k) (h4 : b.den < B ^ m) : (a + b).den < B ^ (k + m + 1) := by
  rw [Rat.add_def', ← Rat.divInt_ofNat]
  refine rdiv_db (by rw [Int.natAbs_natCast]; exact bw (qmulden h2 h4) (by omega)) ?_
  have := a.den_pos; have := b.den_pos
  have := Nat.mul_pos a.den_pos b.den_pos
  omega
theorem qneg_nb {a : Rat} {k : Nat} (h1 : a.num.natAbs < B ^ k) : (-a).num.natAbs < B ^ k := by rw [Rat.neg_num, Int.natAbs_neg]; exact h1
theorem qneg_db {a : Rat} {k : Nat} (h1 : a.den < B ^ k) : (-a).den < B ^ k := by rw [Rat.neg_den]; exact h1
theorem qsub_nb {a b : Rat} {k m : Nat} (h1 : a.num.natAbs < B ^ k) (h2 : a.den < B ^ k) (h3 : b.num.natAbs < B ^ m) (h4 : b.den < B ^ m) : (a - b).num.natAbs < B ^ (k + m + 1) := by
  rw [Rat.sub_eq_add_neg]; exact qadd_nb h1 h2 (qneg_nb h3) (qneg_db h4)
theorem qsub_db {a b : Rat} {k m : Nat} (h2 : a.den < B ^ k) (h4 : b.den < B ^ m) : (a - b).den < B ^ (k + m + 1) := by
  rw [Rat.sub_eq_add_neg]; exact qadd_db h2 (qneg_db h4)
theorem qmul_nb {a b : Rat} {k m : Nat} (h1 : a.num.natAbs < B ^ k) (h3 : b.num.natAbs < B ^ m) : (a * b).num.natAbs < B ^ (k + m) := by
  rw [Rat.mul_def', ← Rat.divInt_ofNat]; exact rdiv_nb (zmul_bd h1 h3)
theorem qmul_db {a b : Rat} {k m : Nat} (h2 : a.den < B ^ k) (h4 : b.den < B ^ m) : (a * b).den < B ^ (k + m) := by
  rw [Rat.mul_def', ← Rat.divInt_ofNat]
  refine rdiv_db (by rw [Int.natAbs_natCast]; exact qmulden h2 h4) ?_
  have := Nat.mul_pos a.den_pos b.den_pos
  omega
theorem qdiv_nb {a b : Rat} {k m : Nat} (h1 : a.num.natAbs < B ^ k) (h4 : b.den < B ^ m) : (a / b).num.natAbs < B ^ (k + m) := by
  have e : a / b = Rat.divInt (a.num * (b.den : Int)) ((a.den : Int) * b.num) := by
    rw [← rq_div (rat_divInt a) (rat_divInt b)]
  rw [e]; exact rdiv_nb (zmul_bd h1 (by rw [Int.natAbs_natCast]; exact h4))
theorem qdiv_db {a b : Rat} {k m : Nat} (h2 : a.den < B ^ k) (h3 : b.num.natAbs < B ^ m) (h0 : b ≠ 0) : (a / b).den < B ^ (k + m) := by
  have e : a / b = Rat.divInt (a.num * (b.den : Int)) ((a.den : Int) * b.num) := by
    rw [← rq_div (rat_divInt a) (rat_divInt b)]
  rw [e]
  refine rdiv_db (zmul_bd (by rw [Int.natAbs_natCast]; exact h2) h3) (Int.mul_ne_zero ?_ ?_)
  · have := a.den_pos; omega
  · intro h; exact h0 (Rat.num_eq_zero.1 h)
theorem qint_nb {z : Int} {k : Nat} (h : z.natAbs < B ^ k) : ((z : Rat)).num.natAbs < B ^ k := h
theorem qint_db {z : Int} {k : Nat} (h : 1 ≤ k) : ((z : Rat)).den < B ^ k := Nat.lt_of_lt_of_le (show 1 < B ^ 1 by unfold B; omega) (Nat.pow_le_pow_right B_pos h)
theorem qfloor_bd {r : Rat} {k : Nat} (h : r.num.natAbs < B ^ k) : r.floor.natAbs < B ^ k := by
  rw [Rat.floor_def]; exact Nat.lt_of_le_of_lt (Int.natAbs_ediv_le_natAbs _ _) h
theorem qnear_bd {r : Rat} {k : Nat} (h : r.num.natAbs < B ^ k) (hk : 1 ≤ k) : (rnear r).natAbs < B ^ (k + 1) := by
  have h0 := qfloor_bd h
  have h1 : (1 : Int).natAbs < B ^ k := Nat.lt_of_lt_of_le (show 1 < B ^ 1 by unfold B; omega) (Nat.pow_le_pow_right B_pos hk)
  rcases rnear_beside r with ⟨_, e⟩ | ⟨_, e⟩
  · rw [e]; exact bw h0 (by omega)
  · rw [e]; exact zadd_bd h0 h1
end Go.Proofs.YtldkddogadmpbaaDoor
