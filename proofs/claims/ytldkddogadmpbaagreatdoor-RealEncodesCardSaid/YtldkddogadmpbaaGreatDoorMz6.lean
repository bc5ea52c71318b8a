/- What the laws lean on, part 6. -/
import Derived.Deep.RegionHeld3
import Derived.Test.YtldkddogadmpbaaGreatDoorMz3
import Derived.Test.YtldkddogadmpbaaGreatDoorMz5
namespace Go.Proofs.YtldkddogadmpbaaGreatDoor
open Go.RowKit Mat
set_option maxRecDepth 100000
set_option linter.unusedVariables false
set_option linter.unusedSimpArgs false
theorem ztext_uniq {s t : ByteArray} {z : Int} (hs : ZTextOf s z) (ht : ZTextOf t z) : s = t := by
  obtain ⟨l, hl, vl, el⟩ := hs
  obtain ⟨m, hm, vm, em⟩ := ht
  have : l = m := dec_uniqL hl hm (vl.trans vm.symm)
  subst this
  exact bts_inj (el.trans em.symm)
theorem NZText_any (w : World) (va : Value) (z : Int) (K : Nat) (ha : IntV w va z) (hK : K ≤ 900000) (la : z.natAbs < B ^ K) :
    Calls Tryz.prog 56 #[va] w (RetZText w z) := ZText_any w va z K ha hK la
theorem ztext_len {s : ByteArray} {z : Int} {K : Nat} (h : ZTextOf s z) (la : z.natAbs < B ^ K) : s.size ≤ 20 * K + 2 := by
  obtain ⟨l, hl, vl, el⟩ := h
  have h1 : l.length ≤ 20 * K + 1 := by
    refine dec_len hl ?_ (by omega)
    rw [vl]
    refine Nat.lt_of_lt_of_le la ?_
    have q1 : B ^ K ≤ (10 ^ 20) ^ K := Nat.pow_le_pow_left (by decide) K
    rw [← Nat.pow_mul] at q1
    exact Nat.le_trans q1 (Nat.pow_le_pow_right (by omega) (by omega))
  have h2 := congrArg List.length el
  rw [bts_len] at h2
  rw [h2]
  split
  · rw [List.length_cons]; omega
  · omega
theorem ztext_sh1 {a K : Nat} (h : a ≤ 20 * K + 2) (hK : K ≤ 800000) : ¬ (9223372036854775807 < a + 1) := by omega
theorem ztext_sh2 {a b K : Nat} (h : a ≤ 20 * K + 2) (h' : b ≤ 20 * K + 2) (hK : K ≤ 800000) : ¬ (9223372036854775807 < a + 1 + b) := by omega
def RTextOf (s : ByteArray) (r : Rat) : Prop := (r.den = 1 ∧ ZTextOf s r.num) ∨ (r.den ≠ 1 ∧ ∃ p q : ByteArray, ZTextOf p r.num ∧ ZTextOf q (r.den : Int) ∧ s = p ++ { data := #[47] } ++ q)
theorem rtext_uniq {s t : ByteArray} {r : Rat} (hs : RTextOf s r) (ht : RTextOf t r) : s = t := by
  rcases hs with ⟨h1, h2⟩ | ⟨h1, p, q, h2, h3, h4⟩
  · rcases ht with ⟨g1, g2⟩ | ⟨g1, _⟩
    · exact ztext_uniq h2 g2
    · exact absurd h1 g1
  · rcases ht with ⟨g1, g2⟩ | ⟨g1, p', q', g2, g3, g4⟩
    · exact absurd g1 h1
    · rw [h4, g4, ztext_uniq h2 g2, ztext_uniq h3 g3]
def RetRText (w : World) (r : Rat) (e : Ending) (w' : World) : Prop := ∃ s, e = .returned (.string s) ∧ RTextOf s r ∧ w.grownBy w' none
set_option maxHeartbeats 16000000 in
theorem FText_any (w : World) (va : Value) (r : Rat) (K : Nat) (Ha : RatV w va r) (hK : K ≤ 800000) (ln : r.num.natAbs < B ^ K) (ld : r.den < B ^ K) :
    Calls Tryz.prog 24 #[va] w (RetRText w r) := by
  have HD : Hid ((r.den : Int).natAbs < B ^ K) := by show _ < _; rw [Int.natAbs_natCast]; exact ld
  have HDN : Hid (¬ r.den = 1 → dn r = (r.den : Int)) := fun h => by unfold dn; rw [if_neg h]
  have Hln := Lib.hid ln
  have Hld := Lib.hid ld
  clear ln ld
  by_cases h1 : r.den = 1
  · skip
    have H1 := Lib.hid h1
    have hd : decide (r.den = 1) = true := decide_eq_true h1
    have HDE := Lib.hid hd
    clear h1 hd
    obtain ⟨sa, xa, ba, sa', xa', ba', rfl, ha, ha'⟩ := Ha
    have hG : w.grownBy (w.alloc (.cells #[.slice sa xa.length xa.length, .bool ba, .slice sa' xa'.length xa'.length, .bool ba'] 28)) none := (World.grownBy_alloc _ _ _)
    have Ba := (heap_new w (.cells #[.slice sa xa.length xa.length, .bool ba, .slice sa' xa'.length xa'.length, .bool ba'] 28) (w.heap.size) rfl)
    have qa : RatV (w.alloc (.cells #[.slice sa xa.length xa.length, .bool ba, .slice sa' xa'.length xa'.length, .bool ba'] 28)) (.agg #[.slice sa xa.length xa.length, .bool ba, .slice sa' xa'.length xa'.length, .bool ba']) (r) := ⟨sa, xa, ba, sa', xa', ba', rfl, ha.kept hG, ha'.kept hG⟩
    have ia : IntV (w.alloc (.cells #[.slice sa xa.length xa.length, .bool ba, .slice sa' xa'.length xa'.length, .bool ba'] 28)) (.agg #[.slice sa xa.length xa.length, .bool ba]) (r).num := ha.kept hG
    have ia' : IntV (w.alloc (.cells #[.slice sa xa.length xa.length, .bool ba, .slice sa' xa'.length xa'.length, .bool ba'] 28)) (.agg #[.slice sa' xa'.length xa'.length, .bool ba']) (dn (r)) := ha'.kept hG
    have oa : RatV w (.agg #[.slice sa xa.length xa.length, .bool ba, .slice sa' xa'.length xa'.length, .bool ba']) (r) := ⟨sa, xa, ba, sa', xa', ba', rfl, ha, ha'⟩
    clear ha ha'
    go_enter Tryz.func24, Tryz.ntmps24
    obtain ⟨Ca0, Ca1, Ca2, Ca3, Fa0, Fa1, Fa2, Fa3⟩ := box_cells4 Ba
    go_wp2_with fail
    generalize (w.alloc (.cells #[.slice sa xa.length xa.length, .bool ba, .slice sa' xa'.length xa'.length, .bool ba'] 28)) = w0 at *
    clear Ca0 Fa0 Ca1 Fa1 Ca2 Fa2 Ca3 Fa3
    refine (FWhole_any w0 _ r K qa (by omega) Hld.out).mono ?_
    rintro e t1w1 ⟨rfl, gt1w1⟩
    rw [HDE.out]
    replace Ba := heap_kept gt1w1 Ba
    replace qa := qa.kept gt1w1
    replace ia := ia.kept gt1w1
    replace ia' := ia'.kept gt1w1
    replace hG := grown_trans hG gt1w1
    clear gt1w1
    obtain ⟨Ca0, Ca1, Ca2, Ca3, Fa0, Fa1, Fa2, Fa3⟩ := box_cells4 Ba
    go_wp2_with fail
    clear Ca0 Fa0 Ca1 Fa1 Ca2 Fa2 Ca3 Fa3
    refine (NZText_any t1w1 _ r.num K ia (by omega) Hln.out).mono ?_
    rintro e t1w2 ⟨s, rfl, hs, gt1w2⟩
    have HS := Lib.hid hs
    clear hs
    replace Ba := heap_kept gt1w2 Ba
    replace qa := qa.kept gt1w2
    replace ia := ia.kept gt1w2
    replace ia' := ia'.kept gt1w2
    replace hG := grown_trans hG gt1w2
    clear gt1w2
    obtain ⟨Ca0, Ca1, Ca2, Ca3, Fa0, Fa1, Fa2, Fa3⟩ := box_cells4 Ba
    go_wp2_with fail
    go_ret
    exact ⟨_, rfl, Or.inl ⟨H1.out, HS.out⟩, hG⟩
  · skip
    have H1 := Lib.hid h1
    have hd : decide (r.den = 1) = false := decide_eq_false h1
    have HDE := Lib.hid hd
    clear h1 hd
    obtain ⟨sa, xa, ba, sa', xa', ba', rfl, ha, ha'⟩ := Ha
    have hG : w.grownBy (w.alloc (.cells #[.slice sa xa.length xa.length, .bool ba, .slice sa' xa'.length xa'.length, .bool ba'] 28)) none := (World.grownBy_alloc _ _ _)
    have Ba := (heap_new w (.cells #[.slice sa xa.length xa.length, .bool ba, .slice sa' xa'.length xa'.length, .bool ba'] 28) (w.heap.size) rfl)
    have qa : RatV (w.alloc (.cells #[.slice sa xa.length xa.length, .bool ba, .slice sa' xa'.length xa'.length, .bool ba'] 28)) (.agg #[.slice sa xa.length xa.length, .bool ba, .slice sa' xa'.length xa'.length, .bool ba']) (r) := ⟨sa, xa, ba, sa', xa', ba', rfl, ha.kept hG, ha'.kept hG⟩
    have ia : IntV (w.alloc (.cells #[.slice sa xa.length xa.length, .bool ba, .slice sa' xa'.length xa'.length, .bool ba'] 28)) (.agg #[.slice sa xa.length xa.length, .bool ba]) (r).num := ha.kept hG
    have ia' : IntV (w.alloc (.cells #[.slice sa xa.length xa.length, .bool ba, .slice sa' xa'.length xa'.length, .bool ba'] 28)) (.agg #[.slice sa' xa'.length xa'.length, .bool ba']) (dn (r)) := ha'.kept hG
    have oa : RatV w (.agg #[.slice sa xa.length xa.length, .bool ba, .slice sa' xa'.length xa'.length, .bool ba']) (r) := ⟨sa, xa, ba, sa', xa', ba', rfl, ha, ha'⟩
    clear ha ha'
    go_enter Tryz.func24, Tryz.ntmps24
    obtain ⟨Ca0, Ca1, Ca2, Ca3, Fa0, Fa1, Fa2, Fa3⟩ := box_cells4 Ba
    go_wp2_with fail
    generalize (w.alloc (.cells #[.slice sa xa.length xa.length, .bool ba, .slice sa' xa'.length xa'.length, .bool ba'] 28)) = w0 at *
    clear Ca0 Fa0 Ca1 Fa1 Ca2 Fa2 Ca3 Fa3
    refine (FWhole_any w0 _ r K qa (by omega) Hld.out).mono ?_
    rintro e t0w1 ⟨rfl, gt0w1⟩
    rw [HDE.out]
    replace Ba := heap_kept gt0w1 Ba
    replace qa := qa.kept gt0w1
    replace ia := ia.kept gt0w1
    replace ia' := ia'.kept gt0w1
    replace hG := grown_trans hG gt0w1
    clear gt0w1
    obtain ⟨Ca0, Ca1, Ca2, Ca3, Fa0, Fa1, Fa2, Fa3⟩ := box_cells4 Ba
    go_wp2_with fail
    rw [HDN.out H1.out] at ia'
    go_region_held3 (fun w' => w'.cell? ⟨w.heap.size, 0, none⟩ = some (.slice sa xa.length xa.length) ∧ w'.cell? ⟨w.heap.size, 1, none⟩ = some (.bool ba) ∧ w'.cell? ⟨w.heap.size, 2, none⟩ = some (.slice sa' xa'.length xa'.length) ∧ w'.cell? ⟨w.heap.size, 3, none⟩ = some (.bool ba'))
      (first | assumption | exact ⟨Ca0, Ca1, Ca2, Ca3⟩ | go_keep)
      (first
        | (go_at_call 56; (with_reducible refine (NZText_any t0w1.drew _ r.num K (ia.kept (grown_drew (grown_refl _ _))) (by omega) Hln.out).mono ?_); rintro e t0w2_1 ⟨s, rfl, hs, gt0w2_1⟩; have HS := Lib.hid hs; have hz := ztext_len hs Hln.out; have hz1 := ztext_sh1 hz hK; clear hs; have hGt0w2_1 := grown_pre t0w1 gt0w2_1 rfl rfl rfl rfl; have hSt0w2_1 := (And.intro (hGt0w2_1.cell Ca0 (by simp)) (And.intro (hGt0w2_1.cell Ca1 (by simp)) (And.intro (hGt0w2_1.cell Ca2 (by simp)) (hGt0w2_1.cell Ca3 (by simp))))); clear gt0w2_1)
        | (go_at_call 56; (with_reducible refine (NZText_any t0w2_1 _ (r.den : Int) K (ia'.kept hGt0w2_1) (by omega) HD.out).mono ?_); rintro e t0w2_2 ⟨t, rfl, ht, gt0w2_2⟩; have HT := Lib.hid ht; have hy := ztext_len ht HD.out; have hz2 := ztext_sh2 hz hy hK; clear ht; have hGt0w2_2 := grown_trans hGt0w2_1 gt0w2_2; have hSt0w2_2 := (And.intro (hGt0w2_2.cell Ca0 (by simp)) (And.intro (hGt0w2_2.cell Ca1 (by simp)) (And.intro (hGt0w2_2.cell Ca2 (by simp)) (hGt0w2_2.cell Ca3 (by simp))))); clear gt0w2_2))
    replace Ba := heap_kept hGt0w2_2 Ba
    replace qa := qa.kept hGt0w2_2
    replace ia := ia.kept hGt0w2_2
    replace ia' := ia'.kept hGt0w2_2
    replace hG := grown_trans hG hGt0w2_2
    clear Ca0 Fa0 Ca1 Fa1 Ca2 Fa2 Ca3 Fa3
    obtain ⟨Ca0, Ca1, Ca2, Ca3, Fa0, Fa1, Fa2, Fa3⟩ := box_cells4 Ba
    go_wp2_with fail
    go_ret
    exact ⟨_, rfl, Or.inr ⟨H1.out, _, _, HS.out, HT.out, by first | rfl | simp⟩, hG⟩
def fup (s : ByteArray) : ByteArray := if slx s < 0 then s else s.extract 0 (slx s).toNat
def fdown (s : ByteArray) : ByteArray := s.extract ((slx s).toNat + 1) s.size
def ncod (s : ByteArray) : Int := if decB (bts s) = true then 0 else 3
def nval (s : ByteArray) : Nat := if decB (bts s) = true then dval (bts s) else 0
def fcod (s : ByteArray) : Int := if zcod (fup s) ≠ 0 then zcod (fup s) else if slx s < 0 then 0 else if ncod (fdown s) ≠ 0 then ncod (fdown s) else if nval (fdown s) = 0 then 5 else 0
def fval (s : ByteArray) : Rat := if fcod s = 0 then (if slx s < 0 then (zval (fup s) : Rat) else Rat.divInt (zval (fup s)) (nval (fdown s) : Int)) else 0
theorem NParse_num (w : World) (s : ByteArray) (hs : s.size ≤ 4096) : Calls Tryz.prog 13 #[.string s] w (RetNatE w (nval s) (ncod s)) := by
  unfold nval ncod
  by_cases h : decB (bts s) = true
  · rw [if_pos h, if_pos h]; exact Parse_some w s hs (dec_of h)
  · rw [if_neg h, if_neg h]; exact Parse_form w s hs (fun hd => h ((dec_iff _).2 hd))
theorem ncod_or (s : ByteArray) : ncod s = 0 ∨ ncod s = 3 := by unfold ncod; split <;> simp
theorem zcod_or {s : ByteArray} (h : s.size ≤ 4000) : zcod s = 0 ∨ zcod s = 3 := by
  have h1 : (zdig (bts s)).length ≤ 4096 := by
    unfold zdig
    split
    · rw [List.length_tail, bts_len]; omega
    · rw [bts_len]; omega
  unfold zcod
  rw [if_neg (by omega)]
  split
  · right; rfl
  · left; rw [if_neg (by omega)]
theorem fup_size (s : ByteArray) : (fup s).size ≤ s.size := by
  unfold fup
  split
  · exact Nat.le_refl _
  · rw [ByteArray.size_extract]; omega
theorem fdown_size (s : ByteArray) : (fdown s).size ≤ s.size := by
  unfold fdown
  rw [ByteArray.size_extract]; omega
theorem nval_bd (s : ByteArray) {n k : Nat} (h : s.size ≤ n) (hk : n ≤ 19 * k) : nval s < B ^ k := by
  unfold nval
  split
  · next hd => exact dval_bdE ((dec_iff _).1 hd) (by rw [bts_len]; omega)
  · exact Nat.pow_pos B_pos
theorem fval_nb (s : ByteArray) {n k : Nat} (h : s.size ≤ n) (hk : n ≤ 19 * k) : (fval s).num.natAbs < B ^ k := by
  have h1 := zval_bd (fup s) (Nat.le_trans (fup_size s) h) hk
  unfold fval
  split
  · split
    · exact h1
    · exact rdiv_nb h1
  · exact Nat.pow_pos B_pos
theorem fval_db (s : ByteArray) {n k : Nat} (h : s.size ≤ n) (hk : n ≤ 19 * k) (k1 : 1 ≤ k) : (fval s).den < B ^ k := by
  have h1 := nval_bd (fdown s) (Nat.le_trans (fdown_size s) h) hk
  have h3 : 1 < B ^ k := Nat.lt_of_lt_of_le (show 1 < B ^ 1 by unfold B; omega) (Nat.pow_le_pow_right B_pos k1)
  unfold fval
  split
  · next hc =>
    split
    · exact h3
    · next hs =>
      refine rdiv_db (by rw [Int.natAbs_natCast]; exact h1) ?_
      intro e
      unfold fcod at hc
      split at hc
      · next hz => exact hz hc
      · try rw [if_neg hs] at hc
        split at hc
        · next hn => exact hn hc
        · rw [if_pos (by omega)] at hc; omega
  · exact h3
set_option maxHeartbeats 16000000 in
theorem FParse_any (w : World) (s : ByteArray) (hs : s.size ≤ 4000) (hTab : Tab w) :
    Calls Tryz.prog 4 #[.string s] w (RetRatE w (fval s) (fcod s)) := by
  have HTB : Hid (∀ W, w.grownBy W none → Tab W) := fun W hW => hTab.kept hW (by simp)
  clear hTab
  obtain ⟨U, hU⟩ : ∃ U, fup s = U := ⟨_, rfl⟩
  obtain ⟨D9, hD⟩ : ∃ D, fdown s = D := ⟨_, rfl⟩
  have hUs : U.size ≤ 4000 := by rw [← hU]; exact Nat.le_trans (fup_size s) hs
  have hDs : D9.size ≤ 4000 := by rw [← hD]; exact Nat.le_trans (fdown_size s) hs
  have HZB : Hid ((zval U).natAbs < B ^ 211) := zval_bd U hUs (by omega)
  have HNB : Hid (nval D9 < B ^ 211) := nval_bd D9 hDs (by omega)
  have HNBI : Hid (((nval D9 : Nat) : Int).natAbs < B ^ 211) := by show _ < _; rw [Int.natAbs_natCast]; exact HNB.out
  have HNP : Hid (∀ W, Calls Tryz.prog 13 #[.string D9] W (RetNatE W (nval D9) (ncod D9))) := fun W => NParse_num W D9 (by omega)
  have hz := zcod_or hUs
  have hn := ncod_or D9
  have hcv : fcod s = (if zcod U ≠ 0 then zcod U else if slx s < 0 then 0 else if ncod D9 ≠ 0 then ncod D9 else if nval D9 = 0 then 5 else 0) := by unfold fcod; rw [hU, hD]
  have hfv : fval s = if fcod s = 0 then (if slx s < 0 then (zval U : Rat) else Rat.divInt (zval U) (nval D9 : Int)) else 0 := by unfold fval; rw [hU, hD]
  rcases slx_spec s with ⟨hx, _⟩ | ⟨k, hk, hx, _, _⟩
  · skip
    have hUe : U = s := by rw [← hU]; unfold fup; rw [if_pos (by omega)]
    have HCUT : Hid (∀ W, Calls Tryz.prog 10 #[.string s, .string { data := #[47] }] W (fun e w' => e = .returned (.tuple #[.string U, .string { data := #[] }, .bool false]) ∧ W.grownBy w' none)) := fun W => (scut_no W s hx).mono fun e w' ⟨h1, h2⟩ => ⟨by rw [hUe]; exact h1, h2 ▸ grown_refl _ _⟩
    rcases hz with hz | hz
    · skip
      have HZP : Hid (∀ W, Calls Tryz.prog 11 #[.string U] W (RetIntE W (zval U) 0)) := fun W => hz ▸ ZParse_any W U
      have hc9 : fcod s = 0 := by rw [hcv]; simp [hz, hx]
      have hv9 : fval s = (zval U : Rat) := by rw [hfv, hc9]; simp [hx]
      rw [hc9, hv9]
      clear hc9 hv9 hcv hfv hz hn hU hD hUs hDs hUe hx hs
      have hG : w.grownBy (w.alloc (.cells #[.slice none 0 0, .bool false, .slice none 0 0, .bool false] 28)) none := (World.grownBy_alloc _ _ _)
      have Bq := (heap_new w (.cells #[.slice none 0 0, .bool false, .slice none 0 0, .bool false] 28) (w.heap.size) rfl)
      go_enter Tryz.func4, Tryz.ntmps4
      obtain ⟨Cq0, Cq1, Cq2, Cq3, Fq0, Fq1, Fq2, Fq3⟩ := box_cells4 Bq
      go_wp2_with fail
      generalize (w.alloc (.cells #[.slice none 0 0, .bool false, .slice none 0 0, .bool false] 28)) = w0 at *
      clear Cq0 Fq0 Cq1 Fq1 Cq2 Fq2 Cq3 Fq3
      refine (HCUT.out w0).mono ?_
      rintro e s0z0w1 ⟨rfl, gs0z0w1⟩
      replace Bq := heap_kept gs0z0w1 Bq
      replace hG := grown_trans hG gs0z0w1
      clear gs0z0w1
      obtain ⟨Cq0, Cq1, Cq2, Cq3, Fq0, Fq1, Fq2, Fq3⟩ := box_cells4 Bq
      go_wp2_with fail
      clear Cq0 Fq0 Cq1 Fq1 Cq2 Fq2 Cq3 Fq3
      refine (HZP.out s0z0w1).mono ?_
      rintro e s0z0w2 ⟨_, rfl, ⟨su, xu, bu, rfl, hu, vu, tu⟩, gs0z0w2⟩
      have iu : IntV s0z0w2 (.agg #[.slice su xu.length xu.length, .bool bu]) (zval U) := ⟨su, xu, bu, rfl, hu, vu, tu⟩
      replace Bq := heap_kept gs0z0w2 Bq
      replace hG := grown_trans hG gs0z0w2
      clear gs0z0w2
      clear hu vu tu
      obtain ⟨Cq0, Cq1, Cq2, Cq3, Fq0, Fq1, Fq2, Fq3⟩ := box_cells4 Bq
      have gbs0z0w2 := (World.grownBy_alloc s0z0w2 (.cells #[.slice su xu.length xu.length, .bool bu] 26) none)
      have Bu := (heap_new s0z0w2 (.cells #[.slice su xu.length xu.length, .bool bu] 26) (s0z0w2.heap.size) rfl)
      have hzs0z0w2 : Hid (w.heap.size ≤ s0z0w2.heap.size) := Lib.hid hG.size
      have hlqs0z0w2 : Hid (w.heap.size < s0z0w2.heap.size) := Lib.hid (Array.getElem?_eq_some_iff.1 Bq).1
      clear Cq0 Fq0 Cq1 Fq1 Cq2 Fq2 Cq3 Fq3
      replace Bq := heap_kept gbs0z0w2 Bq
      replace iu := iu.kept gbs0z0w2
      replace hG := grown_trans hG gbs0z0w2
      clear gbs0z0w2
      obtain ⟨Cq0, Cq1, Cq2, Cq3, Fq0, Fq1, Fq2, Fq3⟩ := box_cells4 Bq
      obtain ⟨Cu0, Cu1, Fu0, Fu1⟩ := box_cells Bu
      go_wp2_with fail
      generalize (s0z0w2.alloc (.cells #[.slice su xu.length xu.length, .bool bu] 26)) = s0z0w3 at *
      generalize s0z0w2.heap.size = as0z0w2 at *
      replace hzs0z0w2 := hzs0z0w2.out
      replace hlqs0z0w2 := hlqs0z0w2.out
      clear Cq0 Fq0 Cq1 Fq1 Cq2 Fq2 Cq3 Fq3 Cu0 Fu0 Cu1 Fu1
      refine (FWholeOf_any s0z0w3 _ (zval U) 211 iu (by omega) HZB.out).mono ?_
      rintro e s0z0w4 ⟨_, rfl, ⟨sd, xd, bd, sd', xd', bd', rfl, hd, hd'⟩, gs0z0w4⟩
      have qd : RatV s0z0w4 (.agg #[.slice sd xd.length xd.length, .bool bd, .slice sd' xd'.length xd'.length, .bool bd']) ((zval U : Rat)) := ⟨sd, xd, bd, sd', xd', bd', rfl, hd, hd'⟩
      replace Bq := heap_kept gs0z0w4 Bq
      replace Bu := heap_kept gs0z0w4 Bu
      replace iu := iu.kept gs0z0w4
      replace hG := grown_trans hG gs0z0w4
      clear gs0z0w4
      clear hd hd'
      obtain ⟨Cq0, Cq1, Cq2, Cq3, Fq0, Fq1, Fq2, Fq3⟩ := box_cells4 Bq
      obtain ⟨Cu0, Cu1, Fu0, Fu1⟩ := box_cells Bu
      clear Cq0 Fq0 Cq1 Fq1 Cq2 Fq2 Cq3 Fq3 Cu0 Fu0 Cu1 Fu1
      obtain ⟨k90, k91, k92, k93, k94, k95, k96, k97⟩ := box_cells4 Bq
      obtain ⟨q90, q91, q92, q93, q94, q95, q96, q97⟩ := box_cells4 (heap_set4 Bq (.slice sd xd.length xd.length) (.bool bd) (.slice sd' xd'.length xd'.length) (.bool bd'))
      have hF : Hid (RetRatE w ((zval U : Rat)) 0 (.returned (.tuple #[.agg #[.slice sd xd.length xd.length, .bool bd, .slice sd' xd'.length xd'.length, .bool bd'], .int .i64 0])) ((((s0z0w4.setCell ⟨w.heap.size, 0, none⟩ (.slice sd xd.length xd.length)).setCell ⟨w.heap.size, 1, none⟩ (.bool bd)).setCell ⟨w.heap.size, 2, none⟩ (.slice sd' xd'.length xd'.length)).setCell ⟨w.heap.size, 3, none⟩ (.bool bd'))) := ret_ratvE hG Bq (by omega) qd
      clear iu qd
      obtain ⟨Cu0, Cu1, Fu0, Fu1⟩ := box_cells Bu
      go_wp2_with fail
      exact bodyPost_ret (v := .tuple #[.agg #[.slice sd xd.length xd.length, .bool bd, .slice sd' xd'.length xd'.length, .bool bd'], .int .i64 0]) (by simp [results, Tryz.results4, go_sem, q90, q91, q92, q93]) rfl hF.out
    · skip
      have HZP : Hid (∀ W, Calls Tryz.prog 11 #[.string U] W (RetIntE W (zval U) 3)) := fun W => hz ▸ ZParse_any W U
      have hc9 : fcod s = 3 := by rw [hcv]; simp [hz, hx]
      have hv9 : fval s = 0 := by rw [hfv, hc9]; simp [hx]
      rw [hc9, hv9]
      clear hc9 hv9 hcv hfv hz hn hU hD hUs hDs hUe hx hs
      have hG : w.grownBy (w.alloc (.cells #[.slice none 0 0, .bool false, .slice none 0 0, .bool false] 28)) none := (World.grownBy_alloc _ _ _)
      have Bq := (heap_new w (.cells #[.slice none 0 0, .bool false, .slice none 0 0, .bool false] 28) (w.heap.size) rfl)
      go_enter Tryz.func4, Tryz.ntmps4
      obtain ⟨Cq0, Cq1, Cq2, Cq3, Fq0, Fq1, Fq2, Fq3⟩ := box_cells4 Bq
      go_wp2_with fail
      generalize (w.alloc (.cells #[.slice none 0 0, .bool false, .slice none 0 0, .bool false] 28)) = w0 at *
      clear Cq0 Fq0 Cq1 Fq1 Cq2 Fq2 Cq3 Fq3
      refine (HCUT.out w0).mono ?_
      rintro e s0z3w1 ⟨rfl, gs0z3w1⟩
      replace Bq := heap_kept gs0z3w1 Bq
      replace hG := grown_trans hG gs0z3w1
      clear gs0z3w1
      obtain ⟨Cq0, Cq1, Cq2, Cq3, Fq0, Fq1, Fq2, Fq3⟩ := box_cells4 Bq
      go_wp2_with fail
      clear Cq0 Fq0 Cq1 Fq1 Cq2 Fq2 Cq3 Fq3
      refine (HZP.out s0z3w1).mono ?_
      rintro e s0z3w2 ⟨_, rfl, ⟨su, xu, bu, rfl, hu, vu, tu⟩, gs0z3w2⟩
      have iu : IntV s0z3w2 (.agg #[.slice su xu.length xu.length, .bool bu]) (zval U) := ⟨su, xu, bu, rfl, hu, vu, tu⟩
      replace Bq := heap_kept gs0z3w2 Bq
      replace hG := grown_trans hG gs0z3w2
      clear gs0z3w2
      clear hu vu tu
      obtain ⟨Cq0, Cq1, Cq2, Cq3, Fq0, Fq1, Fq2, Fq3⟩ := box_cells4 Bq
      have gbs0z3w2 := (World.grownBy_alloc s0z3w2 (.cells #[.slice su xu.length xu.length, .bool bu] 26) none)
      have Bu := (heap_new s0z3w2 (.cells #[.slice su xu.length xu.length, .bool bu] 26) (s0z3w2.heap.size) rfl)
      have hzs0z3w2 : Hid (w.heap.size ≤ s0z3w2.heap.size) := Lib.hid hG.size
      have hlqs0z3w2 : Hid (w.heap.size < s0z3w2.heap.size) := Lib.hid (Array.getElem?_eq_some_iff.1 Bq).1
      clear Cq0 Fq0 Cq1 Fq1 Cq2 Fq2 Cq3 Fq3
      replace Bq := heap_kept gbs0z3w2 Bq
      replace iu := iu.kept gbs0z3w2
      replace hG := grown_trans hG gbs0z3w2
      clear gbs0z3w2
      obtain ⟨Cq0, Cq1, Cq2, Cq3, Fq0, Fq1, Fq2, Fq3⟩ := box_cells4 Bq
      obtain ⟨Cu0, Cu1, Fu0, Fu1⟩ := box_cells Bu
      go_wp2_with fail
      skip
      generalize (s0z3w2.alloc (.cells #[.slice su xu.length xu.length, .bool bu] 26)) = s0z3w3 at *
      generalize s0z3w2.heap.size = as0z3w2 at *
      replace hzs0z3w2 := hzs0z3w2.out
      replace hlqs0z3w2 := hlqs0z3w2.out
      have qd : RatV s0z3w3 (.agg #[.slice none 0 0, .bool false, .slice none 0 0, .bool false]) 0 := RatV.zero _
      clear Cq0 Fq0 Cq1 Fq1 Cq2 Fq2 Cq3 Fq3 Cu0 Fu0 Cu1 Fu1
      obtain ⟨k90, k91, k92, k93, k94, k95, k96, k97⟩ := box_cells4 Bq
      obtain ⟨q90, q91, q92, q93, q94, q95, q96, q97⟩ := box_cells4 (heap_set4 Bq (.slice none 0 0) (.bool false) (.slice none 0 0) (.bool false))
      have hF : Hid (RetRatE w (0) 3 (.returned (.tuple #[.agg #[.slice none 0 0, .bool false, .slice none 0 0, .bool false], .int .i64 3])) ((((s0z3w3.setCell ⟨w.heap.size, 0, none⟩ (.slice none 0 0)).setCell ⟨w.heap.size, 1, none⟩ (.bool false)).setCell ⟨w.heap.size, 2, none⟩ (.slice none 0 0)).setCell ⟨w.heap.size, 3, none⟩ (.bool false))) := ret_ratvE hG Bq (by omega) qd
      clear iu qd
      obtain ⟨Cu0, Cu1, Fu0, Fu1⟩ := box_cells Bu
      go_wp2_with fail
      exact bodyPost_ret (v := .tuple #[.agg #[.slice none 0 0, .bool false, .slice none 0 0, .bool false], .int .i64 3]) (by simp [results, Tryz.results4, go_sem, q90, q91, q92, q93]) rfl hF.out
  · skip
    have hUe : U = s.extract 0 k := by rw [← hU]; unfold fup; rw [if_neg (by omega), hx]; rfl
    have hDe : D9 = s.extract (k + 1) s.size := by rw [← hD]; unfold fdown; rw [hx]; rfl
    have HCUT : Hid (∀ W, Calls Tryz.prog 10 #[.string s, .string { data := #[47] }] W (fun e w' => e = .returned (.tuple #[.string U, .string D9, .bool true]) ∧ W.grownBy w' none)) := fun W => (scut_sl W s k hx hk (by omega)).mono fun e w' ⟨h1, h2⟩ => ⟨by rw [hUe, hDe]; exact h1, h2⟩
    rcases hz with hz | hz
    · skip
      have HZP : Hid (∀ W, Calls Tryz.prog 11 #[.string U] W (RetIntE W (zval U) 0)) := fun W => hz ▸ ZParse_any W U
      rcases hn with hn | hn
      · skip
        have HNQ : Hid (∀ W, Calls Tryz.prog 13 #[.string D9] W (RetNatE W (nval D9) 0)) := fun W => hn ▸ HNP.out W
        obtain ⟨c9, hc0⟩ : ∃ c : Int, (if nval D9 = 0 then 5 else 0) = c := ⟨_, rfl⟩
        have HC9 : Hid ((if ((nval D9 : Nat) : Int) = 0 then (5 : Int) else 0) = c9) := by show _ = _; rw [← hc0]; simp
        have hc9 : fcod s = c9 := by rw [hcv, ← hc0]; simp [hz, hx, hn, show ¬ ((k : Int) < 0) by omega]
        have hv9 : fval s = Rat.divInt (zval U) (nval D9 : Int) := by
          rw [hfv, hc9, ← hc0]
          by_cases h0 : nval D9 = 0
          · simp [h0]
          · rw [if_pos (by rw [if_neg h0]), if_neg (by omega)]
        rw [hc9, hv9]
        clear hc0 hc9 hv9 hcv hfv hz hn hU hD hUs hDs hUe hx hs hDe hk
        have hG : w.grownBy (w.alloc (.cells #[.slice none 0 0, .bool false, .slice none 0 0, .bool false] 28)) none := (World.grownBy_alloc _ _ _)
        have Bq := (heap_new w (.cells #[.slice none 0 0, .bool false, .slice none 0 0, .bool false] 28) (w.heap.size) rfl)
        go_enter Tryz.func4, Tryz.ntmps4
        obtain ⟨Cq0, Cq1, Cq2, Cq3, Fq0, Fq1, Fq2, Fq3⟩ := box_cells4 Bq
        go_wp2_with fail
        generalize (w.alloc (.cells #[.slice none 0 0, .bool false, .slice none 0 0, .bool false] 28)) = w0 at *
        clear Cq0 Fq0 Cq1 Fq1 Cq2 Fq2 Cq3 Fq3
        refine (HCUT.out w0).mono ?_
        rintro e s1z0n0w1 ⟨rfl, gs1z0n0w1⟩
        replace Bq := heap_kept gs1z0n0w1 Bq
        replace hG := grown_trans hG gs1z0n0w1
        clear gs1z0n0w1
        obtain ⟨Cq0, Cq1, Cq2, Cq3, Fq0, Fq1, Fq2, Fq3⟩ := box_cells4 Bq
        go_wp2_with fail
        clear Cq0 Fq0 Cq1 Fq1 Cq2 Fq2 Cq3 Fq3
        refine (HZP.out s1z0n0w1).mono ?_
        rintro e s1z0n0w2 ⟨_, rfl, ⟨su, xu, bu, rfl, hu, vu, tu⟩, gs1z0n0w2⟩
        have iu : IntV s1z0n0w2 (.agg #[.slice su xu.length xu.length, .bool bu]) (zval U) := ⟨su, xu, bu, rfl, hu, vu, tu⟩
        replace Bq := heap_kept gs1z0n0w2 Bq
        replace hG := grown_trans hG gs1z0n0w2
        clear gs1z0n0w2
        clear hu vu tu
        obtain ⟨Cq0, Cq1, Cq2, Cq3, Fq0, Fq1, Fq2, Fq3⟩ := box_cells4 Bq
        have gbs1z0n0w2 := (World.grownBy_alloc s1z0n0w2 (.cells #[.slice su xu.length xu.length, .bool bu] 26) none)
        have Bu := (heap_new s1z0n0w2 (.cells #[.slice su xu.length xu.length, .bool bu] 26) (s1z0n0w2.heap.size) rfl)
        have hzs1z0n0w2 : Hid (w.heap.size ≤ s1z0n0w2.heap.size) := Lib.hid hG.size
        have hlqs1z0n0w2 : Hid (w.heap.size < s1z0n0w2.heap.size) := Lib.hid (Array.getElem?_eq_some_iff.1 Bq).1
        clear Cq0 Fq0 Cq1 Fq1 Cq2 Fq2 Cq3 Fq3
        replace Bq := heap_kept gbs1z0n0w2 Bq
        replace iu := iu.kept gbs1z0n0w2
        replace hG := grown_trans hG gbs1z0n0w2
        clear gbs1z0n0w2
        obtain ⟨Cq0, Cq1, Cq2, Cq3, Fq0, Fq1, Fq2, Fq3⟩ := box_cells4 Bq
        obtain ⟨Cu0, Cu1, Fu0, Fu1⟩ := box_cells Bu
        go_wp2_with fail
        generalize (s1z0n0w2.alloc (.cells #[.slice su xu.length xu.length, .bool bu] 26)) = s1z0n0w3 at *
        generalize s1z0n0w2.heap.size = as1z0n0w2 at *
        replace hzs1z0n0w2 := hzs1z0n0w2.out
        replace hlqs1z0n0w2 := hlqs1z0n0w2.out
        clear Cq0 Fq0 Cq1 Fq1 Cq2 Fq2 Cq3 Fq3 Cu0 Fu0 Cu1 Fu1
        refine (HNQ.out s1z0n0w3).mono ?_
        rintro e s1z0n0w4 ⟨_, rfl, ⟨sm, xm, rfl, hm, vm⟩, gs1z0n0w4⟩
        have nm : NatV s1z0n0w4 (.agg #[.slice sm xm.length xm.length]) (nval D9) := ⟨sm, xm, rfl, hm, vm⟩
        replace Bq := heap_kept gs1z0n0w4 Bq
        replace Bu := heap_kept gs1z0n0w4 Bu
        replace iu := iu.kept gs1z0n0w4
        replace hG := grown_trans hG gs1z0n0w4
        clear gs1z0n0w4
        clear hm vm
        obtain ⟨Cq0, Cq1, Cq2, Cq3, Fq0, Fq1, Fq2, Fq3⟩ := box_cells4 Bq
        obtain ⟨Cu0, Cu1, Fu0, Fu1⟩ := box_cells Bu
        have gbs1z0n0w4 := (World.grownBy_alloc s1z0n0w4 (.cells #[.slice sm xm.length xm.length] 24) none)
        have Bm := (heap_new s1z0n0w4 (.cells #[.slice sm xm.length xm.length] 24) (s1z0n0w4.heap.size) rfl)
        have hzs1z0n0w4 : Hid (w.heap.size ≤ s1z0n0w4.heap.size) := Lib.hid hG.size
        have hlqs1z0n0w4 : Hid (w.heap.size < s1z0n0w4.heap.size) := Lib.hid (Array.getElem?_eq_some_iff.1 Bq).1
        have hlus1z0n0w4 : Hid (as1z0n0w2 < s1z0n0w4.heap.size) := Lib.hid (Array.getElem?_eq_some_iff.1 Bu).1
        clear Cq0 Fq0 Cq1 Fq1 Cq2 Fq2 Cq3 Fq3 Cu0 Fu0 Cu1 Fu1
        replace Bq := heap_kept gbs1z0n0w4 Bq
        replace Bu := heap_kept gbs1z0n0w4 Bu
        replace iu := iu.kept gbs1z0n0w4
        replace nm := nm.kept gbs1z0n0w4
        replace hG := grown_trans hG gbs1z0n0w4
        clear gbs1z0n0w4
        obtain ⟨Cq0, Cq1, Cq2, Cq3, Fq0, Fq1, Fq2, Fq3⟩ := box_cells4 Bq
        obtain ⟨Cu0, Cu1, Fu0, Fu1⟩ := box_cells Bu
        obtain ⟨Cm0, Fm0⟩ := box_cell Bm
        go_wp2_with fail
        generalize (s1z0n0w4.alloc (.cells #[.slice sm xm.length xm.length] 24)) = s1z0n0w5 at *
        generalize s1z0n0w4.heap.size = as1z0n0w4 at *
        replace hzs1z0n0w4 := hzs1z0n0w4.out
        replace hlqs1z0n0w4 := hlqs1z0n0w4.out
        replace hlus1z0n0w4 := hlus1z0n0w4.out
        have HT3 : Hid (∀ W, s1z0n0w5.grownBy W none → Tab W) := fun W hW => HTB.out _ (grown_trans hG hW)
        go_region_held3 (fun w' => w'.cell? ⟨as1z0n0w2, 0, none⟩ = some (.slice su xu.length xu.length) ∧ w'.cell? ⟨as1z0n0w2, 1, none⟩ = some (.bool bu) ∧ w'.cell? ⟨as1z0n0w4, 0, none⟩ = some (.slice sm xm.length xm.length))
          (first | assumption | exact ⟨Cu0, Cu1, Cm0⟩ | exact HSs1z0n0w6_20 | go_keep)
          (first
            | (go_at_call 15; (with_reducible refine (Big_any s1z0n0w5.drew _ (nval D9) 211 (nm.kept (grown_drew (grown_refl _ _))) (by omega) HNB.out).mono ?_); rintro e s1z0n0w6_1 ⟨v1, rfl, n1, gs1z0n0w6_1⟩; have hGs1z0n0w6_1 := grown_pre s1z0n0w5 gs1z0n0w6_1 rfl rfl rfl rfl; have hSs1z0n0w6_1 := (And.intro (hGs1z0n0w6_1.cell Cu0 (by simp)) (And.intro (hGs1z0n0w6_1.cell Cu1 (by simp)) (hGs1z0n0w6_1.cell Cm0 (by simp)))); clear gs1z0n0w6_1)
            | (go_at_call 14; (with_reducible refine (FMake_any s1z0n0w6_1 _ _ (zval U) ((nval D9 : Nat) : Int) 211 (iu.kept hGs1z0n0w6_1) n1 (by omega) HZB.out HNBI.out (HT3.out _ hGs1z0n0w6_1)).mono ?_); rintro e s1z0n0w6_2 ⟨_, rfl, ⟨sd, xd, bd, sd', xd', bd', rfl, hd, hd'⟩, gs1z0n0w6_2⟩; rw [HC9.out]; have hGs1z0n0w6_2 := grown_trans hGs1z0n0w6_1 gs1z0n0w6_2; replace n1 := n1.kept gs1z0n0w6_2; have qd : RatV s1z0n0w6_2 (.agg #[.slice sd xd.length xd.length, .bool bd, .slice sd' xd'.length xd'.length, .bool bd']) (Rat.divInt (zval U) ((nval D9 : Nat) : Int)) := ⟨sd, xd, bd, sd', xd', bd', rfl, hd, hd'⟩; have hSs1z0n0w6_2 := (And.intro (hGs1z0n0w6_2.cell Cu0 (by simp)) (And.intro (hGs1z0n0w6_2.cell Cu1 (by simp)) (hGs1z0n0w6_2.cell Cm0 (by simp)))); clear gs1z0n0w6_2; clear hd hd'; (obtain ⟨dq0, dq1, dq2, dq3, dq4, dq5, dq6, dq7⟩ := box_cells4 (heap_kept hGs1z0n0w6_2 Bq)); have HSs1z0n0w6_20 := (And.intro ((box_cells (heap_unset4 (heap_kept hGs1z0n0w6_2 Bu) (show as1z0n0w2 ≠ w.heap.size by omega) (.slice sd xd.length xd.length) (.bool bd) (.slice sd' xd'.length xd'.length) (.bool bd'))).1) (And.intro ((box_cells (heap_unset4 (heap_kept hGs1z0n0w6_2 Bu) (show as1z0n0w2 ≠ w.heap.size by omega) (.slice sd xd.length xd.length) (.bool bd) (.slice sd' xd'.length xd'.length) (.bool bd'))).2.1) ((box_cell (heap_unset4 (heap_kept hGs1z0n0w6_2 Bm) (show as1z0n0w4 ≠ w.heap.size by omega) (.slice sd xd.length xd.length) (.bool bd) (.slice sd' xd'.length xd'.length) (.bool bd'))).1)))))
        replace Bq := heap_kept hGs1z0n0w6_2 Bq
        replace Bu := heap_kept hGs1z0n0w6_2 Bu
        replace Bm := heap_kept hGs1z0n0w6_2 Bm
        replace iu := iu.kept hGs1z0n0w6_2
        replace nm := nm.kept hGs1z0n0w6_2
        replace hG := grown_trans hG hGs1z0n0w6_2
        clear Cq0 Fq0 Cq1 Fq1 Cq2 Fq2 Cq3 Fq3 Cu0 Fu0 Cu1 Fu1 Cm0 Fm0
        obtain ⟨k90, k91, k92, k93, k94, k95, k96, k97⟩ := box_cells4 Bq
        obtain ⟨q90, q91, q92, q93, q94, q95, q96, q97⟩ := box_cells4 (heap_set4 Bq (.slice sd xd.length xd.length) (.bool bd) (.slice sd' xd'.length xd'.length) (.bool bd'))
        have hF : Hid (RetRatE w (Rat.divInt (zval U) ((nval D9 : Nat) : Int)) c9 (.returned (.tuple #[.agg #[.slice sd xd.length xd.length, .bool bd, .slice sd' xd'.length xd'.length, .bool bd'], .int .i64 c9])) ((((s1z0n0w6_2.setCell ⟨w.heap.size, 0, none⟩ (.slice sd xd.length xd.length)).setCell ⟨w.heap.size, 1, none⟩ (.bool bd)).setCell ⟨w.heap.size, 2, none⟩ (.slice sd' xd'.length xd'.length)).setCell ⟨w.heap.size, 3, none⟩ (.bool bd'))) := ret_ratvE hG Bq (by omega) qd
        clear iu nm n1 qd
        obtain ⟨Cu0, Cu1, Fu0, Fu1⟩ := box_cells Bu
        obtain ⟨Cm0, Fm0⟩ := box_cell Bm
        go_wp2_with fail
        exact bodyPost_ret (v := .tuple #[.agg #[.slice sd xd.length xd.length, .bool bd, .slice sd' xd'.length xd'.length, .bool bd'], .int .i64 c9]) (by simp [results, Tryz.results4, go_sem, q90, q91, q92, q93]) rfl hF.out
      · skip
        have HNQ : Hid (∀ W, Calls Tryz.prog 13 #[.string D9] W (RetNatE W (nval D9) 3)) := fun W => hn ▸ HNP.out W
        have hc9 : fcod s = 3 := by rw [hcv]; simp [hz, hx, hn]
        have hv9 : fval s = 0 := by rw [hfv, hc9]; simp [hx]
        rw [hc9, hv9]
        clear hc9 hv9 hcv hfv hz hn hU hD hUs hDs hUe hx hs hDe hk
        have hG : w.grownBy (w.alloc (.cells #[.slice none 0 0, .bool false, .slice none 0 0, .bool false] 28)) none := (World.grownBy_alloc _ _ _)
        have Bq := (heap_new w (.cells #[.slice none 0 0, .bool false, .slice none 0 0, .bool false] 28) (w.heap.size) rfl)
        go_enter Tryz.func4, Tryz.ntmps4
        obtain ⟨Cq0, Cq1, Cq2, Cq3, Fq0, Fq1, Fq2, Fq3⟩ := box_cells4 Bq
        go_wp2_with fail
        generalize (w.alloc (.cells #[.slice none 0 0, .bool false, .slice none 0 0, .bool false] 28)) = w0 at *
        clear Cq0 Fq0 Cq1 Fq1 Cq2 Fq2 Cq3 Fq3
        refine (HCUT.out w0).mono ?_
        rintro e s1z0n3w1 ⟨rfl, gs1z0n3w1⟩
        replace Bq := heap_kept gs1z0n3w1 Bq
        replace hG := grown_trans hG gs1z0n3w1
        clear gs1z0n3w1
        obtain ⟨Cq0, Cq1, Cq2, Cq3, Fq0, Fq1, Fq2, Fq3⟩ := box_cells4 Bq
        go_wp2_with fail
        clear Cq0 Fq0 Cq1 Fq1 Cq2 Fq2 Cq3 Fq3
        refine (HZP.out s1z0n3w1).mono ?_
        rintro e s1z0n3w2 ⟨_, rfl, ⟨su, xu, bu, rfl, hu, vu, tu⟩, gs1z0n3w2⟩
        have iu : IntV s1z0n3w2 (.agg #[.slice su xu.length xu.length, .bool bu]) (zval U) := ⟨su, xu, bu, rfl, hu, vu, tu⟩
        replace Bq := heap_kept gs1z0n3w2 Bq
        replace hG := grown_trans hG gs1z0n3w2
        clear gs1z0n3w2
        clear hu vu tu
        obtain ⟨Cq0, Cq1, Cq2, Cq3, Fq0, Fq1, Fq2, Fq3⟩ := box_cells4 Bq
        have gbs1z0n3w2 := (World.grownBy_alloc s1z0n3w2 (.cells #[.slice su xu.length xu.length, .bool bu] 26) none)
        have Bu := (heap_new s1z0n3w2 (.cells #[.slice su xu.length xu.length, .bool bu] 26) (s1z0n3w2.heap.size) rfl)
        have hzs1z0n3w2 : Hid (w.heap.size ≤ s1z0n3w2.heap.size) := Lib.hid hG.size
        have hlqs1z0n3w2 : Hid (w.heap.size < s1z0n3w2.heap.size) := Lib.hid (Array.getElem?_eq_some_iff.1 Bq).1
        clear Cq0 Fq0 Cq1 Fq1 Cq2 Fq2 Cq3 Fq3
        replace Bq := heap_kept gbs1z0n3w2 Bq
        replace iu := iu.kept gbs1z0n3w2
        replace hG := grown_trans hG gbs1z0n3w2
        clear gbs1z0n3w2
        obtain ⟨Cq0, Cq1, Cq2, Cq3, Fq0, Fq1, Fq2, Fq3⟩ := box_cells4 Bq
        obtain ⟨Cu0, Cu1, Fu0, Fu1⟩ := box_cells Bu
        go_wp2_with fail
        generalize (s1z0n3w2.alloc (.cells #[.slice su xu.length xu.length, .bool bu] 26)) = s1z0n3w3 at *
        generalize s1z0n3w2.heap.size = as1z0n3w2 at *
        replace hzs1z0n3w2 := hzs1z0n3w2.out
        replace hlqs1z0n3w2 := hlqs1z0n3w2.out
        clear Cq0 Fq0 Cq1 Fq1 Cq2 Fq2 Cq3 Fq3 Cu0 Fu0 Cu1 Fu1
        refine (HNQ.out s1z0n3w3).mono ?_
        rintro e s1z0n3w4 ⟨_, rfl, ⟨sm, xm, rfl, hm, vm⟩, gs1z0n3w4⟩
        have nm : NatV s1z0n3w4 (.agg #[.slice sm xm.length xm.length]) (nval D9) := ⟨sm, xm, rfl, hm, vm⟩
        replace Bq := heap_kept gs1z0n3w4 Bq
        replace Bu := heap_kept gs1z0n3w4 Bu
        replace iu := iu.kept gs1z0n3w4
        replace hG := grown_trans hG gs1z0n3w4
        clear gs1z0n3w4
        clear hm vm
        obtain ⟨Cq0, Cq1, Cq2, Cq3, Fq0, Fq1, Fq2, Fq3⟩ := box_cells4 Bq
        obtain ⟨Cu0, Cu1, Fu0, Fu1⟩ := box_cells Bu
        have gbs1z0n3w4 := (World.grownBy_alloc s1z0n3w4 (.cells #[.slice sm xm.length xm.length] 24) none)
        have Bm := (heap_new s1z0n3w4 (.cells #[.slice sm xm.length xm.length] 24) (s1z0n3w4.heap.size) rfl)
        have hzs1z0n3w4 : Hid (w.heap.size ≤ s1z0n3w4.heap.size) := Lib.hid hG.size
        have hlqs1z0n3w4 : Hid (w.heap.size < s1z0n3w4.heap.size) := Lib.hid (Array.getElem?_eq_some_iff.1 Bq).1
        have hlus1z0n3w4 : Hid (as1z0n3w2 < s1z0n3w4.heap.size) := Lib.hid (Array.getElem?_eq_some_iff.1 Bu).1
        clear Cq0 Fq0 Cq1 Fq1 Cq2 Fq2 Cq3 Fq3 Cu0 Fu0 Cu1 Fu1
        replace Bq := heap_kept gbs1z0n3w4 Bq
        replace Bu := heap_kept gbs1z0n3w4 Bu
        replace iu := iu.kept gbs1z0n3w4
        replace nm := nm.kept gbs1z0n3w4
        replace hG := grown_trans hG gbs1z0n3w4
        clear gbs1z0n3w4
        obtain ⟨Cq0, Cq1, Cq2, Cq3, Fq0, Fq1, Fq2, Fq3⟩ := box_cells4 Bq
        obtain ⟨Cu0, Cu1, Fu0, Fu1⟩ := box_cells Bu
        obtain ⟨Cm0, Fm0⟩ := box_cell Bm
        go_wp2_with fail
        generalize (s1z0n3w4.alloc (.cells #[.slice sm xm.length xm.length] 24)) = s1z0n3w5 at *
        generalize s1z0n3w4.heap.size = as1z0n3w4 at *
        replace hzs1z0n3w4 := hzs1z0n3w4.out
        replace hlqs1z0n3w4 := hlqs1z0n3w4.out
        replace hlus1z0n3w4 := hlus1z0n3w4.out
        have qd : RatV s1z0n3w5 (.agg #[.slice none 0 0, .bool false, .slice none 0 0, .bool false]) 0 := RatV.zero _
        clear Cq0 Fq0 Cq1 Fq1 Cq2 Fq2 Cq3 Fq3 Cu0 Fu0 Cu1 Fu1 Cm0 Fm0
        obtain ⟨k90, k91, k92, k93, k94, k95, k96, k97⟩ := box_cells4 Bq
        obtain ⟨q90, q91, q92, q93, q94, q95, q96, q97⟩ := box_cells4 (heap_set4 Bq (.slice none 0 0) (.bool false) (.slice none 0 0) (.bool false))
        have hF : Hid (RetRatE w (0) 3 (.returned (.tuple #[.agg #[.slice none 0 0, .bool false, .slice none 0 0, .bool false], .int .i64 3])) ((((s1z0n3w5.setCell ⟨w.heap.size, 0, none⟩ (.slice none 0 0)).setCell ⟨w.heap.size, 1, none⟩ (.bool false)).setCell ⟨w.heap.size, 2, none⟩ (.slice none 0 0)).setCell ⟨w.heap.size, 3, none⟩ (.bool false))) := ret_ratvE hG Bq (by omega) qd
        clear iu nm qd
        obtain ⟨Cu0, Cu1, Fu0, Fu1⟩ := box_cells Bu
        obtain ⟨Cm0, Fm0⟩ := box_cell Bm
        go_wp2_with fail
        exact bodyPost_ret (v := .tuple #[.agg #[.slice none 0 0, .bool false, .slice none 0 0, .bool false], .int .i64 3]) (by simp [results, Tryz.results4, go_sem, q90, q91, q92, q93]) rfl hF.out
    · skip
      have HZP : Hid (∀ W, Calls Tryz.prog 11 #[.string U] W (RetIntE W (zval U) 3)) := fun W => hz ▸ ZParse_any W U
      have hc9 : fcod s = 3 := by rw [hcv]; simp [hz, hx]
      have hv9 : fval s = 0 := by rw [hfv, hc9]; simp [hx]
      rw [hc9, hv9]
      clear hc9 hv9 hcv hfv hz hn hU hD hUs hDs hUe hx hs hDe hk
      have hG : w.grownBy (w.alloc (.cells #[.slice none 0 0, .bool false, .slice none 0 0, .bool false] 28)) none := (World.grownBy_alloc _ _ _)
      have Bq := (heap_new w (.cells #[.slice none 0 0, .bool false, .slice none 0 0, .bool false] 28) (w.heap.size) rfl)
      go_enter Tryz.func4, Tryz.ntmps4
      obtain ⟨Cq0, Cq1, Cq2, Cq3, Fq0, Fq1, Fq2, Fq3⟩ := box_cells4 Bq
      go_wp2_with fail
      generalize (w.alloc (.cells #[.slice none 0 0, .bool false, .slice none 0 0, .bool false] 28)) = w0 at *
      clear Cq0 Fq0 Cq1 Fq1 Cq2 Fq2 Cq3 Fq3
      refine (HCUT.out w0).mono ?_
      rintro e s1z3w1 ⟨rfl, gs1z3w1⟩
      replace Bq := heap_kept gs1z3w1 Bq
      replace hG := grown_trans hG gs1z3w1
      clear gs1z3w1
      obtain ⟨Cq0, Cq1, Cq2, Cq3, Fq0, Fq1, Fq2, Fq3⟩ := box_cells4 Bq
      go_wp2_with fail
      clear Cq0 Fq0 Cq1 Fq1 Cq2 Fq2 Cq3 Fq3
      refine (HZP.out s1z3w1).mono ?_
      rintro e s1z3w2 ⟨_, rfl, ⟨su, xu, bu, rfl, hu, vu, tu⟩, gs1z3w2⟩
      have iu : IntV s1z3w2 (.agg #[.slice su xu.length xu.length, .bool bu]) (zval U) := ⟨su, xu, bu, rfl, hu, vu, tu⟩
      replace Bq := heap_kept gs1z3w2 Bq
      replace hG := grown_trans hG gs1z3w2
      clear gs1z3w2
      clear hu vu tu
      obtain ⟨Cq0, Cq1, Cq2, Cq3, Fq0, Fq1, Fq2, Fq3⟩ := box_cells4 Bq
      have gbs1z3w2 := (World.grownBy_alloc s1z3w2 (.cells #[.slice su xu.length xu.length, .bool bu] 26) none)
      have Bu := (heap_new s1z3w2 (.cells #[.slice su xu.length xu.length, .bool bu] 26) (s1z3w2.heap.size) rfl)
      have hzs1z3w2 : Hid (w.heap.size ≤ s1z3w2.heap.size) := Lib.hid hG.size
      have hlqs1z3w2 : Hid (w.heap.size < s1z3w2.heap.size) := Lib.hid (Array.getElem?_eq_some_iff.1 Bq).1
      clear Cq0 Fq0 Cq1 Fq1 Cq2 Fq2 Cq3 Fq3
      replace Bq := heap_kept gbs1z3w2 Bq
      replace iu := iu.kept gbs1z3w2
      replace hG := grown_trans hG gbs1z3w2
      clear gbs1z3w2
      obtain ⟨Cq0, Cq1, Cq2, Cq3, Fq0, Fq1, Fq2, Fq3⟩ := box_cells4 Bq
      obtain ⟨Cu0, Cu1, Fu0, Fu1⟩ := box_cells Bu
      go_wp2_with fail
      skip
      generalize (s1z3w2.alloc (.cells #[.slice su xu.length xu.length, .bool bu] 26)) = s1z3w3 at *
      generalize s1z3w2.heap.size = as1z3w2 at *
      replace hzs1z3w2 := hzs1z3w2.out
      replace hlqs1z3w2 := hlqs1z3w2.out
      have qd : RatV s1z3w3 (.agg #[.slice none 0 0, .bool false, .slice none 0 0, .bool false]) 0 := RatV.zero _
      clear Cq0 Fq0 Cq1 Fq1 Cq2 Fq2 Cq3 Fq3 Cu0 Fu0 Cu1 Fu1
      obtain ⟨k90, k91, k92, k93, k94, k95, k96, k97⟩ := box_cells4 Bq
      obtain ⟨q90, q91, q92, q93, q94, q95, q96, q97⟩ := box_cells4 (heap_set4 Bq (.slice none 0 0) (.bool false) (.slice none 0 0) (.bool false))
      have hF : Hid (RetRatE w (0) 3 (.returned (.tuple #[.agg #[.slice none 0 0, .bool false, .slice none 0 0, .bool false], .int .i64 3])) ((((s1z3w3.setCell ⟨w.heap.size, 0, none⟩ (.slice none 0 0)).setCell ⟨w.heap.size, 1, none⟩ (.bool false)).setCell ⟨w.heap.size, 2, none⟩ (.slice none 0 0)).setCell ⟨w.heap.size, 3, none⟩ (.bool false))) := ret_ratvE hG Bq (by omega) qd
      clear iu qd
      obtain ⟨Cu0, Cu1, Fu0, Fu1⟩ := box_cells Bu
      go_wp2_with fail
      exact bodyPost_ret (v := .tuple #[.agg #[.slice none 0 0, .bool false, .slice none 0 0, .bool false], .int .i64 3]) (by simp [results, Tryz.results4, go_sem, q90, q91, q92, q93]) rfl hF.out
end Go.Proofs.YtldkddogadmpbaaGreatDoor
namespace Go.Proofs.YtldkddogadmpbaaGreatDoor
open Go.RowKit Mat
set_option maxRecDepth 100000
set_option linter.unusedVariables false
set_option linter.unusedSimpArgs false
theorem zt_1 : ZTextOf { data := #[49] } 1 := ⟨[49], dec_of (by decide +kernel), by decide +kernel, by decide +kernel⟩
theorem zt_m2 : ZTextOf { data := #[45, 50] } (-2) := ⟨[50], dec_of (by decide +kernel), by decide +kernel, by decide +kernel⟩
theorem k_one : bval [65, 16, 0, 0, 0, 0, 0, 0] = 1 := by decide +kernel
theorem k_mtwo : bval [193, 32, 0, 0, 0, 0, 0, 0] = -2 := by decide +kernel
theorem n_one : (1 : Rat).num = 1 ∧ (1 : Rat).den = 1 := by decide
theorem n_mtwo : (-2 : Rat).num = -2 ∧ (-2 : Rat).den = 1 := by decide +kernel
theorem n_90 : (Rat.divInt 90 1).num = 90 ∧ (Rat.divInt 90 1).den = 1 := by decide +kernel
theorem n_mil : (Rat.divInt 1 1000).num = 1 ∧ (Rat.divInt 1 1000).den = 1000 := by decide +kernel
theorem enc_90 : EncIs (Rat.divInt 90 1) (some (66, 90 * 2 ^ 48)) := by
  obtain ⟨h1, h2⟩ := n_90
  refine Or.inl ⟨66, 90 * 2 ^ 48, rfl, by omega, by omega, ?_, ?_⟩
  · unfold EQ
    rw [h1, h2, HU_add (a := 48) (b := 4 * 66) (by omega)]
    obtain ⟨X, hX⟩ : ∃ X, 2 ^ (4 * 66) = X := ⟨_, rfl⟩
    rw [hX]
    show 90 * (2 ^ 48 * X) = 90 * 2 ^ 48 * X * 1
    omega
  · intro e' m' he hm h
    unfold EQ at h
    rw [h1, h2, HU_add (a := 4 * 78 - 4 * e') (b := 4 * e') (by omega)] at h
    have hp : 0 < 2 ^ (4 * e') := Nat.pow_pos (by omega)
    have h3 : 2 ^ 52 ≤ 2 ^ (4 * 78 - 4 * e') := Nat.pow_le_pow_right (by omega) (by omega)
    generalize 2 ^ (4 * 78 - 4 * e') = Y at h h3
    generalize 2 ^ (4 * e') = X at h hp
    have h4 : 90 * Y * X = m' * X := by rw [Nat.mul_one] at h; rw [Nat.mul_assoc]; exact h
    have h5 := Nat.eq_of_mul_eq_mul_right hp h4
    omega
theorem enc_mil : EncIs (Rat.divInt 1 1000) none := enc_none fun s hs h => by
  rw [n_mil.2] at h
  rcases Nat.lt_or_ge s 10 with g | g
  · have : s = 0 ∨ s = 1 ∨ s = 2 ∨ s = 3 ∨ s = 4 ∨ s = 5 ∨ s = 6 ∨ s = 7 ∨ s = 8 ∨ s = 9 := by omega
    rcases this with rfl | rfl | rfl | rfl | rfl | rfl | rfl | rfl | rfl | rfl <;> omega
  · have : 2 ^ 10 ≤ 2 ^ s := Nat.pow_le_pow_right (by omega) g
    omega
set_option maxHeartbeats 16000000 in
theorem known_any (w : World) (hTab : Tab w) :
    Calls Tryz.prog 6 #[] w (fun e w' => e = .returned (.bool true) ∧ w.grownBy w' none) := by
  have HTB : Hid (∀ W, w.grownBy W none → Tab W) := fun W hW => hTab.kept hW (by simp)
  clear hTab
  obtain ⟨r1, h1⟩ : ∃ r, bval [65, 16, 0, 0, 0, 0, 0, 0] = r := ⟨_, rfl⟩
  have k1 := k_one
  rw [h1] at k1
  have C1 : Hid (∀ W g cap, BySl W (some ⟨g, 0, none⟩) [65, 16, 0, 0, 0, 0, 0, 0] → 8 ≤ cap → cap ≤ 9223372036854775807 → Tab W → Calls Tryz.prog 22 #[.slice (some ⟨g, 0, none⟩) 8 cap] W (RetRatE W r1 0)) := fun W g cap hb h8 hc hT => by
    have h := Dec_any W (some ⟨g, 0, none⟩) 8 cap [65, 16, 0, 0, 0, 0, 0, 0] rfl hb h8 hc hT
    rw [h1] at h; exact h
  have N1 : Hid (r1.num.natAbs < B ^ 1 ∧ r1.den < B ^ 1) := ⟨by rw [k1, n_one.1]; unfold B; decide, by rw [k1, n_one.2]; unfold B; decide⟩
  have T1 : Hid (RTextOf { data := #[49] } r1) := Or.inl ⟨by rw [k1, n_one.2], by rw [k1, n_one.1]; exact zt_1⟩
  obtain ⟨r2, h2⟩ : ∃ r, bval [193, 32, 0, 0, 0, 0, 0, 0] = r := ⟨_, rfl⟩
  have k2 := k_mtwo
  rw [h2] at k2
  have C2 : Hid (∀ W g cap, BySl W (some ⟨g, 0, none⟩) [193, 32, 0, 0, 0, 0, 0, 0] → 8 ≤ cap → cap ≤ 9223372036854775807 → Tab W → Calls Tryz.prog 22 #[.slice (some ⟨g, 0, none⟩) 8 cap] W (RetRatE W r2 0)) := fun W g cap hb h8 hc hT => by
    have h := Dec_any W (some ⟨g, 0, none⟩) 8 cap [193, 32, 0, 0, 0, 0, 0, 0] rfl hb h8 hc hT
    rw [h2] at h; exact h
  have N2 : Hid (r2.num.natAbs < B ^ 1 ∧ r2.den < B ^ 1) := ⟨by rw [k2, n_mtwo.1]; unfold B; decide, by rw [k2, n_mtwo.2]; unfold B; decide⟩
  have T2 : Hid (RTextOf { data := #[45, 50] } r2) := Or.inl ⟨by rw [k2, n_mtwo.2], by rw [k2, n_mtwo.1]; exact zt_m2⟩
  obtain ⟨r3, h3⟩ : ∃ r, Rat.divInt 90 1 = r := ⟨_, rfl⟩
  have C3 : Hid (∀ W, Tab W → Calls Tryz.prog 23 #[.int .i64 90, .int .i64 1] W (RetRatE W r3 0)) := fun W hT => by
    have h := FOf_any W 90 1 (by omega) (by omega) (by omega) (by omega) hT
    rw [h3, if_neg (by decide)] at h; exact h
  have N3 : r3.num.natAbs < B ^ 1 ∧ r3.den < B ^ 1 := ⟨by rw [← h3, n_90.1]; unfold B; decide, by rw [← h3, n_90.2]; unfold B; decide⟩
  have E3 : Hid (∀ W v, RatV W v r3 → Calls Tryz.prog 7 #[v] W (fun e w' => ∃ a cap, e = .returned (.tuple #[.slice (some a) 8 cap, .int .i64 0]) ∧ w'.cell? a = some (.int .u8 66) ∧ w'.cell? ⟨a.block, a.off + 1, none⟩ = some (.int .u8 90) ∧ 8 ≤ cap ∧ cap ≤ 8 ∧ W.grownBy w' none)) := fun W v hv => by
    refine (Enc_any W v r3 1 hv (by omega) N3.1 N3.2).mono ?_
    rintro e w' ⟨o, s, n, cap, rfl, ho, hn, hb, hc, hc8, hg⟩
    have hn3 : r3.num = 90 := by rw [← h3]; exact n_90.1
    rw [← h3] at ho
    have := ho.uniq enc_90
    subst this
    have hl : encL r3 (some (66, 90 * 2 ^ 48)) = [66, 90, 0, 0, 0, 0, 0, 0] := by unfold encL; rw [hn3]; decide +kernel
    rw [hl] at hn hb
    subst hn
    obtain ⟨a, rfl, hx⟩ := hb.1.resolve_left (by simp)
    exact ⟨a, cap, rfl, hx 0 (by simp), hx 1 (by simp), hc, hc8, hg⟩
  obtain ⟨r4, h4⟩ : ∃ r, Rat.divInt 1 1000 = r := ⟨_, rfl⟩
  have C4 : Hid (∀ W, Tab W → Calls Tryz.prog 23 #[.int .i64 1, .int .i64 1000] W (RetRatE W r4 0)) := fun W hT => by
    have h := FOf_any W 1 1000 (by omega) (by omega) (by omega) (by omega) hT
    rw [h4, if_neg (by decide)] at h; exact h
  have N4 : r4.num.natAbs < B ^ 1 ∧ r4.den < B ^ 1 := ⟨by rw [← h4, n_mil.1]; unfold B; decide, by rw [← h4, n_mil.2]; unfold B; decide⟩
  have E4 : Hid (∀ W v, RatV W v r4 → Calls Tryz.prog 7 #[v] W (fun e w' => ∃ s n cap, e = .returned (.tuple #[.slice s n cap, .int .i64 4]) ∧ W.grownBy w' none)) := fun W v hv => by
    refine (Enc_any W v r4 1 hv (by omega) N4.1 N4.2).mono ?_
    rintro e w' ⟨o, s, n, cap, rfl, ho, hn, hb, hc, hc8, hg⟩
    rw [← h4] at ho
    have := ho.uniq enc_mil
    subst this
    exact ⟨s, n, cap, rfl, hg⟩
  clear h1 h2 h3 h4 k1 k2 N3 N4
  have hG : w.grownBy w none := grown_refl _ _
  have y1 := by_new w 5 65 16 0 0 0 0 0 0 (by decide)
  have gy1 := World.grownBy_alloc w (.cells #[.int .u8 65, .int .u8 16, .int .u8 0, .int .u8 0, .int .u8 0, .int .u8 0, .int .u8 0, .int .u8 0] 5) none
  replace hG := grown_trans hG gy1
  clear gy1
  go_enter Tryz.func6, Tryz.ntmps6
  go_wp2_with fail
  change BySl (w.alloc (.cells #[.int .u8 65, .int .u8 16, .int .u8 0, .int .u8 0, .int .u8 0, .int .u8 0, .int .u8 0, .int .u8 0] 5)) _ _ at y1
  generalize (w.alloc (.cells #[.int .u8 65, .int .u8 16, .int .u8 0, .int .u8 0, .int .u8 0, .int .u8 0, .int .u8 0, .int .u8 0] 5)) = w1 at *
  refine (C1.out w1 _ _ y1 (Nat.le_refl _) (by omega) (HTB.out _ hG)).mono ?_
  rintro e w2 ⟨_, rfl, ⟨sa, xa, ba, sa', xa', ba', rfl, ha, ha'⟩, gw2⟩
  have qa : RatV w2 (.agg #[.slice sa xa.length xa.length, .bool ba, .slice sa' xa'.length xa'.length, .bool ba']) (r1) := ⟨sa, xa, ba, sa', xa', ba', rfl, ha, ha'⟩
  replace hG := grown_trans hG gw2
  clear gw2
  clear ha ha'
  clear y1
  have gbw2 := (World.grownBy_alloc w2 (.cells #[.slice sa xa.length xa.length, .bool ba, .slice sa' xa'.length xa'.length, .bool ba'] 28) none)
  have Ba := (heap_new w2 (.cells #[.slice sa xa.length xa.length, .bool ba, .slice sa' xa'.length xa'.length, .bool ba'] 28) (w2.heap.size) rfl)
  have hzw2 : Hid (w.heap.size ≤ w2.heap.size) := Lib.hid hG.size
  replace qa := qa.kept gbw2
  replace hG := grown_trans hG gbw2
  clear gbw2
  obtain ⟨Ca0, Ca1, Ca2, Ca3, Fa0, Fa1, Fa2, Fa3⟩ := box_cells4 Ba
  have y2 := by_new (w2.alloc (.cells #[.slice sa xa.length xa.length, .bool ba, .slice sa' xa'.length xa'.length, .bool ba'] 28)) 5 193 32 0 0 0 0 0 0 (by decide)
  rw [show (w2.alloc (.cells #[.slice sa xa.length xa.length, .bool ba, .slice sa' xa'.length xa'.length, .bool ba'] 28)).heap.size = w2.heap.size + 1 by simp] at y2
  have gy2 := World.grownBy_alloc (w2.alloc (.cells #[.slice sa xa.length xa.length, .bool ba, .slice sa' xa'.length xa'.length, .bool ba'] 28)) (.cells #[.int .u8 193, .int .u8 32, .int .u8 0, .int .u8 0, .int .u8 0, .int .u8 0, .int .u8 0, .int .u8 0] 5) none
  clear Ca0 Ca1 Ca2 Ca3 Fa0 Fa1 Fa2 Fa3
  replace Ba := heap_kept gy2 Ba
  replace qa := qa.kept gy2
  replace hG := grown_trans hG gy2
  clear gy2
  obtain ⟨Ca0, Ca1, Ca2, Ca3, Fa0, Fa1, Fa2, Fa3⟩ := box_cells4 Ba
  go_wp2_with fail
  change BySl ((w2.alloc (.cells #[.slice sa xa.length xa.length, .bool ba, .slice sa' xa'.length xa'.length, .bool ba'] 28)).alloc (.cells #[.int .u8 193, .int .u8 32, .int .u8 0, .int .u8 0, .int .u8 0, .int .u8 0, .int .u8 0, .int .u8 0] 5)) _ _ at y2
  generalize ((w2.alloc (.cells #[.slice sa xa.length xa.length, .bool ba, .slice sa' xa'.length xa'.length, .bool ba'] 28)).alloc (.cells #[.int .u8 193, .int .u8 32, .int .u8 0, .int .u8 0, .int .u8 0, .int .u8 0, .int .u8 0, .int .u8 0] 5)) = w3 at *
  generalize w2.heap.size = aw2 at *
  replace hzw2 := hzw2.out
  clear Ca0 Ca1 Ca2 Ca3 Fa0 Fa1 Fa2 Fa3
  refine (C2.out w3 _ _ y2 (Nat.le_refl _) (by omega) (HTB.out _ hG)).mono ?_
  rintro e w4 ⟨_, rfl, ⟨sb, xb, bb, sb', xb', bb', rfl, hb, hb'⟩, gw4⟩
  have qb : RatV w4 (.agg #[.slice sb xb.length xb.length, .bool bb, .slice sb' xb'.length xb'.length, .bool bb']) (r2) := ⟨sb, xb, bb, sb', xb', bb', rfl, hb, hb'⟩
  replace Ba := heap_kept gw4 Ba
  replace qa := qa.kept gw4
  replace hG := grown_trans hG gw4
  clear gw4
  clear hb hb'
  obtain ⟨Ca0, Ca1, Ca2, Ca3, Fa0, Fa1, Fa2, Fa3⟩ := box_cells4 Ba
  clear y2
  have gbw4 := (World.grownBy_alloc w4 (.cells #[.slice sb xb.length xb.length, .bool bb, .slice sb' xb'.length xb'.length, .bool bb'] 28) none)
  have Bb := (heap_new w4 (.cells #[.slice sb xb.length xb.length, .bool bb, .slice sb' xb'.length xb'.length, .bool bb'] 28) (w4.heap.size) rfl)
  have hzw4 : Hid (w.heap.size ≤ w4.heap.size) := Lib.hid hG.size
  have hlaw4 : Hid (aw2 < w4.heap.size) := Lib.hid (Array.getElem?_eq_some_iff.1 Ba).1
  clear Ca0 Ca1 Ca2 Ca3 Fa0 Fa1 Fa2 Fa3
  replace Ba := heap_kept gbw4 Ba
  replace qa := qa.kept gbw4
  replace qb := qb.kept gbw4
  replace hG := grown_trans hG gbw4
  clear gbw4
  obtain ⟨Ca0, Ca1, Ca2, Ca3, Fa0, Fa1, Fa2, Fa3⟩ := box_cells4 Ba
  obtain ⟨Cb0, Cb1, Cb2, Cb3, Fb0, Fb1, Fb2, Fb3⟩ := box_cells4 Bb
  go_wp2_with fail
  generalize (w4.alloc (.cells #[.slice sb xb.length xb.length, .bool bb, .slice sb' xb'.length xb'.length, .bool bb'] 28)) = w5 at *
  generalize w4.heap.size = aw4 at *
  replace hzw4 := hzw4.out
  replace hlaw4 := hlaw4.out
  clear Ca0 Ca1 Ca2 Ca3 Fa0 Fa1 Fa2 Fa3 Cb0 Cb1 Cb2 Cb3 Fb0 Fb1 Fb2 Fb3
  refine (C3.out w5 (HTB.out _ hG)).mono ?_
  rintro e w6 ⟨_, rfl, ⟨sc, xc, bc, sc', xc', bc', rfl, hc, hc'⟩, gw6⟩
  have qc : RatV w6 (.agg #[.slice sc xc.length xc.length, .bool bc, .slice sc' xc'.length xc'.length, .bool bc']) (r3) := ⟨sc, xc, bc, sc', xc', bc', rfl, hc, hc'⟩
  replace Ba := heap_kept gw6 Ba
  replace Bb := heap_kept gw6 Bb
  replace qa := qa.kept gw6
  replace qb := qb.kept gw6
  replace hG := grown_trans hG gw6
  clear gw6
  clear hc hc'
  obtain ⟨Ca0, Ca1, Ca2, Ca3, Fa0, Fa1, Fa2, Fa3⟩ := box_cells4 Ba
  obtain ⟨Cb0, Cb1, Cb2, Cb3, Fb0, Fb1, Fb2, Fb3⟩ := box_cells4 Bb
  have gbw6 := (World.grownBy_alloc w6 (.cells #[.slice sc xc.length xc.length, .bool bc, .slice sc' xc'.length xc'.length, .bool bc'] 28) none)
  have Bc := (heap_new w6 (.cells #[.slice sc xc.length xc.length, .bool bc, .slice sc' xc'.length xc'.length, .bool bc'] 28) (w6.heap.size) rfl)
  have hzw6 : Hid (w.heap.size ≤ w6.heap.size) := Lib.hid hG.size
  have hlaw6 : Hid (aw2 < w6.heap.size) := Lib.hid (Array.getElem?_eq_some_iff.1 Ba).1
  have hlbw6 : Hid (aw4 < w6.heap.size) := Lib.hid (Array.getElem?_eq_some_iff.1 Bb).1
  clear Ca0 Ca1 Ca2 Ca3 Fa0 Fa1 Fa2 Fa3 Cb0 Cb1 Cb2 Cb3 Fb0 Fb1 Fb2 Fb3
  replace Ba := heap_kept gbw6 Ba
  replace Bb := heap_kept gbw6 Bb
  replace qa := qa.kept gbw6
  replace qb := qb.kept gbw6
  replace qc := qc.kept gbw6
  replace hG := grown_trans hG gbw6
  clear gbw6
  obtain ⟨Ca0, Ca1, Ca2, Ca3, Fa0, Fa1, Fa2, Fa3⟩ := box_cells4 Ba
  obtain ⟨Cb0, Cb1, Cb2, Cb3, Fb0, Fb1, Fb2, Fb3⟩ := box_cells4 Bb
  obtain ⟨Cc0, Cc1, Cc2, Cc3, Fc0, Fc1, Fc2, Fc3⟩ := box_cells4 Bc
  go_wp2_with fail
  generalize (w6.alloc (.cells #[.slice sc xc.length xc.length, .bool bc, .slice sc' xc'.length xc'.length, .bool bc'] 28)) = w7 at *
  generalize w6.heap.size = aw6 at *
  replace hzw6 := hzw6.out
  replace hlaw6 := hlaw6.out
  replace hlbw6 := hlbw6.out
  clear Ca0 Ca1 Ca2 Ca3 Fa0 Fa1 Fa2 Fa3 Cb0 Cb1 Cb2 Cb3 Fb0 Fb1 Fb2 Fb3 Cc0 Cc1 Cc2 Cc3 Fc0 Fc1 Fc2 Fc3
  refine (E3.out w7 _ qc).mono ?_
  rintro e w8 ⟨ad, capd, rfl, d0, d1, hd8, hd9, gw8⟩
  replace Ba := heap_kept gw8 Ba
  replace Bb := heap_kept gw8 Bb
  replace Bc := heap_kept gw8 Bc
  replace qa := qa.kept gw8
  replace qb := qb.kept gw8
  replace qc := qc.kept gw8
  replace hG := grown_trans hG gw8
  clear gw8
  obtain ⟨Ca0, Ca1, Ca2, Ca3, Fa0, Fa1, Fa2, Fa3⟩ := box_cells4 Ba
  obtain ⟨Cb0, Cb1, Cb2, Cb3, Fb0, Fb1, Fb2, Fb3⟩ := box_cells4 Bb
  obtain ⟨Cc0, Cc1, Cc2, Cc3, Fc0, Fc1, Fc2, Fc3⟩ := box_cells4 Bc
  have HD0 := Lib.hid d0; have HD1 := Lib.hid d1; clear d0 d1
  go_wp2_with fail
  have hDG := grown_refl w8 none
  clear Ca0 Ca1 Ca2 Ca3 Fa0 Fa1 Fa2 Fa3 Cb0 Cb1 Cb2 Cb3 Fb0 Fb1 Fb2 Fb3 Cc0 Cc1 Cc2 Cc3 Fc0 Fc1 Fc2 Fc3
  refine (C4.out w8 (HTB.out _ hG)).mono ?_
  rintro e w9 ⟨_, rfl, ⟨sm, xm, bm, sm', xm', bm', rfl, hm, hm'⟩, gw9⟩
  have qm : RatV w9 (.agg #[.slice sm xm.length xm.length, .bool bm, .slice sm' xm'.length xm'.length, .bool bm']) (r4) := ⟨sm, xm, bm, sm', xm', bm', rfl, hm, hm'⟩
  replace Ba := heap_kept gw9 Ba
  replace Bb := heap_kept gw9 Bb
  replace Bc := heap_kept gw9 Bc
  replace qa := qa.kept gw9
  replace qb := qb.kept gw9
  replace qc := qc.kept gw9
  replace hG := grown_trans hG gw9
  replace hDG := grown_trans hDG gw9
  clear gw9
  clear hm hm'
  obtain ⟨Ca0, Ca1, Ca2, Ca3, Fa0, Fa1, Fa2, Fa3⟩ := box_cells4 Ba
  obtain ⟨Cb0, Cb1, Cb2, Cb3, Fb0, Fb1, Fb2, Fb3⟩ := box_cells4 Bb
  obtain ⟨Cc0, Cc1, Cc2, Cc3, Fc0, Fc1, Fc2, Fc3⟩ := box_cells4 Bc
  have gbw9 := (World.grownBy_alloc w9 (.cells #[.slice sm xm.length xm.length, .bool bm, .slice sm' xm'.length xm'.length, .bool bm'] 28) none)
  have Bm := (heap_new w9 (.cells #[.slice sm xm.length xm.length, .bool bm, .slice sm' xm'.length xm'.length, .bool bm'] 28) (w9.heap.size) rfl)
  have hzw9 : Hid (w.heap.size ≤ w9.heap.size) := Lib.hid hG.size
  have hlaw9 : Hid (aw2 < w9.heap.size) := Lib.hid (Array.getElem?_eq_some_iff.1 Ba).1
  have hlbw9 : Hid (aw4 < w9.heap.size) := Lib.hid (Array.getElem?_eq_some_iff.1 Bb).1
  have hlcw9 : Hid (aw6 < w9.heap.size) := Lib.hid (Array.getElem?_eq_some_iff.1 Bc).1
  clear Ca0 Ca1 Ca2 Ca3 Fa0 Fa1 Fa2 Fa3 Cb0 Cb1 Cb2 Cb3 Fb0 Fb1 Fb2 Fb3 Cc0 Cc1 Cc2 Cc3 Fc0 Fc1 Fc2 Fc3
  replace Ba := heap_kept gbw9 Ba
  replace Bb := heap_kept gbw9 Bb
  replace Bc := heap_kept gbw9 Bc
  replace qa := qa.kept gbw9
  replace qb := qb.kept gbw9
  replace qc := qc.kept gbw9
  replace qm := qm.kept gbw9
  replace hG := grown_trans hG gbw9
  replace hDG := grown_trans hDG gbw9
  clear gbw9
  obtain ⟨Ca0, Ca1, Ca2, Ca3, Fa0, Fa1, Fa2, Fa3⟩ := box_cells4 Ba
  obtain ⟨Cb0, Cb1, Cb2, Cb3, Fb0, Fb1, Fb2, Fb3⟩ := box_cells4 Bb
  obtain ⟨Cc0, Cc1, Cc2, Cc3, Fc0, Fc1, Fc2, Fc3⟩ := box_cells4 Bc
  obtain ⟨Cm0, Cm1, Cm2, Cm3, Fm0, Fm1, Fm2, Fm3⟩ := box_cells4 Bm
  go_wp2_with fail
  generalize (w9.alloc (.cells #[.slice sm xm.length xm.length, .bool bm, .slice sm' xm'.length xm'.length, .bool bm'] 28)) = w10 at *
  generalize w9.heap.size = aw9 at *
  replace hzw9 := hzw9.out
  replace hlaw9 := hlaw9.out
  replace hlbw9 := hlbw9.out
  replace hlcw9 := hlcw9.out
  clear Ca0 Ca1 Ca2 Ca3 Fa0 Fa1 Fa2 Fa3 Cb0 Cb1 Cb2 Cb3 Fb0 Fb1 Fb2 Fb3 Cc0 Cc1 Cc2 Cc3 Fc0 Fc1 Fc2 Fc3 Cm0 Cm1 Cm2 Cm3 Fm0 Fm1 Fm2 Fm3
  refine (E4.out w10 _ qm).mono ?_
  rintro e w11 ⟨se, ne, ce, rfl, gw11⟩
  replace Ba := heap_kept gw11 Ba
  replace Bb := heap_kept gw11 Bb
  replace Bc := heap_kept gw11 Bc
  replace Bm := heap_kept gw11 Bm
  replace qa := qa.kept gw11
  replace qb := qb.kept gw11
  replace qc := qc.kept gw11
  replace qm := qm.kept gw11
  replace hG := grown_trans hG gw11
  replace hDG := grown_trans hDG gw11
  clear gw11
  obtain ⟨Ca0, Ca1, Ca2, Ca3, Fa0, Fa1, Fa2, Fa3⟩ := box_cells4 Ba
  obtain ⟨Cb0, Cb1, Cb2, Cb3, Fb0, Fb1, Fb2, Fb3⟩ := box_cells4 Bb
  obtain ⟨Cc0, Cc1, Cc2, Cc3, Fc0, Fc1, Fc2, Fc3⟩ := box_cells4 Bc
  obtain ⟨Cm0, Cm1, Cm2, Cm3, Fm0, Fm1, Fm2, Fm3⟩ := box_cells4 Bm
  go_wp2_with fail
  clear Ca0 Ca1 Ca2 Ca3 Fa0 Fa1 Fa2 Fa3 Cb0 Cb1 Cb2 Cb3 Fb0 Fb1 Fb2 Fb3 Cc0 Cc1 Cc2 Cc3 Fc0 Fc1 Fc2 Fc3 Cm0 Cm1 Cm2 Cm3 Fm0 Fm1 Fm2 Fm3
  refine (FText_any w11 _ r1 1 qa (by omega) N1.out.1 N1.out.2).mono ?_
  rintro e w12 ⟨x1', rfl, hx1, gw12⟩
  obtain rfl := rtext_uniq hx1 T1.out
  clear hx1
  replace Ba := heap_kept gw12 Ba
  replace Bb := heap_kept gw12 Bb
  replace Bc := heap_kept gw12 Bc
  replace Bm := heap_kept gw12 Bm
  replace qa := qa.kept gw12
  replace qb := qb.kept gw12
  replace qc := qc.kept gw12
  replace qm := qm.kept gw12
  replace hG := grown_trans hG gw12
  replace hDG := grown_trans hDG gw12
  clear gw12
  obtain ⟨Ca0, Ca1, Ca2, Ca3, Fa0, Fa1, Fa2, Fa3⟩ := box_cells4 Ba
  obtain ⟨Cb0, Cb1, Cb2, Cb3, Fb0, Fb1, Fb2, Fb3⟩ := box_cells4 Bb
  obtain ⟨Cc0, Cc1, Cc2, Cc3, Fc0, Fc1, Fc2, Fc3⟩ := box_cells4 Bc
  obtain ⟨Cm0, Cm1, Cm2, Cm3, Fm0, Fm1, Fm2, Fm3⟩ := box_cells4 Bm
  go_wp2_with fail
  clear Ca0 Ca1 Ca2 Ca3 Fa0 Fa1 Fa2 Fa3 Cb0 Cb1 Cb2 Cb3 Fb0 Fb1 Fb2 Fb3 Cc0 Cc1 Cc2 Cc3 Fc0 Fc1 Fc2 Fc3 Cm0 Cm1 Cm2 Cm3 Fm0 Fm1 Fm2 Fm3
  refine (FText_any w12 _ r2 1 qb (by omega) N2.out.1 N2.out.2).mono ?_
  rintro e w13 ⟨x2', rfl, hx2, gw13⟩
  obtain rfl := rtext_uniq hx2 T2.out
  clear hx2
  replace Ba := heap_kept gw13 Ba
  replace Bb := heap_kept gw13 Bb
  replace Bc := heap_kept gw13 Bc
  replace Bm := heap_kept gw13 Bm
  replace qa := qa.kept gw13
  replace qb := qb.kept gw13
  replace qc := qc.kept gw13
  replace qm := qm.kept gw13
  replace hG := grown_trans hG gw13
  replace hDG := grown_trans hDG gw13
  clear gw13
  obtain ⟨Ca0, Ca1, Ca2, Ca3, Fa0, Fa1, Fa2, Fa3⟩ := box_cells4 Ba
  obtain ⟨Cb0, Cb1, Cb2, Cb3, Fb0, Fb1, Fb2, Fb3⟩ := box_cells4 Bb
  obtain ⟨Cc0, Cc1, Cc2, Cc3, Fc0, Fc1, Fc2, Fc3⟩ := box_cells4 Bc
  obtain ⟨Cm0, Cm1, Cm2, Cm3, Fm0, Fm1, Fm2, Fm3⟩ := box_cells4 Bm
  have d0 := hDG.cell HD0.out (by simp)
  have d1 := hDG.cell HD1.out (by simp)
  go_wp2_with fail
  go_ret
  exact ⟨by first | rfl | simp, hG⟩
end Go.Proofs.YtldkddogadmpbaaGreatDoor
