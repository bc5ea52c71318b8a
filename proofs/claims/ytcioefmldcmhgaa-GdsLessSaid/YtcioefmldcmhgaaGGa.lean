/-
  Streams as trees: the document's Same, of any two trees.
-/
import Derived.Test.YtcioefmldcmhgaaGA2
import Derived.Test.YtcioefmldcmhgaaKSp
import Derived.Deep.CutBlock
namespace Go.Proofs.Ytcioefmldcmhgaa
open Go.RowKit
set_option maxRecDepth 100000
set_option linter.unusedVariables false
set_option linter.unusedSimpArgs false

theorem str_list (l m : List Nat) (hl : ∀ x ∈ l, x < 256) (hm : ∀ x ∈ m, x < 256) : ((strOf l).toList == (strOf m).toList) = decide (l = m) := by
  rw [ByteArray.toList_eq, ByteArray.toList_eq]
  by_cases h : l = m
  · subst h; rw [decide_eq_true rfl]; exact beq_self_eq_true _
  · rw [decide_eq_false h, beq_eq_false_iff_ne]
    intro e
    exact h (strOf_inj hl hm (ByteArray.ext (Array.toList_inj.1 e)))
set_option maxHeartbeats 16000000 in
theorem SameG_any (w : World) (k1 d1 k2 d2 : Nat) (s1 s2 : Option Addr) (n1 c1 n2 c2 : Nat) (l1 l2 : List Nat) (hn1 : l1.length = n1) (hn2 : l2.length = n2) (h1 : BySl w s1 l1) (h2 : BySl w s2 l2) :
    Calls Try.prog 25 #[.agg #[.int .u8 (k1 : Int), .int .u8 (d1 : Int), .slice s1 n1 c1], .agg #[.int .u8 (k2 : Int), .int .u8 (d2 : Int), .slice s2 n2 c2]] w (RetB w (decide (((k1, d1, l1) : KRec) = (k2, d2, l2)))) := by
  have g1 := World.grownBy_alloc w (.cells #[.int .u8 (k1 : Int), .int .u8 (d1 : Int), .slice s1 n1 c1] 45) none
  have b1 := heap_new w (.cells #[.int .u8 (k1 : Int), .int .u8 (d1 : Int), .slice s1 n1 c1] 45) w.heap.size rfl
  have g2 := World.grownBy_alloc (w.alloc (.cells #[.int .u8 (k1 : Int), .int .u8 (d1 : Int), .slice s1 n1 c1] 45)) (.cells #[.int .u8 (k2 : Int), .int .u8 (d2 : Int), .slice s2 n2 c2] 45) none
  have b2 := heap_new (w.alloc (.cells #[.int .u8 (k1 : Int), .int .u8 (d1 : Int), .slice s1 n1 c1] 45)) (.cells #[.int .u8 (k2 : Int), .int .u8 (d2 : Int), .slice s2 n2 c2] 45) (w.heap.size + 1) (by simp)
  replace b1 := heap_kept g2 b1
  have hG := grown_trans g1 g2
  have e1 := conv_by _ s1 n1 c1 l1 hn1 (h1.kept hG)
  have e2 := conv_by _ s2 n2 c2 l2 hn2 (h2.kept hG)
  have hse := str_list l1 l2 h1.2 h2.2
  have HG := Lib.hid hG
  obtain ⟨C0, C1, C2, _, _, _⟩ := box_cells3 b1
  obtain ⟨D0, D1, D2, _, _, _⟩ := box_cells3 b2
  clear b1 b2 g1 g2 h1 h2 hn1 hn2 hG
  by_cases hk : k1 = k2
  · by_cases hd : d1 = d2
    · by_cases hl : l1 = l2
      · have t1 : ((k1 : Int) == (k2 : Int)) = true := beq_iff_eq.2 (by omega)
        have t2 : ((d1 : Int) == (d2 : Int)) = true := beq_iff_eq.2 (by omega)
        have t4 : ((strOf l1).toList == (strOf l2).toList) = true := by rw [hse, hl]; simp
        have HF := Lib.hid (show decide (((k1, d1, l1) : KRec) = (k2, d2, l2)) = true by rw [hk, hd, hl]; simp)
        clear hse hk hd hl
        go_enter Try.func25, Try.ntmps25
        go_wp2_with (simp only [e1, e2])
        go_ret
        exact ⟨by rw [HF.out]; simp [t4], HG.out⟩
      · have t1 : ((k1 : Int) == (k2 : Int)) = true := beq_iff_eq.2 (by omega)
        have t2 : ((d1 : Int) == (d2 : Int)) = true := beq_iff_eq.2 (by omega)
        have t4 : ((strOf l1).toList == (strOf l2).toList) = false := by rw [hse]; exact decide_eq_false hl
        have HF := Lib.hid (show decide (((k1, d1, l1) : KRec) = (k2, d2, l2)) = false by simp [hl])
        clear hse hk hd hl
        go_enter Try.func25, Try.ntmps25
        go_wp2_with (simp only [e1, e2])
        go_ret
        exact ⟨by rw [HF.out]; simp [t4], HG.out⟩
    · have t1 : ((k1 : Int) == (k2 : Int)) = true := beq_iff_eq.2 (by omega)
      have t2 : ((d1 : Int) == (d2 : Int)) = false := beq_eq_false_iff_ne.2 (by omega)
      have HF := Lib.hid (show decide (((k1, d1, l1) : KRec) = (k2, d2, l2)) = false by simp [hd])
      clear hse hk hd
      go_enter Try.func25, Try.ntmps25
      go_wp2_with (simp only [e1, e2])
      go_ret
      exact ⟨by rw [HF.out]; simp, HG.out⟩
  · have t1 : ((k1 : Int) == (k2 : Int)) = false := beq_eq_false_iff_ne.2 (by omega)
    have HF := Lib.hid (show decide (((k1, d1, l1) : KRec) = (k2, d2, l2)) = false by simp [hk])
    clear hse hk
    go_enter Try.func25, Try.ntmps25
    go_wp2_with (simp only [e1, e2])
    go_ret
    exact ⟨by rw [HF.out]; simp, HG.out⟩
theorem take_snoc7 {α : Type} {l : List α} {k : Nat} (h : k < l.length) : l.take (k + 1) = l.take k ++ [l[k]] := by
  rw [List.take_add_one, List.getElem?_eq_getElem h]; rfl
theorem take_eq_more {rs ss : List KRec} {k : Nat} (h : rs.take k = ss.take k) (h1 : k < rs.length) (h2 : k < ss.length) (e : rs[k] = ss[k]) : rs.take (k + 1) = ss.take (k + 1) := by
  rw [take_snoc7 h1, take_snoc7 h2, h, e]
set_option maxHeartbeats 16000000 in
theorem AllG_any (w : World) (s1 s2 : Option Addr) (n n2 c1 c2 : Nat) (rs ss : List KRec) (hn1 : rs.length = n) (hn2 : ss.length = n2) (h1 : RcSl w s1 rs) (h2 : RcSl w s2 ss) (hb : n ≤ 9223372036854775807) (hb2 : n2 ≤ 9223372036854775807) :
    Calls Try.prog 34 #[.slice s1 n c1, .slice s2 n2 c2] w (RetB w (decide (rs = ss))) := by
  by_cases hne : n = n2
  · subst hne
    have HQ : Hid (∀ (b : Bool) W, decide (rs = ss) = b → w.grownBy W none → RetB w (decide (rs = ss)) (.returned (.bool b)) W) := Lib.hid fun b W h hg => ⟨by rw [h], hg⟩
    obtain ⟨P, hP⟩ : ∃ P, RetB w (decide (rs = ss)) = P := ⟨_, rfl⟩
    rw [hP] at HQ ⊢
    have HR1 := Lib.hid h1
    have HR2 := Lib.hid h2
    have HN1 := Lib.hid hn1
    have HN2 := Lib.hid hn2
    have hG : w.grownBy w none := grown_refl _ _
    have t0 : ((n : Int) != (n : Int)) = false := by simp
    clear h1 h2 hn1 hn2 hP
    go_enter Try.func34, Try.ntmps34
    go_wp2_with fail
    go_loopg [4, 5] n (fun gh y i wr => ∃ k : Nat, y = .bool false ∧ k ≤ n ∧ n - k ≤ gh ∧ i = .int .i64 (k : Int) ∧ Hid (rs.take k = ss.take k) ∧ w.grownBy wr none)
    case atStart => exact ⟨0, rfl, Nat.zero_le _, Nat.le_refl _, rfl, Lib.hid rfl, hG⟩
    case round =>
      clear hG
      obtain ⟨k, rfl, hk, hgh, rfl, HTK, hG⟩ := hrel
      by_cases hlt : k < n
      · have f1 : decide ((k : Int) < (n : Int)) = true := decide_eq_true (by omega)
        have hkr : k < rs.length := by rw [HN1.out]; exact hlt
        have hks : k < ss.length := by rw [HN2.out]; exact hlt
        obtain ⟨a, q, sb, cb, kd, dt, bd, rfl, hq, hr, A0, A1, A2, HB, _⟩ := HR1.out.at k hkr
        obtain ⟨a', q', sb', cb', kd', dt', bd', rfl, hq', hr', B0, B1, B2, HB', _⟩ := HR2.out.at k hks
        obtain ⟨L1, hL1⟩ : ∃ L, bd.length = L := ⟨_, rfl⟩
        obtain ⟨L2, hL2⟩ : ∃ L, bd'.length = L := ⟨_, rfl⟩
        rw [hL1] at A2
        rw [hL2] at B2
        have HL1 := Lib.hid hL1
        have HL2 := Lib.hid hL2
        obtain ⟨v, hv⟩ : ∃ v, decide (((kd, dt, bd) : KRec) = (kd', dt', bd')) = v := ⟨_, rfl⟩
        have HV := Lib.hid hv
        have HMORE : Hid (v = true → rs.take (k + 1) = ss.take (k + 1)) := Lib.hid fun e => take_eq_more HTK.out hkr hks (by rw [hr, hr']; exact of_decide_eq_true (by rw [hv, e]))
        have HLESS : Hid (v = false → decide (rs = ss) = false) := Lib.hid fun e => decide_eq_false (fun h => by
          have h9 : rs[k] = ss[k] := by simp only [h]
          rw [hr, hr'] at h9
          rw [e] at hv
          exact of_decide_eq_false hv h9)
        have HBK := Lib.hid (HB.kept hG)
        have HBK' := Lib.hid (HB'.kept hG)
        have HGG := Lib.hid hG
        have HA := Lib.hid (And.intro A0 (And.intro A1 (And.intro A2 (And.intro B0 (And.intro B1 B2)))))
        replace A0 := hG.cell A0 (by simp)
        replace A1 := hG.cell A1 (by simp)
        replace A2 := hG.cell A2 (by simp)
        replace B0 := hG.cell B0 (by simp)
        replace B1 := hG.cell B1 (by simp)
        replace B2 := hG.cell B2 (by simp)
        clear HB HB' hG hr hr' hv hL1 hL2 hkr hks
        go_wp2_with fail
        go_region_held3 (fun w' => w'.cell? q = some (.int .u8 (kd : Int)) ∧ w'.cell? ⟨q.block, q.off + 1, none⟩ = some (.int .u8 (dt : Int)) ∧ w'.cell? ⟨q.block, q.off + 2, none⟩ = some (.slice sb L1 cb) ∧ w'.cell? q' = some (.int .u8 (kd' : Int)) ∧ w'.cell? ⟨q'.block, q'.off + 1, none⟩ = some (.int .u8 (dt' : Int)) ∧ w'.cell? ⟨q'.block, q'.off + 2, none⟩ = some (.slice sb' L2 cb'))
          (first | assumption | exact ⟨A0, A1, A2, B0, B1, B2⟩ | go_keep)
          (first
            | (go_at_call 25; (with_reducible refine (SameG_any _ kd dt kd' dt' sb sb' L1 cb L2 cb' bd bd' HL1.out HL2.out (HBK.out.kept (grown_drew (grown_refl _ _))) (HBK'.out.kept (grown_drew (grown_refl _ _)))).mono ?_); rw [HV.out]; rintro e w1 ⟨rfl, hg1⟩; have HG1 := Lib.hid (grown_trans HGG.out (grown_trans (grown_drew (grown_refl _ _)) hg1)); have A0 := HG1.out.cell HA.out.1 (by simp); have A1 := HG1.out.cell HA.out.2.1 (by simp); have A2 := HG1.out.cell HA.out.2.2.1 (by simp); have B0 := HG1.out.cell HA.out.2.2.2.1 (by simp); have B1 := HG1.out.cell HA.out.2.2.2.2.1 (by simp); have B2 := HG1.out.cell HA.out.2.2.2.2.2 (by simp); clear hg1))
        cases v with
        | true =>
          go_wp2_with fail
          go_roundg (n - (k + 1))
          case measure => omega
          case rel => exact ⟨k + 1, rfl, by omega, Nat.le_refl _, by go_num, Lib.hid (HMORE.out trivial), HG1.out⟩
        | false =>
          have HF := Lib.hid (HQ.out false w1 (HLESS.out (by first | rfl | trivial)) HG1.out)
          go_wp2_with fail
          exact HF.out
      · have f1 : decide ((k : Int) < (n : Int)) = false := decide_eq_false (by omega)
        have he : decide (rs = ss) = true := decide_eq_true (by
          have h := HTK.out
          rwa [List.take_of_length_le (by rw [HN1.out]; omega), List.take_of_length_le (by rw [HN2.out]; omega)] at h)
        have HF := Lib.hid (HQ.out true wr he hG)
        clear hG he
        go_wp2_with fail
        exact HF.out
  · have t0 : ((n : Int) != (n2 : Int)) = true := bne_iff_ne.2 (by omega)
    have HF := Lib.hid (show decide (rs = ss) = false from decide_eq_false fun h => hne (by rw [← hn1, ← hn2, h]))
    clear hne hn1 hn2 h1 h2
    go_enter Try.func34, Try.ntmps34
    go_wp2_with fail
    go_ret
    exact ⟨by rw [HF.out]; rfl, grown_refl _ _⟩
end Go.Proofs.Ytcioefmldcmhgaa
namespace Go.Proofs.Ytcioefmldcmhgaa
open Go.RowKit
set_option maxRecDepth 100000
set_option linter.unusedVariables false
set_option linter.unusedSimpArgs false

/-- Are two things the same? -/
noncomputable def eqB {α : Type} (x y : α) : Bool := @decide (x = y) (Classical.propDecidable _)
theorem eqB_yes {α : Type} {x y : α} (h : x = y) : eqB x y = true := by unfold eqB; exact @decide_eq_true _ (Classical.propDecidable _) h
theorem eqB_no {α : Type} {x y : α} (h : ¬ x = y) : eqB x y = false := by unfold eqB; exact @decide_eq_false _ (Classical.propDecidable _) h
theorem lib_ne1 {t u : KLib} (h : decide (t.1 = u.1) = false) : eqB t u = false := eqB_no fun e => of_decide_eq_false h (by rw [e])
theorem lib_ne2 {t u : KLib} {N N' : Nat} (h1 : t.2.length = N) (h2 : u.2.length = N') (h : N ≠ N') : eqB t u = false := eqB_no fun e => h (by rw [← h1, ← h2, e])
theorem lib_ne3 {t u : KLib} {k : Nat} {c d : KCell} (h1 : t.2[k]? = some c) (h2 : u.2[k]? = some d) (h : c ≠ d) : eqB t u = false := eqB_no fun e => h (by rw [e, h2] at h1; exact (Option.some.inj h1).symm)
theorem lib_eq {t u : KLib} {n : Nat} (h1 : t.1 = u.1) (h2 : t.2.take n = u.2.take n) (h3 : t.2.length = n) (h4 : u.2.length = n) : eqB t u = true := eqB_yes (by
  rw [List.take_of_length_le (by omega), List.take_of_length_le (by omega)] at h2
  exact Prod.ext h1 h2)
theorem cell_ne1 {c d : KCell} (h : decide (c.1 = d.1) = false) : c ≠ d := fun e => of_decide_eq_false h (by rw [e])
theorem cell_ne2 {c d : KCell} {N N' : Nat} (h1 : c.2.length = N) (h2 : d.2.length = N') (h : N ≠ N') : c ≠ d := fun e => h (by rw [← h1, ← h2, e])
theorem cell_ne3 {c d : KCell} {k : Nat} {x y : KItem} (h1 : c.2[k]? = some x) (h2 : d.2[k]? = some y) (h : x ≠ y) : c ≠ d := fun e => h (by rw [e, h2] at h1; exact (Option.some.inj h1).symm)
theorem cell_eq {c d : KCell} {n : Nat} (h1 : decide (c.1 = d.1) = true) (h2 : c.2.take n = d.2.take n) (h3 : c.2.length = n) (h4 : d.2.length = n) : c = d := by
  rw [List.take_of_length_le (by omega), List.take_of_length_le (by omega)] at h2
  exact Prod.ext (of_decide_eq_true h1) h2
theorem item_eq {x y : KItem} (h1 : decide (x.1 = y.1) = true) (h2 : decide (x.2 = y.2) = true) : x = y := Prod.ext (of_decide_eq_true h1) (of_decide_eq_true h2)
theorem item_ne1 {x y : KItem} (h : decide (x.1 = y.1) = false) : x ≠ y := fun e => of_decide_eq_false h (by rw [e])
theorem item_ne2 {x y : KItem} (h : decide (x.2 = y.2) = false) : x ≠ y := fun e => of_decide_eq_false h (by rw [e])
theorem take_more_eq {α : Type} {l m : List α} {k : Nat} {x : α} (h : l.take k = m.take k) (h1 : l[k]? = some x) (h2 : m[k]? = some x) : l.take (k + 1) = m.take (k + 1) := by
  rw [List.take_add_one, List.take_add_one, h, h1, h2]
set_option maxHeartbeats 64000000 in
theorem SameG7_any (w : World) (v v' : Value) (t u : KLib) (hv : LibV w v t) (hv' : LibV w v' u) :
    Calls Try.prog 13 #[v, v'] w (RetB w (eqB t u)) := by
  have HQ : Hid (∀ (b : Bool) W, eqB t u = b → w.grownBy W none → RetB w (eqB t u) (.returned (.bool b)) W) := Lib.hid fun b W h hg => ⟨by rw [h], hg⟩
  obtain ⟨P, hP⟩ : ∃ P, RetB w (eqB t u) = P := ⟨_, rfl⟩
  rw [hP] at HQ ⊢
  clear hP
  obtain ⟨a, b, rfl, ⟨sa, ca, rfl, ha, hoka, _⟩, sc, cc, rfl, hp, hokc⟩ := hv
  obtain ⟨a', b', rfl, ⟨sa', ca', rfl, ha', hoka', _⟩, sc', cc', rfl, hp', hokc'⟩ := hv'
  obtain ⟨N1, hN1⟩ : ∃ N, t.1.length = N := ⟨_, rfl⟩
  obtain ⟨N1', hN1'⟩ : ∃ N, u.1.length = N := ⟨_, rfl⟩
  obtain ⟨N, hN⟩ : ∃ N, t.2.length = N := ⟨_, rfl⟩
  obtain ⟨N', hN'⟩ : ∃ N, u.2.length = N := ⟨_, rfl⟩
  rw [hN1] at hoka ⊢
  rw [hN1'] at hoka' ⊢
  rw [hN] at hokc ⊢
  rw [hN'] at hokc' ⊢
  have hNm : N ≤ 9223372036854775807 := Nat.le_trans hokc.2.1 hokc.2.2
  have hNm' : N' ≤ 9223372036854775807 := Nat.le_trans hokc'.2.1 hokc'.2.2
  have hN1m : N1 ≤ 9223372036854775807 := Nat.le_trans hoka.2.1 hoka.2.2
  have hN1m' : N1' ≤ 9223372036854775807 := Nat.le_trans hoka'.2.1 hoka'.2.2
  have g1 := World.grownBy_alloc w (.cells #[.slice sa N1 ca, .slice sc N cc] 27) none
  have Bt := heap_new w (.cells #[.slice sa N1 ca, .slice sc N cc] 27) w.heap.size rfl
  have g2 := World.grownBy_alloc (w.alloc (.cells #[.slice sa N1 ca, .slice sc N cc] 27)) (.cells #[.slice sa' N1' ca', .slice sc' N' cc'] 27) none
  have Bu := heap_new (w.alloc (.cells #[.slice sa N1 ca, .slice sc N cc] 27)) (.cells #[.slice sa' N1' ca', .slice sc' N' cc'] 27) (w.heap.size + 1) (by simp)
  replace Bt := heap_kept g2 Bt
  have hG := grown_trans g1 g2
  have HA := Lib.hid ha
  have HA' := Lib.hid ha'
  have HP := Lib.hid hp
  have HP' := Lib.hid hp'
  have HN := Lib.hid hN
  have HN' := Lib.hid hN'
  have HN1 := Lib.hid hN1
  have HN1' := Lib.hid hN1'
  have HBT := Lib.hid Bt
  have HBU := Lib.hid Bu
  obtain ⟨v0, hv0⟩ : ∃ v0, decide (t.1 = u.1) = v0 := ⟨_, rfl⟩
  have HV0 := Lib.hid hv0
  clear ha ha' hp hp' hN hN' hN1 hN1' hoka hoka' hokc hokc' g1 g2 hv0
  go_enter Try.func13, Try.ntmps13
  obtain ⟨C0, C1, _, _⟩ := box_cells2 Bt
  obtain ⟨D0, D1, _, _⟩ := box_cells2 Bu
  go_wp2_with fail
  generalize ((w.alloc (.cells #[.slice sa N1 ca, .slice sc N cc] 27)).alloc (.cells #[.slice sa' N1' ca', .slice sc' N' cc'] 27)) = wa at *
  have HG := Lib.hid hG
  clear Bt Bu hG
  refine (AllG_any wa sa sa' N1 N1' ca ca' t.1 u.1 HN1.out HN1'.out (HA.out.kept HG.out) (HA'.out.kept HG.out) hN1m hN1m').mono ?_
  rw [HV0.out]
  rintro e w1 ⟨rfl, hg1⟩
  have HW1 := Lib.hid hg1
  clear C0 C1 D0 D1 hg1
  obtain ⟨C0, C1, _, _⟩ := box_cells2 (heap_kept HW1.out HBT.out)
  obtain ⟨D0, D1, _, _⟩ := box_cells2 (heap_kept HW1.out HBU.out)
  cases v0 with
  | false =>
    have HF := Lib.hid (HQ.out false w1 (lib_ne1 HV0.out) (grown_trans HG.out HW1.out))
    go_wp2_with fail
    exact HF.out
  | true =>
  by_cases hnn : N = N'
  case neg =>
    have t0 : ((N : Int) != (N' : Int)) = true := bne_iff_ne.2 (by omega)
    have HF := Lib.hid (HQ.out false w1 (lib_ne2 HN.out HN'.out hnn) (grown_trans HG.out HW1.out))
    clear hnn
    go_wp2_with fail
    exact HF.out
  subst hnn
  have f0 : ((N : Int) != (N : Int)) = false := by simp
  go_wp2_with fail
  go_loopg [4, 5] N (fun gh y i wr => ∃ k : Nat, y = .bool false ∧ k ≤ N ∧ N - k ≤ gh ∧ i = .int .i64 (k : Int) ∧ Hid (t.2.take k = u.2.take k) ∧ Hid (wa.grownBy wr none))
  case atStart => exact ⟨0, rfl, Nat.zero_le _, Nat.le_refl _, rfl, Lib.hid rfl, HW1⟩
  case round =>
    obtain ⟨k, rfl, hk, hgh, rfl, HTK, HW⟩ := hrel
    clear C0 C1 D0 D1
    obtain ⟨C0, C1, _, _⟩ := box_cells2 (heap_kept HW.out HBT.out)
    obtain ⟨D0, D1, _, _⟩ := box_cells2 (heap_kept HW.out HBU.out)
    by_cases hlt : k < N
    · have f1 : decide ((k : Int) < (N : Int)) = true := decide_eq_true (by omega)
      have hkl : k < t.2.length := by have := HN.out; omega
      have hkl' : k < u.2.length := by have := HN'.out; omega
      obtain ⟨ad, q, u0, x, hsc, hq, A0, A1, hu, hx⟩ := HP.out.at k hkl
      obtain ⟨ad', q', u', x', hsc', hq', A0', A1', hu', hx'⟩ := HP'.out.at k hkl'
      obtain ⟨c, hc⟩ : ∃ c, t.2[k] = c := ⟨_, rfl⟩
      obtain ⟨d, hd⟩ : ∃ d, u.2[k] = d := ⟨_, rfl⟩
      have HCK : Hid (t.2[k]? = some c) := Lib.hid (by rw [List.getElem?_eq_getElem hkl, hc])
      have HDK : Hid (u.2[k]? = some d) := Lib.hid (by rw [List.getElem?_eq_getElem hkl', hd])
      rw [hc] at hu hx
      rw [hd] at hu' hx'
      obtain ⟨su, cu, rfl, hru, hoku, _⟩ := hu
      obtain ⟨su', cu', rfl, hru', hoku', _⟩ := hu'
      obtain ⟨sv, cv, rfl, hpi, hoki⟩ := ItemsV.open hx
      obtain ⟨sv', cv', rfl, hpi', hoki'⟩ := ItemsV.open hx'
      obtain ⟨R, hR⟩ : ∃ R, c.1.length = R := ⟨_, rfl⟩
      obtain ⟨M, hM⟩ : ∃ M, c.2.length = M := ⟨_, rfl⟩
      obtain ⟨R', hR'⟩ : ∃ R, d.1.length = R := ⟨_, rfl⟩
      obtain ⟨M', hM'⟩ : ∃ M, d.2.length = M := ⟨_, rfl⟩
      rw [hM] at hoki A1
      rw [hM'] at hoki' A1'
      rw [hR] at A0 hoku
      rw [hR'] at A0' hoku'
      have hMm : M ≤ 9223372036854775807 := Nat.le_trans hoki.2.1 hoki.2.2
      have hRm : R ≤ 9223372036854775807 := Nat.le_trans hoku.2.1 hoku.2.2
      have hMm' : M' ≤ 9223372036854775807 := Nat.le_trans hoki'.2.1 hoki'.2.2
      have hRm' : R' ≤ 9223372036854775807 := Nat.le_trans hoku'.2.1 hoku'.2.2
      have HRU := Lib.hid hru
      have HRU' := Lib.hid hru'
      have HI := Lib.hid hpi
      have HI' := Lib.hid hpi'
      have HM := Lib.hid hM
      have HR := Lib.hid hR
      have HM' := Lib.hid hM'
      have HR' := Lib.hid hR'
      have HGA := Lib.hid (grown_trans HG.out HW.out)
      replace A0 := HGA.out.cell A0 (by simp)
      replace A1 := HGA.out.cell A1 (by simp)
      replace A0' := HGA.out.cell A0' (by simp)
      replace A1' := HGA.out.cell A1' (by simp)
      have i0 : (0 : Int) ≤ (k : Int) ∧ (k : Int) < (N : Int) := by omega
      subst hsc hsc'
      obtain ⟨v1, hv1⟩ : ∃ v1, decide (c.1 = d.1) = v1 := ⟨_, rfl⟩
      have HV1 := Lib.hid hv1
      clear hc hd hru hru' hoku hoku' hpi hpi' hoki hoki' hR hM hR' hM' hkl hkl' hx hx' hv1
      go_upto_region 6 with fail
      go_cut [6, 7] from 31 to 41 (fun y z wx => ∃ g h : Nat, y = .pointer (some ⟨g, 0, none⟩) ∧ z = .pointer (some ⟨h, 0, none⟩) ∧ Hid (wr.grownBy wx none) ∧ Hid (wx.heap[g]? = some (.cells #[.slice su R cu, .slice sv M cv] 50 (0, 0))) ∧ Hid (wx.heap[h]? = some (.cells #[.slice su' R' cu', .slice sv' M' cv'] 50 (0, 0))))
      case first =>
        have gz1 := World.grownBy_alloc wr (.cells #[.slice none 0 0, .slice none 0 0] 50) none
        have gz2 := grown_trans gz1 (World.grownBy_alloc (wr.alloc (.cells #[.slice none 0 0, .slice none 0 0] 50)) (.cells #[.slice none 0 0, .slice none 0 0] 50) none)
        have C1b := gz1.cell C1 (by simp)
        have D1b := gz1.cell D1 (by simp)
        have A0b := gz1.cell A0 (by simp)
        have A1b := gz1.cell A1 (by simp)
        have A0pb := gz1.cell A0' (by simp)
        have A1pb := gz1.cell A1' (by simp)
        have C1c := gz2.cell C1 (by simp)
        have D1c := gz2.cell D1 (by simp)
        have A0c := gz2.cell A0 (by simp)
        have A1c := gz2.cell A1 (by simp)
        have A0pc := gz2.cell A0' (by simp)
        have A1pc := gz2.cell A1' (by simp)
        have gz3 := grown_trans gz1 (World.grownBy_alloc (wr.alloc (.cells #[.slice none 0 0, .slice none 0 0] 50)) (.cells #[.slice su R cu, .slice sv M cv] 50) none)
        have gz4 := grown_trans (World.grownBy_alloc wr (.cells #[.slice su R cu, .slice sv M cv] 50) none) (World.grownBy_alloc (wr.alloc (.cells #[.slice su R cu, .slice sv M cv] 50)) (.cells #[.slice none 0 0, .slice none 0 0] 50) none)
        have D1d := gz3.cell D1 (by simp)
        have A0pd := gz3.cell A0' (by simp)
        have A1pd := gz3.cell A1' (by simp)
        have D1e := gz4.cell D1 (by simp)
        have A0pe := gz4.cell A0' (by simp)
        have A1pe := gz4.cell A1' (by simp)
        clear gz1 gz2 gz3 gz4
        go_region
        all_goals go_wp2_with fail
        all_goals first | go_meet | skip
        all_goals first
          | exact ⟨_, _, rfl, rfl, Lib.hid (two_new wr _ _ _ _).1, Lib.hid (two_new wr _ _ _ _).2.1, Lib.hid (two_new wr _ _ _ _).2.2⟩
          | exact ⟨_, _, rfl, rfl, Lib.hid (two_new wr _ _ _ _).1, Lib.hid (two_new wr _ _ _ _).2.2, Lib.hid (two_new wr _ _ _ _).2.1⟩
      case rest =>
        obtain ⟨g, h, rfl, rfl, HX, HBG, HBH⟩ := hcut
        have HWX := Lib.hid (grown_trans HW.out HX.out)
        have HGX := Lib.hid (grown_trans HG.out HWX.out)
        clear C0 C1 D0 D1 A0 A1 A0' A1' HX
        obtain ⟨E0, E1, _, _⟩ := box_cells2 HBG.out
        obtain ⟨F0, F1, _, _⟩ := box_cells2 HBH.out
        go_wp2_with fail
        refine (AllG_any _ su su' R R' cu cu' c.1 d.1 HR.out HR'.out (HRU.out.kept HGX.out) (HRU'.out.kept HGX.out) hRm hRm').mono ?_
        rw [HV1.out]
        rintro e w2 ⟨rfl, hg2⟩
        have HX2 := Lib.hid hg2
        clear E0 E1 F0 F1 hg2
        obtain ⟨E0, E1, _, _⟩ := box_cells2 (heap_kept HX2.out HBG.out)
        obtain ⟨F0, F1, _, _⟩ := box_cells2 (heap_kept HX2.out HBH.out)
        cases v1 with
        | false =>
          have HF := Lib.hid (HQ.out false w2 (lib_ne3 HCK.out HDK.out (cell_ne1 HV1.out)) (grown_trans HGX.out HX2.out))
          go_wp2_with fail
          exact HF.out
        | true =>
        by_cases hmm : M = M'
        case neg =>
          have t0 : ((M : Int) != (M' : Int)) = true := bne_iff_ne.2 (by omega)
          have HF := Lib.hid (HQ.out false w2 (lib_ne3 HCK.out HDK.out (cell_ne2 HM.out HM'.out hmm)) (grown_trans HGX.out HX2.out))
          clear hmm
          go_wp2_with fail
          exact HF.out
        subst hmm
        have f5 : ((M : Int) != (M : Int)) = false := by simp
        go_wp2_with fail
        go_loopg [4, 8] M (fun gh y i wr => ∃ j : Nat, y = .bool false ∧ j ≤ M ∧ M - j ≤ gh ∧ i = .int .i64 (j : Int) ∧ Hid (c.2.take j = d.2.take j) ∧ Hid (wc.grownBy wr none))
        case atStart => exact ⟨0, rfl, Nat.zero_le _, Nat.le_refl _, rfl, Lib.hid rfl, HX2⟩
        case round =>
          obtain ⟨j, rfl, hj, hgh2, rfl, HTJ, HV⟩ := hrel
          clear E0 E1 F0 F1
          obtain ⟨E0, E1, _, _⟩ := box_cells2 (heap_kept HV.out HBG.out)
          obtain ⟨F0, F1, _, _⟩ := box_cells2 (heap_kept HV.out HBH.out)
          by_cases hlt2 : j < M
          · have f2 : decide ((j : Int) < (M : Int)) = true := decide_eq_true (by omega)
            have hjl : j < c.2.length := by have := HM.out; omega
            have hjl' : j < d.2.length := by have := HM'.out; omega
            obtain ⟨ad4, q4, u4, v4, hsv, hq4, B0, B1, hu4, hv4⟩ := HI.out.at j hjl
            obtain ⟨ad5, q5, u5, v5, hsv', hq5, B0', B1', hu5, hv5⟩ := HI'.out.at j hjl'
            obtain ⟨x, hx⟩ : ∃ x, c.2[j] = x := ⟨_, rfl⟩
            obtain ⟨y, hy⟩ : ∃ y, d.2[j] = y := ⟨_, rfl⟩
            have HXJ : Hid (c.2[j]? = some x) := Lib.hid (by rw [List.getElem?_eq_getElem hjl, hx])
            have HYJ : Hid (d.2[j]? = some y) := Lib.hid (by rw [List.getElem?_eq_getElem hjl', hy])
            rw [hx] at hu4 hv4
            rw [hy] at hu5 hv5
            obtain ⟨sf, cf, rfl, hrf, hokf, _⟩ := hu4
            obtain ⟨sp, cp, rfl, hrp, hokp, _⟩ := hv4
            obtain ⟨sf', cf', rfl, hrf', hokf', _⟩ := hu5
            obtain ⟨sp', cp', rfl, hrp', hokp', _⟩ := hv5
            obtain ⟨F, hF⟩ : ∃ F, x.1.length = F := ⟨_, rfl⟩
            obtain ⟨G, hG⟩ : ∃ G, x.2.length = G := ⟨_, rfl⟩
            obtain ⟨F', hF'⟩ : ∃ F, y.1.length = F := ⟨_, rfl⟩
            obtain ⟨G', hG'⟩ : ∃ G, y.2.length = G := ⟨_, rfl⟩
            rw [hF] at B0 hokf
            rw [hF'] at B0' hokf'
            rw [hG] at B1 hokp
            rw [hG'] at B1' hokp'
            have hFm : F ≤ 9223372036854775807 := Nat.le_trans hokf.2.1 hokf.2.2
            have hGm : G ≤ 9223372036854775807 := Nat.le_trans hokp.2.1 hokp.2.2
            have hFm' : F' ≤ 9223372036854775807 := Nat.le_trans hokf'.2.1 hokf'.2.2
            have hGm' : G' ≤ 9223372036854775807 := Nat.le_trans hokp'.2.1 hokp'.2.2
            have HGV := Lib.hid (grown_trans HGX.out HV.out)
            have HRF := Lib.hid (hrf.kept HGV.out)
            have HRP := Lib.hid (hrp.kept HGV.out)
            have HRF' := Lib.hid (hrf'.kept HGV.out)
            have HRP' := Lib.hid (hrp'.kept HGV.out)
            have HF := Lib.hid hF
            have HGG := Lib.hid hG
            have HF' := Lib.hid hF'
            have HGG' := Lib.hid hG'
            replace B0 := HGV.out.cell B0 (by simp)
            replace B1 := HGV.out.cell B1 (by simp)
            replace B0' := HGV.out.cell B0' (by simp)
            replace B1' := HGV.out.cell B1' (by simp)
            have i4 : (0 : Int) ≤ (j : Int) ∧ (j : Int) < (M : Int) := by omega
            subst hsv hsv'
            have HS := Lib.hid (And.intro E1 (And.intro F1 (And.intro B0 (And.intro B1 (And.intro B0' B1')))))
            obtain ⟨v2, hv2⟩ : ∃ v2, decide (x.1 = y.1) = v2 := ⟨_, rfl⟩
            obtain ⟨v3, hv3⟩ : ∃ v3, decide (x.2 = y.2) = v3 := ⟨_, rfl⟩
            have HV2 := Lib.hid hv2
            have HV3 := Lib.hid hv3
            clear hx hy hrf hokf hrp hokp hrf' hokf' hrp' hokp' hF hG hF' hG' hjl hjl' hv2 hv3
            go_upto_region 12 with fail
            cases v2 with
            | true =>
              go_region_held3 (fun w' => w'.cell? ⟨g, 1, none⟩ = some (.slice (some ad4) M cv) ∧ w'.cell? ⟨h, 1, none⟩ = some (.slice (some ad5) M cv') ∧ w'.cell? q4 = some (.slice sf F cf) ∧ w'.cell? ⟨q4.block, q4.off + 1, none⟩ = some (.slice sp G cp) ∧ w'.cell? q5 = some (.slice sf' F' cf') ∧ w'.cell? ⟨q5.block, q5.off + 1, none⟩ = some (.slice sp' G' cp'))
                (first | assumption | exact ⟨E1, F1, B0, B1, B0', B1'⟩ | go_keep)
                (first
                  | (go_at_call 34; (with_reducible refine (AllG_any _ sf sf' F F' cf cf' x.1 y.1 HF.out HF'.out (HRF.out.kept (grown_drew (grown_refl _ _))) (HRF'.out.kept (grown_drew (grown_refl _ _))) hFm hFm').mono ?_); rw [HV2.out]; rintro e w5 ⟨rfl, hg5⟩; have HY5 := Lib.hid (grown_trans (grown_drew (grown_refl _ _)) hg5); have E1 := HY5.out.cell HS.out.1 (by simp); have F1 := HY5.out.cell HS.out.2.1 (by simp); have B0 := HY5.out.cell HS.out.2.2.1 (by simp); have B1 := HY5.out.cell HS.out.2.2.2.1 (by simp); have B0' := HY5.out.cell HS.out.2.2.2.2.1 (by simp); have B1' := HY5.out.cell HS.out.2.2.2.2.2 (by simp); clear hg5)
                  | (go_at_call 34; (with_reducible refine (AllG_any _ sp sp' G G' cp cp' x.2 y.2 HGG.out HGG'.out (HRP.out.kept HY5.out) (HRP'.out.kept HY5.out) hGm hGm').mono ?_); rw [HV3.out]; rintro e w6 ⟨rfl, hg6⟩; have HY6 := Lib.hid (grown_trans HY5.out hg6); have E1 := HY6.out.cell HS.out.1 (by simp); have F1 := HY6.out.cell HS.out.2.1 (by simp); have B0 := HY6.out.cell HS.out.2.2.1 (by simp); have B1 := HY6.out.cell HS.out.2.2.2.1 (by simp); have B0' := HY6.out.cell HS.out.2.2.2.2.1 (by simp); have B1' := HY6.out.cell HS.out.2.2.2.2.2 (by simp); clear hg6))
              cases v3 with
              | true =>
                have HTJ2 : Hid (c.2.take (j + 1) = d.2.take (j + 1)) := Lib.hid (take_more_eq HTJ.out HXJ.out (by rw [HYJ.out, item_eq HV2.out HV3.out]))
                go_wp2_with fail
                go_roundg (M - (j + 1))
                case measure => omega
                case rel => exact ⟨j + 1, rfl, by omega, Nat.le_refl _, by go_num, HTJ2, Lib.hid (grown_trans HV.out HY6.out)⟩
              | false =>
                have HF9 := Lib.hid (HQ.out false w6 (lib_ne3 HCK.out HDK.out (cell_ne3 HXJ.out HYJ.out (item_ne2 HV3.out))) (grown_trans HGV.out HY6.out))
                go_wp2_with fail
                exact HF9.out
            | false =>
              refine wp_region_held_drew (S := fun w' => w'.cell? ⟨g, 1, none⟩ = some (.slice (some ad4) M cv) ∧ w'.cell? ⟨h, 1, none⟩ = some (.slice (some ad5) M cv') ∧ w'.cell? q4 = some (.slice sf F cf) ∧ w'.cell? ⟨q4.block, q4.off + 1, none⟩ = some (.slice sp G cp) ∧ w'.cell? q5 = some (.slice sf' F' cf') ∧ w'.cell? ⟨q5.block, q5.off + 1, none⟩ = some (.slice sp' G' cp')) (by kernel_rfl) (by exact ⟨E1, F1, B0, B1, B0', B1'⟩) (fun hHeld => ?_)
              refine wpAnyH_take (i := 0) (v := ?_) rfl (by kernel_rfl) (by kernel_rfl) (by kernel_rfl) (fun _ _ _ h => h) (Or.inl ⟨by rfl, ?_⟩) (by assumption) ?_
              rotate_left
              · (intro w hSw; (try dsimp only at hSw); (obtain ⟨E1, F1, B0, B1, B0', B1'⟩ := hSw); go_simp; (try with_reducible rfl))
              try simp only [Act.put, List.getElem_toArray, List.getElem_cons_zero, List.getElem_cons_succ, List.setIfInBounds_toArray, List.set_cons_zero, List.set_cons_succ]
              refine wpAnyH_take (i := 1) (v := ?_) rfl (by kernel_rfl) (by kernel_rfl) (by kernel_rfl) (fun _ _ _ h => h) (Or.inl ⟨by rfl, ?_⟩) (by assumption) ?_
              rotate_left
              · (intro w hSw; (try dsimp only at hSw); (obtain ⟨E1, F1, B0, B1, B0', B1'⟩ := hSw); go_simp; (try with_reducible rfl))
              try simp only [Act.put, List.getElem_toArray, List.getElem_cons_zero, List.getElem_cons_succ, List.setIfInBounds_toArray, List.set_cons_zero, List.set_cons_succ]
              refine wpAnyH_take (i := 2) (v := ?_) rfl (by kernel_rfl) (by kernel_rfl) (by kernel_rfl) (fun _ _ _ h => h) (Or.inl ⟨by rfl, ?_⟩) (by assumption) ?_
              rotate_left
              · (intro w hSw; (try dsimp only at hSw); (obtain ⟨E1, F1, B0, B1, B0', B1'⟩ := hSw); go_simp; (try with_reducible rfl))
              try simp only [Act.put, List.getElem_toArray, List.getElem_cons_zero, List.getElem_cons_succ, List.setIfInBounds_toArray, List.set_cons_zero, List.set_cons_succ]
              refine wpAnyH_take (i := 3) (v := ?_) rfl (by kernel_rfl) (by kernel_rfl) (by kernel_rfl) (fun _ _ _ h => h) (Or.inl ⟨by rfl, ?_⟩) (by assumption) ?_
              rotate_left
              · (intro w hSw; (try dsimp only at hSw); (obtain ⟨E1, F1, B0, B1, B0', B1'⟩ := hSw); go_simp; (try with_reducible rfl))
              try simp only [Act.put, List.getElem_toArray, List.getElem_cons_zero, List.getElem_cons_succ, List.setIfInBounds_toArray, List.set_cons_zero, List.set_cons_succ]
              refine wpAnyH_take (i := 4) (v := ?_) rfl (by kernel_rfl) (by kernel_rfl) (by kernel_rfl) (fun _ _ _ h => h) (Or.inl ⟨by rfl, ?_⟩) (by assumption) ?_
              rotate_left
              · (intro w hSw; (try dsimp only at hSw); (obtain ⟨E1, F1, B0, B1, B0', B1'⟩ := hSw); go_simp; (try with_reducible rfl))
              try simp only [Act.put, List.getElem_toArray, List.getElem_cons_zero, List.getElem_cons_succ, List.setIfInBounds_toArray, List.set_cons_zero, List.set_cons_succ]
              refine wpAnyH_take (i := 5) (v := ?_) rfl (by kernel_rfl) (by kernel_rfl) (by kernel_rfl) (fun _ _ _ h => h) (Or.inl ⟨by rfl, ?_⟩) (by assumption) ?_
              rotate_left
              · (intro w hSw; (try dsimp only at hSw); (obtain ⟨E1, F1, B0, B1, B0', B1'⟩ := hSw); go_simp; (try with_reducible rfl))
              try simp only [Act.put, List.getElem_toArray, List.getElem_cons_zero, List.getElem_cons_succ, List.setIfInBounds_toArray, List.set_cons_zero, List.set_cons_succ]
              refine wpAnyH_take (i := 6) (v := ?_) rfl (by kernel_rfl) (by kernel_rfl) (by kernel_rfl) (fun _ _ _ h => h) (Or.inl ⟨by rfl, ?_⟩) (by assumption) ?_
              rotate_left
              · (intro w hSw; (try dsimp only at hSw); (obtain ⟨E1, F1, B0, B1, B0', B1'⟩ := hSw); go_simp; (try with_reducible rfl))
              try simp only [Act.put, List.getElem_toArray, List.getElem_cons_zero, List.getElem_cons_succ, List.setIfInBounds_toArray, List.set_cons_zero, List.set_cons_succ]
              refine wpAnyH_take (i := 7) (v := ?_) rfl (by kernel_rfl) (by kernel_rfl) (by kernel_rfl) (fun _ _ _ h => h) (Or.inl ⟨by rfl, ?_⟩) (by assumption) ?_
              rotate_left
              · (intro w hSw; (try dsimp only at hSw); (obtain ⟨E1, F1, B0, B1, B0', B1'⟩ := hSw); go_simp; (try with_reducible rfl))
              try simp only [Act.put, List.getElem_toArray, List.getElem_cons_zero, List.getElem_cons_succ, List.setIfInBounds_toArray, List.set_cons_zero, List.set_cons_succ]
              refine wpAnyH_take (i := 8) (v := ?_) rfl (by kernel_rfl) (by kernel_rfl) (by kernel_rfl) (fun _ _ _ h => h) (Or.inl ⟨by rfl, ?_⟩) (by assumption) ?_
              rotate_left
              · (intro w hSw; (try dsimp only at hSw); (obtain ⟨E1, F1, B0, B1, B0', B1'⟩ := hSw); go_simp; (try with_reducible rfl))
              try simp only [Act.put, List.getElem_toArray, List.getElem_cons_zero, List.getElem_cons_succ, List.setIfInBounds_toArray, List.set_cons_zero, List.set_cons_succ]
              refine wpAnyH_take (i := 9) (v := ?_) rfl (by kernel_rfl) (by kernel_rfl) (by kernel_rfl) (fun _ _ _ h => h) (Or.inl ⟨by rfl, ?_⟩) (by assumption) ?_
              rotate_left
              · (intro w hSw; (try dsimp only at hSw); (obtain ⟨E1, F1, B0, B1, B0', B1'⟩ := hSw); go_simp; (try with_reducible rfl))
              try simp only [Act.put, List.getElem_toArray, List.getElem_cons_zero, List.getElem_cons_succ, List.setIfInBounds_toArray, List.set_cons_zero, List.set_cons_succ]
              refine wpAnyH_take (i := 10) (v := ?_) rfl (by kernel_rfl) (by kernel_rfl) (by kernel_rfl) (fun _ _ _ h => h) (Or.inl ⟨by rfl, ?_⟩) (by assumption) ?_
              rotate_left
              · (intro w hSw; (try dsimp only at hSw); (obtain ⟨E1, F1, B0, B1, B0', B1'⟩ := hSw); go_simp; (try with_reducible rfl))
              try simp only [Act.put, List.getElem_toArray, List.getElem_cons_zero, List.getElem_cons_succ, List.setIfInBounds_toArray, List.set_cons_zero, List.set_cons_succ]
              refine wpAnyH_take (i := 11) (v := ?_) rfl (by kernel_rfl) (by kernel_rfl) (by kernel_rfl) (fun _ _ _ h => h) (Or.inl ⟨by rfl, ?_⟩) (by assumption) ?_
              rotate_left
              · (intro w hSw; (try dsimp only at hSw); (obtain ⟨E1, F1, B0, B1, B0', B1'⟩ := hSw); go_simp; (try with_reducible rfl))
              try simp only [Act.put, List.getElem_toArray, List.getElem_cons_zero, List.getElem_cons_succ, List.setIfInBounds_toArray, List.set_cons_zero, List.set_cons_succ]
              refine wpAnyH_ready (rs := [12]) (by kernel_rfl) (by simp) ?_
              refine AllReadyH.cons rfl (fun K hK => ?_) AllReadyH.nil
              go_simp
              (go_at_call 34; refine (AllG_any _ sf sf' F F' cf cf' x.1 y.1 HF.out HF'.out (HRF.out.kept (grown_drew (grown_refl _ _))) (HRF'.out.kept (grown_drew (grown_refl _ _))) hFm hFm').mono ?_; rw [HV2.out]; rintro e w5 ⟨rfl, hg5⟩; have HY5 := Lib.hid (grown_trans (grown_drew (grown_refl _ _)) hg5); have E1 := HY5.out.cell HS.out.1 (by simp); have F1 := HY5.out.cell HS.out.2.1 (by simp); have B0 := HY5.out.cell HS.out.2.2.1 (by simp); have B1 := HY5.out.cell HS.out.2.2.2.1 (by simp); have B0' := HY5.out.cell HS.out.2.2.2.2.1 (by simp); have B1' := HY5.out.cell HS.out.2.2.2.2.2 (by simp); clear hg5)
              (try go_wp2_with fail)
              refine hK.out _ _ (by exact ⟨E1, F1, B0, B1, B0', B1'⟩) (fun hHeld => ?_)
              clear hK K
              try simp only [Act.put, List.getElem_toArray, List.getElem_cons_zero, List.getElem_cons_succ, List.setIfInBounds_toArray, List.set_cons_zero, List.set_cons_succ]
              refine wpAnyH_take (i := 13) (v := ?_) rfl (by kernel_rfl) (by kernel_rfl) (by kernel_rfl) (fun _ _ _ h => h) (Or.inl ⟨by rfl, ?_⟩) (by assumption) ?_
              rotate_left
              · (intro w hSw; (try dsimp only at hSw); (obtain ⟨E1, F1, B0, B1, B0', B1'⟩ := hSw); go_simp; (try with_reducible rfl))
              try simp only [Act.put, List.getElem_toArray, List.getElem_cons_zero, List.getElem_cons_succ, List.setIfInBounds_toArray, List.set_cons_zero, List.set_cons_succ]
              refine wpAnyH_take (i := 14) (v := ?_) rfl (by kernel_rfl) (by kernel_rfl) (by kernel_rfl) (fun _ _ _ h => h) (Or.inl ⟨by rfl, ?_⟩) (by assumption) ?_
              rotate_left
              · (intro w hSw; (try dsimp only at hSw); (obtain ⟨E1, F1, B0, B1, B0', B1'⟩ := hSw); go_simp; (try with_reducible rfl))
              try simp only [Act.put, List.getElem_toArray, List.getElem_cons_zero, List.getElem_cons_succ, List.setIfInBounds_toArray, List.set_cons_zero, List.set_cons_succ]
              refine wpAnyH_take (i := 15) (v := undef) rfl (by kernel_rfl) (by kernel_rfl) (by kernel_rfl) (fun _ _ _ h => h) (Or.inr ⟨by rfl, rfl⟩) (by assumption) ?_
              try simp only [Act.put, List.getElem_toArray, List.getElem_cons_zero, List.getElem_cons_succ, List.setIfInBounds_toArray, List.set_cons_zero, List.set_cons_succ]
              refine wpAnyH_take (i := 16) (v := undef) rfl (by kernel_rfl) (by kernel_rfl) (by kernel_rfl) (fun _ _ _ h => h) (Or.inr ⟨by rfl, rfl⟩) (by assumption) ?_
              try simp only [Act.put, List.getElem_toArray, List.getElem_cons_zero, List.getElem_cons_succ, List.setIfInBounds_toArray, List.set_cons_zero, List.set_cons_succ]
              refine wpAnyH_take (i := 17) (v := undef) rfl (by kernel_rfl) (by kernel_rfl) (by kernel_rfl) (fun _ _ _ h => h) (Or.inr ⟨by rfl, rfl⟩) (by assumption) ?_
              try simp only [Act.put, List.getElem_toArray, List.getElem_cons_zero, List.getElem_cons_succ, List.setIfInBounds_toArray, List.set_cons_zero, List.set_cons_succ]
              refine wpAnyH_take (i := 18) (v := undef) rfl (by kernel_rfl) (by kernel_rfl) (by kernel_rfl) (fun _ _ _ h => h) (Or.inr ⟨by rfl, rfl⟩) (by assumption) ?_
              try simp only [Act.put, List.getElem_toArray, List.getElem_cons_zero, List.getElem_cons_succ, List.setIfInBounds_toArray, List.set_cons_zero, List.set_cons_succ]
              refine wpAnyH_take (i := 19) (v := undef) rfl (by kernel_rfl) (by kernel_rfl) (by kernel_rfl) (fun _ _ _ h => h) (Or.inr ⟨by rfl, rfl⟩) (by assumption) ?_
              try simp only [Act.put, List.getElem_toArray, List.getElem_cons_zero, List.getElem_cons_succ, List.setIfInBounds_toArray, List.set_cons_zero, List.set_cons_succ]
              refine wpAnyH_take (i := 20) (v := undef) rfl (by kernel_rfl) (by kernel_rfl) (by kernel_rfl) (fun _ _ _ h => h) (Or.inr ⟨by rfl, rfl⟩) (by assumption) ?_
              try simp only [Act.put, List.getElem_toArray, List.getElem_cons_zero, List.getElem_cons_succ, List.setIfInBounds_toArray, List.set_cons_zero, List.set_cons_succ]
              refine wpAnyH_take (i := 21) (v := undef) rfl (by kernel_rfl) (by kernel_rfl) (by kernel_rfl) (fun _ _ _ h => h) (Or.inr ⟨by rfl, rfl⟩) (by assumption) ?_
              try simp only [Act.put, List.getElem_toArray, List.getElem_cons_zero, List.getElem_cons_succ, List.setIfInBounds_toArray, List.set_cons_zero, List.set_cons_succ]
              refine wpAnyH_take (i := 22) (v := undef) rfl (by kernel_rfl) (by kernel_rfl) (by kernel_rfl) (fun _ _ _ h => h) (Or.inr ⟨by rfl, rfl⟩) (by assumption) ?_
              try simp only [Act.put, List.getElem_toArray, List.getElem_cons_zero, List.getElem_cons_succ, List.setIfInBounds_toArray, List.set_cons_zero, List.set_cons_succ]
              refine wpAnyH_take (i := 23) (v := undef) rfl (by kernel_rfl) (by kernel_rfl) (by kernel_rfl) (fun _ _ _ h => h) (Or.inr ⟨by rfl, rfl⟩) (by assumption) ?_
              try simp only [Act.put, List.getElem_toArray, List.getElem_cons_zero, List.getElem_cons_succ, List.setIfInBounds_toArray, List.set_cons_zero, List.set_cons_succ]
              refine wpAnyH_take (i := 24) (v := undef) rfl (by kernel_rfl) (by kernel_rfl) (by kernel_rfl) (fun _ _ _ h => h) (Or.inr ⟨by rfl, rfl⟩) (by assumption) ?_
              try simp only [Act.put, List.getElem_toArray, List.getElem_cons_zero, List.getElem_cons_succ, List.setIfInBounds_toArray, List.set_cons_zero, List.set_cons_succ]
              refine wpAnyH_take (i := 25) (v := undef) rfl (by kernel_rfl) (by kernel_rfl) (by kernel_rfl) (fun _ _ _ h => h) (Or.inr ⟨by rfl, rfl⟩) (by assumption) ?_
              try simp only [Act.put, List.getElem_toArray, List.getElem_cons_zero, List.getElem_cons_succ, List.setIfInBounds_toArray, List.set_cons_zero, List.set_cons_succ]
              refine wpAnyH_take (i := 26) (v := undef) rfl (by kernel_rfl) (by kernel_rfl) (by kernel_rfl) (fun _ _ _ h => h) (Or.inr ⟨by rfl, rfl⟩) (by assumption) ?_
              try simp only [Act.put, List.getElem_toArray, List.getElem_cons_zero, List.getElem_cons_succ, List.setIfInBounds_toArray, List.set_cons_zero, List.set_cons_succ]
              refine wpAnyH_take (i := 27) (v := undef) rfl (by kernel_rfl) (by kernel_rfl) (by kernel_rfl) (fun _ _ _ h => h) (Or.inr ⟨by rfl, rfl⟩) (by assumption) ?_
              try simp only [Act.put, List.getElem_toArray, List.getElem_cons_zero, List.getElem_cons_succ, List.setIfInBounds_toArray, List.set_cons_zero, List.set_cons_succ]
              refine wpAnyH_take (i := 28) (v := undef) rfl (by kernel_rfl) (by kernel_rfl) (by kernel_rfl) (fun _ _ _ h => h) (Or.inr ⟨by rfl, rfl⟩) (by assumption) ?_
              try simp only [Act.put, List.getElem_toArray, List.getElem_cons_zero, List.getElem_cons_succ, List.setIfInBounds_toArray, List.set_cons_zero, List.set_cons_succ]
              refine wpAnyH_take (i := 29) (v := ?_) rfl (by kernel_rfl) (by kernel_rfl) (by kernel_rfl) (fun _ _ _ h => h) (Or.inl ⟨by rfl, ?_⟩) (by assumption) ?_
              rotate_left
              · (intro w hSw; (try dsimp only at hSw); (obtain ⟨E1, F1, B0, B1, B0', B1'⟩ := hSw); go_simp; (try with_reducible rfl))
              try simp only [Act.put, List.getElem_toArray, List.getElem_cons_zero, List.getElem_cons_succ, List.setIfInBounds_toArray, List.set_cons_zero, List.set_cons_succ]
              refine wpAnyH_done (by kernel_rfl) ?_ _
              have HF9 := Lib.hid (HQ.out false w5 (lib_ne3 HCK.out HDK.out (cell_ne3 HXJ.out HYJ.out (item_ne1 HV2.out))) (grown_trans HGV.out HY5.out))
              go_wp2_with fail
              exact HF9.out
          · have f2 : decide ((j : Int) < (M : Int)) = false := decide_eq_false (by omega)
            have hje : j = M := by omega
            have HTK2 : Hid (t.2.take (k + 1) = u.2.take (k + 1)) := Lib.hid (take_more_eq HTK.out HCK.out (by
              rw [HDK.out, cell_eq HV1.out (show c.2.take M = d.2.take M by rw [← hje]; exact HTJ.out) HM.out HM'.out]))
            clear hj hgh2 hje
            go_wp2_with fail
            go_roundg (N - (k + 1))
            case measure => omega
            case rel => exact ⟨k + 1, rfl, by omega, Nat.le_refl _, by go_num, HTK2, Lib.hid (grown_trans HWX.out HV.out)⟩
    · have f1 : decide ((k : Int) < (N : Int)) = false := decide_eq_false (by omega)
      have hke : k = N := by omega
      have HF := Lib.hid (HQ.out true wr (lib_eq (of_decide_eq_true HV0.out) (show t.2.take N = u.2.take N by rw [← hke]; exact HTK.out) HN.out HN'.out) (grown_trans HG.out HW.out))
      clear hk hgh hke
      go_wp2_with fail
      exact HF.out
end Go.Proofs.Ytcioefmldcmhgaa
