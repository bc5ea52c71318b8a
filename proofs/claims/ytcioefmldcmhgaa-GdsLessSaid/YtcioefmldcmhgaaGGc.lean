/-
  Streams as trees: a row with one record left out, or twice: the mathematics.
-/
import Derived.Test.YtcioefmldcmhgaaGGb
import Derived.Test.YtcioefmldcmhgaaGGa
import Derived.Test.YtcioefmldcmhgaaGBb
import Derived.Test.YtcioefmldcmhgaaGZa
import Derived.Test.YtcioefmldcmhgaaGFew
import Derived.Test.YtcioefmldcmhgaaKJoinM
namespace Go.Proofs.Ytcioefmldcmhgaa
open Go.RowKit
set_option maxRecDepth 100000
set_option linter.unusedVariables false
set_option linter.unusedSimpArgs false

theorem mem_of_recI {x : KItem} {r : KRec} (h : r ∈ recI x) : r ∈ x.1 ∨ r ∈ x.2 ∨ r = endE 17 := by simpa [recI] using h
theorem mem_of_recC {c : KCell} {r : KRec} (h : r ∈ recC c) : r ∈ c.1 ∨ (∃ x ∈ c.2, r ∈ recI x) ∨ r = endE 7 := by simpa [recC] using h
theorem mem_of_recT {t : KLib} {r : KRec} (h : r ∈ recT t) : r ∈ t.1 ∨ (∃ c ∈ t.2, r ∈ recC c) ∨ r = endE 4 := by simpa [recT] using h
theorem size_all {t : KLib} (h : SizL t) : ∀ r ∈ recT t, r.2.2.length ≤ 140737488351232 := fun r hr => by
  rcases mem_of_recT hr with h1 | ⟨c, hc, h1⟩ | rfl
  · exact h.1.2 r h1
  · rcases mem_of_recC h1 with h1 | ⟨x, hx, h1⟩ | rfl
    · exact (h.2 c hc).1.2 r h1
    · rcases mem_of_recI h1 with h1 | h1 | rfl
      · exact ((h.2 c hc).2 x hx).1.2 r h1
      · exact ((h.2 c hc).2 x hx).2.2 r h1
      · simp [endE]
    · simp [endE]
  · simp [endE]
theorem PairsV.mem {α β : Type} {A : World → Value → α → Prop} {B : World → Value → β → Prop} {W : World} {v : Value} {xs : List (α × β)} (h : PairsV A B W v xs) {x : α × β} (hx : x ∈ xs) : ∃ a b, A W a x.1 ∧ B W b x.2 := by
  obtain ⟨s, c, _, h1, _⟩ := h
  obtain ⟨i, hi, rfl⟩ := List.getElem_of_mem hx
  obtain ⟨ad, a, b, _, _, _, h3, h4⟩ := h1 i hi
  exact ⟨a, b, h3, h4⟩
theorem RecsV.small {W : World} {v : Value} {rs : List KRec} (h : RecsV W v rs) : Small rs := by
  obtain ⟨_, _, _, _, _, h⟩ := h
  exact h
theorem LibV.small {W : World} {v : Value} {t : KLib} (h : LibV W v t) : Small (recT t) := by
  obtain ⟨a, b, _, h1, h2⟩ := h
  intro r hr
  rcases mem_of_recT hr with h3 | ⟨c, hc, h3⟩ | rfl
  · exact h1.small r h3
  · obtain ⟨a2, b2, k1, k2⟩ := PairsV.mem h2 hc
    rcases mem_of_recC h3 with h3 | ⟨x, hx, h3⟩ | rfl
    · exact k1.small r h3
    · obtain ⟨a3, b3, k3, k4⟩ := PairsV.mem k2 hx
      rcases mem_of_recI h3 with h3 | h3 | rfl
      · exact k3.small r h3
      · exact k4.small r h3
      · exact ⟨by decide, by decide⟩
    · exact ⟨by decide, by decide⟩
  · exact ⟨by decide, by decide⟩
theorem tree_okL {t : KLib} (h : okL t = true) : treeD (recT t) = some t := by
  have := is_libR ((okL_iff t).1 h) []
  rw [List.append_nil] at this
  unfold treeD; rw [this]
theorem tree_isL {l : List KRec} {u : KLib} (h : treeD l = some u) : IsLib u ∧ l = recT u := by
  unfold treeD at h
  cases hl : libR l with
  | none => rw [hl] at h; cases h
  | some y =>
    obtain ⟨t, m⟩ := y
    rw [hl] at h
    cases m with
    | nil => cases h; have := libR_is hl; rw [List.append_nil] at this; exact this
    | cons r m => cases h
theorem valid_none {t : KLib} (h : treeD (recT t) = none) : okL t = false := by
  cases hb : okL t with
  | false => rfl
  | true => rw [tree_okL hb] at h; cases h
theorem valid_some {t u : KLib} (h : treeD (recT t) = some u) : okL t = eqB t u := by
  cases hb : okL t with
  | true => rw [tree_okL hb] at h; cases h; exact (eqB_yes rfl).symm
  | false => exact (eqB_no fun e => by subst e; have := (okL_iff t).2 (tree_isL h).1; rw [hb] at this; cases this).symm
set_option maxHeartbeats 16000000 in
theorem RValid_any (w : World) (v : Value) (t : KLib) (hv : LibV w v t) (hz : SizL t) (hn : (recT t).length ≤ 400) :
    Calls Try.prog 18 #[v] w (RetB w (okL t)) := by
  obtain ⟨sa, ca, sb, cb, rfl⟩ := hv.two
  obtain ⟨N1, hN1⟩ : ∃ N, t.1.length = N := ⟨_, rfl⟩
  obtain ⟨N2, hN2⟩ : ∃ N, t.2.length = N := ⟨_, rfl⟩
  rw [hN1, hN2] at hv ⊢
  have hG := World.grownBy_alloc w (.cells #[.slice sa N1 ca, .slice sb N2 cb] 27) none
  have Bt := heap_new w (.cells #[.slice sa N1 ca, .slice sb N2 cb] 27) w.heap.size rfl
  have HV := Lib.hid (hv.kept hG)
  have HG := Lib.hid hG
  have HBT := Lib.hid Bt
  have HZ := Lib.hid hz
  have HN := Lib.hid hn
  have HSM := Lib.hid hv.small
  obtain ⟨C0, C1, _, _⟩ := box_cells2 Bt
  clear hv hz hn hG Bt hN1 hN2
  go_enter Try.func18, Try.ntmps18
  go_wp2_with fail
  generalize (w.alloc (.cells #[.slice sa N1 ca, .slice sb N2 cb] 27)) = wa at *
  refine (RRecords_any wa _ t HV.out HZ.out HN.out).mono ?_
  rintro e w1 ⟨v1, rfl, ho1, hg1⟩
  obtain ⟨s1, c1, rfl, hz1, hc1, hm1⟩ := ho1.shape
  obtain ⟨n1, hn1⟩ : ∃ n, (recT t).length = n := ⟨_, rfl⟩
  have HSL := Lib.hid ho1.sl
  rw [hn1] at hz1 hc1 ⊢
  have HNN := Lib.hid hn1
  have HZ1 := Lib.hid hz1
  have HG1 := Lib.hid hg1
  have HBG : Hid (BigR (recT t)) := Lib.hid ⟨by have := HN.out; omega, size_all HZ.out⟩
  clear ho1 hz1 hg1 hn1 C0 C1
  go_wp2_with fail
  refine (RTree_any w1 s1 n1 c1 (recT t) HNN.out HSL.out HZ1.out HSM.out HBG.out hc1 hm1).mono ?_
  rintro e w2 (⟨hT, rfl, hg2⟩ | ⟨u, a, b, hT, rfl, hlt, hg2⟩)
  · have hF : Hid (∀ W, w2.grownBy W none → RetB w (okL t) (.returned (.bool false)) W) := Lib.hid fun W hW => ⟨by rw [valid_none hT], grown_trans HG.out (grown_trans HG1.out (grown_trans hg2 hW))⟩
    have gA := World.grownBy_alloc w2 (.cells #[.slice none 0 0, .slice none 0 0] 27) none
    have HF := Lib.hid (hF.out _ gA)
    clear hT hg2 hF gA
    go_wp2_with fail
    go_ret
    exact HF.out
  · obtain ⟨se, ce, sf, cf, hab⟩ := hlt.v.two
    injection hab with hab
    injection hab with hab
    simp only [List.cons.injEq, and_true] at hab
    obtain ⟨rfl, rfl⟩ := hab
    obtain ⟨M1, hM1⟩ : ∃ N, u.1.length = N := ⟨_, rfl⟩
    obtain ⟨M2, hM2⟩ : ∃ N, u.2.length = N := ⟨_, rfl⟩
    rw [hM1, hM2] at hlt ⊢
    have gA := World.grownBy_alloc w2 (.cells #[.slice se M1 ce, .slice sf M2 cf] 27) none
    have Bu := heap_new w2 (.cells #[.slice se M1 ce, .slice sf M2 cf] 27) w2.heap.size rfl
    have HU := Lib.hid (hlt.v.kept gA)
    have hg3 := grown_trans HG1.out (grown_trans hg2 gA)
    have HG3 := Lib.hid (grown_trans HG.out hg3)
    have HV3 := Lib.hid (HV.out.kept hg3)
    obtain ⟨C0, C1, _, _⟩ := box_cells2 (heap_kept hg3 HBT.out)
    obtain ⟨D0, D1, _, _⟩ := box_cells2 Bu
    have HVS := Lib.hid (valid_some hT)
    clear hT hlt hg2 gA Bu hg3 hM1 hM2
    go_wp2_with fail
    generalize (w2.alloc (.cells #[.slice se M1 ce, .slice sf M2 cf] 27)) = w3 at *
    refine (SameG7_any w3 _ _ t u HV3.out HU.out).mono ?_
    rintro e w4 ⟨rfl, hg4⟩
    have HF : Hid (RetB w (okL t) (.returned (.bool (eqB t u))) w4) := Lib.hid ⟨by rw [HVS.out], grown_trans HG3.out hg4⟩
    clear hg4
    go_wp2_with fail
    go_ret
    exact HF.out
theorem join_len {rs : List KRec} (h : ∀ r ∈ rs, okR r) (hn : rs.length ≤ 400) : (joinB rs).length ≤ 1099511627776 := by
  rw [joinB_len]
  have : sumB rs ≤ 65530 * rs.length := by
    clear hn
    induction rs with
    | nil => exact Nat.zero_le _
    | cons r rs ih =>
      have h1 := ih fun x hx => h x (List.mem_cons_of_mem _ hx)
      have h2 := (h r List.mem_cons_self).2
      rw [sumB_cons, List.length_cons]; omega
  omega
set_option maxHeartbeats 16000000 in
theorem RWrite_any (w : World) (v : Value) (t : KLib) (hv : LibV w v t) (hz : SizL t) (hn : (recT t).length ≤ 400) :
    Calls Try.prog 16 #[v] w (RetJoin w (writeD t)) := by
  have HQ : Hid (∀ W v x, x = writeD t → OwnB W w.heap.size v x.2 → w.grownBy W none → RetJoin w (writeD t) (.returned (.tuple #[v, .int .i64 (x.1 : Int)])) W) := Lib.hid fun W v x hx h1 h2 => by subst hx; exact ⟨v, rfl, h1, h2⟩
  obtain ⟨P, hP⟩ : ∃ P, RetJoin w (writeD t) = P := ⟨_, rfl⟩
  rw [hP] at HQ ⊢
  clear hP
  obtain ⟨sa, ca, sb, cb, rfl⟩ := hv.two
  obtain ⟨N1, hN1⟩ : ∃ N, t.1.length = N := ⟨_, rfl⟩
  obtain ⟨N2, hN2⟩ : ∃ N, t.2.length = N := ⟨_, rfl⟩
  rw [hN1, hN2] at hv ⊢
  have hG := World.grownBy_alloc w (.cells #[.slice sa N1 ca, .slice sb N2 cb] 27) none
  have Bt := heap_new w (.cells #[.slice sa N1 ca, .slice sb N2 cb] 27) w.heap.size rfl
  have HV := Lib.hid (hv.kept hG)
  have HG := Lib.hid hG
  have HBT := Lib.hid Bt
  have HZ := Lib.hid hz
  have HN := Lib.hid hn
  have HSM := Lib.hid hv.small
  obtain ⟨C0, C1, _, _⟩ := box_cells2 Bt
  clear hv hz hn hG Bt hN1 hN2
  go_enter Try.func16, Try.ntmps16
  go_wp2_with fail
  generalize (w.alloc (.cells #[.slice sa N1 ca, .slice sb N2 cb] 27)) = wa at *
  refine (RValid_any wa _ t HV.out HZ.out HN.out).mono ?_
  obtain ⟨ok, hok⟩ : ∃ b, okL t = b := ⟨_, rfl⟩
  rw [hok]
  have HOK := Lib.hid hok
  rintro e w1 ⟨rfl, hg1⟩
  have HG1 := Lib.hid hg1
  clear hg1 C0 C1 hok
  obtain ⟨C0, C1, _, _⟩ := box_cells2 (heap_kept HG1.out HBT.out)
  cases ok with
  | false =>
    have HF := Lib.hid (HQ.out w1 (.slice none 0 0) (3, []) (write_bad HOK.out).symm (OwnB.nil _ _) (grown_trans HG.out HG1.out))
    go_wp2_with fail
    exact HF.out
  | true =>
    have HV1 := Lib.hid (HV.out.kept HG1.out)
    have HJB := Lib.hid (few_short HOK.out HN.out)
    have HJD := Lib.hid (recT_join ((okL_iff t).1 HOK.out))
    go_wp2_with fail
    refine (RRecords_any w1 _ t HV1.out HZ.out HN.out).mono ?_
    rintro e w2 ⟨v1, rfl, ho1, hg2⟩
    obtain ⟨s1, c1, rfl, hz1, hc1, hm1⟩ := ho1.shape
    obtain ⟨n1, hn1⟩ : ∃ n, (recT t).length = n := ⟨_, rfl⟩
    have HSL := Lib.hid ho1.sl
    rw [hn1] at hz1 hc1 ⊢
    have HNN := Lib.hid hn1
    have HG2 := Lib.hid (grown_trans HG.out (grown_trans HG1.out hg2))
    clear ho1 hz1 hg2 hn1 C0 C1
    go_wp2_with fail
    refine (RJoin_any w2 s1 n1 c1 (recT t) HNN.out HSL.out HSM.out HJB.out (by omega)).mono ?_
    rw [HJD.out]
    rintro e w3 ⟨v3, rfl, ho3, hg3⟩
    dsimp only at ho3 ⊢
    obtain ⟨L, hL⟩ : ∃ L, joinB (recT t) = L := ⟨_, rfl⟩
    rw [hL] at ho3
    have hlen : L.length ≤ 1099511627776 := by rw [← hL]; exact HJB.out
    obtain ⟨s3, c3, rfl, hs3⟩ := ho3.shape
    obtain ⟨M, hM⟩ : ∃ M, L.length = M := ⟨_, rfl⟩
    rw [hM] at ho3 hlen ⊢
    have HB3 : Hid (OwnB w3 w.heap.size (.slice s3 M c3) L) := Lib.hid ⟨own_base ho3.1 HG2.out.size, ho3.2⟩
    have hg4 := grown_trans HG2.out hg3
    by_cases hbig : 16777216 < M
    · have q1 : decide ((M : Int) > 16777216) = true := decide_eq_true (by omega)
      have q2 : decide (16777216 < (M : Int)) = true := decide_eq_true (by omega)
      have HF := Lib.hid (HQ.out w3 (.slice none 0 0) (2, []) (write_long HOK.out (by rw [hL, hM]; exact hbig)).symm (OwnB.nil _ _) hg4)
      clear ho3 hs3 hg3 hg4 hL hM hbig
      go_wp2_with fail
      exact HF.out
    · have q1 : decide ((M : Int) > 16777216) = false := decide_eq_false (by omega)
      have q2 : decide (16777216 < (M : Int)) = false := decide_eq_false (by omega)
      have HF := Lib.hid (HQ.out w3 (.slice s3 M c3) (0, L) (by rw [write_ok HOK.out (by rw [hL, hM]; exact hbig), HJD.out, hL]) HB3.out hg4)
      clear ho3 hs3 hg3 hg4 hL hM hbig
      go_wp2_with fail
      exact HF.out
end Go.Proofs.Ytcioefmldcmhgaa
namespace Go.Proofs.Ytcioefmldcmhgaa
open Go.RowKit
set_option maxRecDepth 100000
set_option linter.unusedVariables false
set_option linter.unusedSimpArgs false

set_option maxHeartbeats 32000000 in
theorem RJoinBad_any (w : World) (s : Option Addr) (n cap : Nat) (rs : List KRec) (hn : rs.length = n) (hl : RcSl w s rs) (hk : ∀ r ∈ rs, r.1 < 256 ∧ r.2.1 < 256) (hb : ¬ ∀ r ∈ rs, okR r) (hm : n ≤ 9223372036854775807) :
    Calls Try.prog 20 #[.slice s n cap] w (RetJoin w (joinD rs)) := by
  obtain ⟨i1, hi, hz0, hz1, hz2⟩ := info_partsU
  have HR := Lib.hid hl
  have HN := Lib.hid hn
  have HK := Lib.hid hk
  have HB := Lib.hid hb
  have HQ : Hid (∀ x, x = joinD rs → ∀ W v, OwnB W w.heap.size v x.2 → w.grownBy W none → RetJoin w (joinD rs) (.returned (.tuple #[v, .int .i64 (x.1 : Int)])) W) := Lib.hid (fun x hx W v h1 h2 => by rw [← hx]; exact ⟨v, rfl, h1, h2⟩)
  obtain ⟨P, hP⟩ : ∃ P, RetJoin w (joinD rs) = P := ⟨_, rfl⟩
  rw [hP] at HQ ⊢
  clear hP hl hn hk hb
  have hG : w.grownBy w none := grown_refl _ _
  go_enter Try.func20, Try.ntmps20
  go_wp2_with fail
  go_loopg [4] n (fun gh i wr => ∃ k : Nat, k ≤ n ∧ n - k ≤ gh ∧ i = .int .i64 (k : Int) ∧ Hid (∀ j (hj : j < rs.length), j < k → okR rs[j]) ∧ w = wr)
  case atStart => exact ⟨0, Nat.zero_le _, Nat.le_refl _, rfl, Lib.hid (fun j _ h => by omega), rfl⟩
  case round =>
    obtain ⟨k, hk, hgh, rfl, HOK, rfl⟩ := hrel
    by_cases hlt : k < n
    · have f1 : decide ((k : Int) < (n : Int)) = true := decide_eq_true (by omega)
      have hkr : k < rs.length := by rw [HN.out]; exact hlt
      obtain ⟨a, q, sb, cb, kd, dt, bd, rfl, hq, hr, A0, A1, A2, HBY, hz, hcb, hmb⟩ := HR.out.at k hkr
      have HOKR : Hid (okR rs[k] ↔ (bd.length % 2 = 0 ∧ bd.length ≤ 65530)) := Lib.hid (by rw [hr]; exact Iff.rfl)
      clear hr HBY
      have q1 := tmod_nat bd.length 2
      have q2 : ((bd.length : Int) % 2) = ((bd.length % 2 : Nat) : Int) := by omega
      obtain ⟨R, hR⟩ : ∃ R, bd.length % 2 = R := ⟨_, rfl⟩
      have HRE := Lib.hid hR
      rw [hR] at q1 q2
      by_cases hodd : R = 1
      · have f2 : ((R : Int) == 1) = true := beq_iff_eq.2 (by omega)
        have hF := Lib.hid (HQ.out (3, []) (joinD_at hkr (fun h => by have := HOKR.out.1 h; have := HRE.out; omega)).symm w (.slice none 0 0) (OwnB.nil _ _) (grown_refl _ _))
        clear hR hodd
        go_wp2_with fail
        exact hF.out
      · have f2 : ((R : Int) == 1) = false := beq_eq_false_iff_ne.2 (by omega)
        by_cases hbig : 65530 < bd.length
        · have f3 : decide ((65530 : Int) < (bd.length : Int)) = true := decide_eq_true (by omega)
          have hF := Lib.hid (HQ.out (3, []) (joinD_at hkr (fun h => by have := HOKR.out.1 h; omega)).symm w (.slice none 0 0) (OwnB.nil _ _) (grown_refl _ _))
          clear hR hodd hbig
          go_wp2_with fail
          exact hF.out
        · have f3 : decide ((65530 : Int) < (bd.length : Int)) = false := decide_eq_false (by omega)
          have HOK2 : Hid (okR rs[k]) := Lib.hid (HOKR.out.2 (by omega))
          clear hR hodd hbig
          go_wp2_with fail
          go_roundg (n - (k + 1))
          case measure => omega
          case rel => exact ⟨k + 1, by omega, Nat.le_refl _, by go_num, Lib.hid (fun j hj h => by
              rcases Nat.lt_or_ge j k with h2 | h2
              · exact HOK.out j hj h2
              · obtain rfl : j = k := by omega
                exact HOK2.out), rfl⟩
    · exfalso
      refine HB.out fun r hr => ?_
      obtain ⟨i, hi, rfl⟩ := List.getElem_of_mem hr
      exact HOK.out i hi (by have := HN.out; omega)
theorem RJoinC_any (w : World) (s : Option Addr) (n cap : Nat) (rs : List KRec) (hn : rs.length = n) (hl : RcSl w s rs) (hk : ∀ r ∈ rs, r.1 < 256 ∧ r.2.1 < 256) (hb : (∀ r ∈ rs, okR r) → (joinB rs).length ≤ 1099511627776) (hm : n ≤ 9223372036854775807) :
    Calls Try.prog 20 #[.slice s n cap] w (RetJoin w (joinD rs)) := by
  by_cases h : ∀ r ∈ rs, okR r
  · exact RJoin_any w s n cap rs hn hl hk (hb h) hm
  · exact RJoinBad_any w s n cap rs hn hl hk h hm
end Go.Proofs.Ytcioefmldcmhgaa
namespace Go.Proofs.Ytcioefmldcmhgaa
open Go.RowKit
set_option maxRecDepth 100000
set_option linter.unusedVariables false
set_option linter.unusedSimpArgs false

/-- The row up to a place, with the record k left out, or twice. -/
def lessUp (rs : List KRec) (k : Nat) (tw : Bool) : Nat → List KRec
  | 0 => []
  | i + 1 => lessUp rs k tw i ++ (match rs[i]? with | none => [] | some r => if i = k then (if tw = true then [r] ++ [r] else []) else [r])
theorem less_off {rs : List KRec} {k i : Nat} {tw : Bool} {r : KRec} (h : rs[i]? = some r) (hk : i ≠ k) : lessUp rs k tw (i + 1) = lessUp rs k tw i ++ [r] := by
  rw [lessUp, h]; simp only; rw [if_neg hk]
theorem less_two {rs : List KRec} {k i : Nat} {r : KRec} (h : rs[i]? = some r) (hk : i = k) : lessUp rs k true (i + 1) = lessUp rs k true i ++ [r] ++ [r] := by
  rw [lessUp, h]; simp [hk]
theorem less_out {rs : List KRec} {k i : Nat} {r : KRec} (h : rs[i]? = some r) (hk : i = k) : lessUp rs k false (i + 1) = lessUp rs k false i := by
  rw [lessUp, h]; simp only; rw [if_pos hk, if_neg (by decide), List.append_nil]
theorem less_mem {rs : List KRec} {k : Nat} {tw : Bool} : ∀ (i : Nat) {r : KRec}, r ∈ lessUp rs k tw i → r ∈ rs := by
  intro i
  induction i with
  | zero => intro r h; cases h
  | succ i ih =>
    intro r h
    rw [lessUp] at h
    rcases List.mem_append.1 h with h | h
    · exact ih h
    · cases hr : rs[i]? with
      | none => rw [hr] at h; cases h
      | some x =>
        rw [hr] at h
        have hx : x ∈ rs := List.mem_of_getElem? hr
        simp only at h
        split at h
        · split at h
          · simp at h; subst h; exact hx
          · cases h
        · simp at h; subst h; exact hx
theorem less_len (rs : List KRec) (k : Nat) (tw : Bool) : ∀ i, (lessUp rs k tw i).length ≤ i + (if k < i then 1 else 0) := by
  intro i
  induction i with
  | zero => simp [lessUp]
  | succ i ih =>
    rw [lessUp, List.length_append]
    cases rs[i]? with
    | none => simp; split <;> split at ih <;> omega
    | some x =>
      simp only
      split
      · split
        · simp; split at ih <;> split <;> omega
        · simp; split at ih <;> split <;> omega
      · simp; split at ih <;> split <;> omega
theorem less_cap (rs : List KRec) (k : Nat) (tw : Bool) : ∀ i, capB (lessUp rs k tw i) ≤ capB (rs.take i) + (if k < i then 100000 else 0) := by
  intro i
  induction i with
  | zero => simp [lessUp, capB]
  | succ i ih =>
    rw [lessUp, capB_append]
    cases hr : rs[i]? with
    | none =>
      have : rs.take (i + 1) = rs.take i := by rw [List.take_add_one, hr]; simp
      rw [this]; simp [capB] at *; split <;> split at ih <;> omega
    | some x =>
      have e : rs.take (i + 1) = rs.take i ++ [x] := by rw [List.take_add_one, hr]; rfl
      have h1 := capB_one x
      have h2 : min x.2.2.length 100000 ≤ 100000 := Nat.min_le_right _ _
      rw [e, capB_append, h1]
      simp only
      split
      · split
        · rw [capB_append, h1]; split at ih <;> split <;> omega
        · simp only [capB, List.map_nil, List.sum_nil] at *; split at ih <;> split <;> omega
      · rw [h1]; split at ih <;> split <;> omega
theorem sum_capL {l : List KRec} (h : ∀ r ∈ l, okR r) : sumB l = capB l := by
  induction l with
  | nil => rfl
  | cons r l ih =>
    have h1 := ih fun x hx => h x (List.mem_cons_of_mem _ hx)
    have h2 := (h r List.mem_cons_self).2
    have e : capB (r :: l) = min r.2.2.length 100000 + capB l := by simp [capB]
    rw [sumB_cons, e, h1, Nat.min_eq_left (by omega)]
theorem less_bytes {rs : List KRec} {k : Nat} {tw : Bool} (h : ∀ r ∈ lessUp rs k tw rs.length, okR r) (hn : rs.length ≤ 400) (hc : capB rs < 300000) : (joinB (lessUp rs k tw rs.length)).length ≤ 500000 := by
  have h1 := less_len rs k tw rs.length
  have h2 := less_cap rs k tw rs.length
  rw [List.take_length] at h2
  rw [joinB_len, sum_capL h]
  split at h1 <;> split at h2 <;> omega
/-- A record of a row that the call owns. -/
theorem OwnL.at {W : World} {base n c : Nat} {s : Option Addr} {rs : List KRec} (h : OwnL W base (.slice s n c) rs) (i : Nat) (hi : i < rs.length) : ∃ (a q : Addr) (sb : Option Addr) (cb kd dt : Nat) (bd : List Nat), s = some a ∧ a.add (i * 3) = q ∧ rs[i] = (kd, dt, bd) ∧ W.cell? q = some (.int .u8 (kd : Int)) ∧ W.cell? ⟨q.block, q.off + 1, none⟩ = some (.int .u8 (dt : Int)) ∧ W.cell? ⟨q.block, q.off + 2, none⟩ = some (.slice sb bd.length cb) ∧ BodyL W sb bd ∧ (sb = none → bd.length = 0 ∧ cb = 0) ∧ bd.length ≤ cb ∧ cb ≤ 9223372036854775807 := by
  obtain ⟨ys, h1, h2⟩ := h
  obtain ⟨sb, cb, b0, b1, b2, b3, b4⟩ := h2.2.2 i hi
  have h1' := h1
  obtain ⟨hl, ⟨e, e2⟩ | ⟨k, cap', cur, e, hg', hb, hr⟩⟩ := h1'
  · omega
  · cases e
    have c0 := h1.cells rfl _ _ b0
    have c1 := h1.cells rfl _ _ b1
    have c2 := h1.cells rfl _ _ b2
    rw [add_cell1] at c1
    rw [add_cell2] at c2
    exact ⟨_, _, sb, cb, _, _, _, rfl, rfl, rfl, c0, c1, c2, b3, b4⟩
theorem vals_one {W : World} {kd dt cb : Nat} {sb : Option Addr} {bd : List Nat} (h1 : BodyL W sb bd) (h2 : sb = none → bd.length = 0 ∧ cb = 0) (h3 : bd.length ≤ cb) (h4 : cb ≤ 9223372036854775807) : ValsL W [.int .u8 (kd : Int), .int .u8 (dt : Int), .slice sb bd.length cb] [(kd, dt, bd)] :=
  ⟨rfl, by simp [Value.oneCell'], fun i hi => by
    simp at hi
    subst hi
    exact ⟨sb, cb, rfl, rfl, rfl, h1, h2, h3, h4⟩⟩
/-- A record that is known, behind a row. -/
theorem run_rows1 {W : World} {base : Nat} {v : Value} {rs : List KRec} (hO : OwnL W base v rs) {kd dt cb : Nat} {sb : Option Addr} {bd : List Nat} (h1 : BodyL W sb bd) (h2 : sb = none → bd.length = 0 ∧ cb = 0) (h3 : bd.length ≤ cb) (h4 : cb ≤ 9223372036854775807) (h63 : rs.length + 1 ≤ 4398046511104) (hbase : base ≤ W.heap.size) :
    ∃ v' w', (Builtin.append_ #[24, 24] 24 #[v, .slice (some ⟨W.heap.size, 0, none⟩) 1 1]).run Try.prog (W.alloc (.cells #[.int .u8 (kd : Int), .int .u8 (dt : Int), .slice sb bd.length cb] 45)) = .ok v' w' ∧ OwnL w' base v' (rs ++ [(kd, dt, bd)]) ∧ ∀ w0 : World, w0.grownBy W none → w0.heap.size ≤ base → w0.grownBy w' none := by
  have gA := World.grownBy_alloc W (.cells #[.int .u8 (kd : Int), .int .u8 (dt : Int), .slice sb bd.length cb] 45) none
  obtain ⟨v', w', k1, k2, k3, _⟩ := run_rows (hO.kept gA) ⟨W.heap.size, 0, none⟩ 1 1 (ss := [(kd, dt, bd)]) rfl (vals_one (h1.kept gA) h2 h3 h4) (World.news_of_block (cs := #[.int .u8 (kd : Int), .int .u8 (dt : Int), .slice sb bd.length cb]) (heap_new W _ _ rfl)) h63 (Nat.le_trans hbase gA.size)
  exact ⟨v', w', k1, k2, fun w0 h0 hb => k3 w0 (grown_trans h0 gA) hb⟩
end Go.Proofs.Ytcioefmldcmhgaa
