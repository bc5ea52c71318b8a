/-
  GdsValid: whatever the tree, whether it is a library's, and its bytes or the error, are the document's: the law returns true and leaves its argument. No condition.
-/
import Derived.Test.YtcioefmldcmhgaaGGb
import Derived.Test.YtcioefmldcmhgaaGGa
import Derived.Test.YtcioefmldcmhgaaGBb
import Derived.Test.YtcioefmldcmhgaaGZa
import Derived.Test.YtcioefmldcmhgaaGLaw2
import Derived.SizedLaws
namespace Go.Proofs.Ytcioefmldcmhgaa
open Go.RowKit
set_option maxRecDepth 100000
set_option linter.unusedVariables false
set_option linter.unusedSimpArgs false

theorem mem_of_recI {x : KItem} {r : KRec} (h : r ∈ recI x) : r ∈ x.1 ∨ r ∈ x.2 ∨ r = endE 17 := by simpa [recI] using h
theorem mem_of_recC {c : KCell} {r : KRec} (h : r ∈ recC c) : r ∈ c.1 ∨ (∃ x ∈ c.2, r ∈ recI x) ∨ r = endE 7 := by simpa [recC] using h
theorem mem_of_recT {t : KLib} {r : KRec} (h : r ∈ recT t) : r ∈ t.1 ∨ (∃ c ∈ t.2, r ∈ recC c) ∨ r = endE 4 := by simpa [recT] using h
theorem size_all {t : KLib} (h : SizL t) : ∀ r ∈ recT t, r.2.2.length ≤ 140737488351232 := fun r hr => by
  rcases mem_of_recT hr with h1 | ⟨c, hc, h1⟩ | rfl
  · exact h.1.2 r h1
  · rcases mem_of_recC h1 with h1 | ⟨x, hx, h1⟩ | rfl
    · exact (h.2 c hc).1.2 r h1
    · rcases mem_of_recI h1 with h1 | h1 | rfl
      · exact ((h.2 c hc).2 x hx).1.2 r h1
      · exact ((h.2 c hc).2 x hx).2.2 r h1
      · simp [endE]
    · simp [endE]
  · simp [endE]
theorem PairsV.mem {α β : Type} {A : World → Value → α → Prop} {B : World → Value → β → Prop} {W : World} {v : Value} {xs : List (α × β)} (h : PairsV A B W v xs) {x : α × β} (hx : x ∈ xs) : ∃ a b, A W a x.1 ∧ B W b x.2 := by
  obtain ⟨s, c, _, h1, _⟩ := h
  obtain ⟨i, hi, rfl⟩ := List.getElem_of_mem hx
  obtain ⟨ad, a, b, _, _, _, h3, h4⟩ := h1 i hi
  exact ⟨a, b, h3, h4⟩
theorem RecsV.small {W : World} {v : Value} {rs : List KRec} (h : RecsV W v rs) : Small rs := by
  obtain ⟨_, _, _, _, _, h⟩ := h
  exact h
theorem LibV.small {W : World} {v : Value} {t : KLib} (h : LibV W v t) : Small (recT t) := by
  obtain ⟨a, b, _, h1, h2⟩ := h
  intro r hr
  rcases mem_of_recT hr with h3 | ⟨c, hc, h3⟩ | rfl
  · exact h1.small r h3
  · obtain ⟨a2, b2, k1, k2⟩ := PairsV.mem h2 hc
    rcases mem_of_recC h3 with h3 | ⟨x, hx, h3⟩ | rfl
    · exact k1.small r h3
    · obtain ⟨a3, b3, k3, k4⟩ := PairsV.mem k2 hx
      rcases mem_of_recI h3 with h3 | h3 | rfl
      · exact k3.small r h3
      · exact k4.small r h3
      · exact ⟨by decide, by decide⟩
    · exact ⟨by decide, by decide⟩
  · exact ⟨by decide, by decide⟩
theorem tree_okL {t : KLib} (h : okL t = true) : treeD (recT t) = some t := by
  have := is_libR ((okL_iff t).1 h) []
  rw [List.append_nil] at this
  unfold treeD; rw [this]
theorem tree_isL {l : List KRec} {u : KLib} (h : treeD l = some u) : IsLib u ∧ l = recT u := by
  unfold treeD at h
  cases hl : libR l with
  | none => rw [hl] at h; cases h
  | some y =>
    obtain ⟨t, m⟩ := y
    rw [hl] at h
    cases m with
    | nil => cases h; have := libR_is hl; rw [List.append_nil] at this; exact this
    | cons r m => cases h
theorem valid_none {t : KLib} (h : treeD (recT t) = none) : okL t = false := by
  cases hb : okL t with
  | false => rfl
  | true => rw [tree_okL hb] at h; cases h
theorem valid_some {t u : KLib} (h : treeD (recT t) = some u) : okL t = eqB t u := by
  cases hb : okL t with
  | true => rw [tree_okL hb] at h; cases h; exact (eqB_yes rfl).symm
  | false => exact (eqB_no fun e => by subst e; have := (okL_iff t).2 (tree_isL h).1; rw [hb] at this; cases this).symm
set_option maxHeartbeats 16000000 in
theorem RValid_any (w : World) (v : Value) (t : KLib) (hv : LibV w v t) (hz : SizL t) (hn : (recT t).length ≤ 400) :
    Calls Try.prog 18 #[v] w (RetB w (okL t)) := by
  obtain ⟨sa, ca, sb, cb, rfl⟩ := hv.two
  obtain ⟨N1, hN1⟩ : ∃ N, t.1.length = N := ⟨_, rfl⟩
  obtain ⟨N2, hN2⟩ : ∃ N, t.2.length = N := ⟨_, rfl⟩
  rw [hN1, hN2] at hv ⊢
  have hG := World.grownBy_alloc w (.cells #[.slice sa N1 ca, .slice sb N2 cb] 27) none
  have Bt := heap_new w (.cells #[.slice sa N1 ca, .slice sb N2 cb] 27) w.heap.size rfl
  have HV := Lib.hid (hv.kept hG)
  have HG := Lib.hid hG
  have HBT := Lib.hid Bt
  have HZ := Lib.hid hz
  have HN := Lib.hid hn
  have HSM := Lib.hid hv.small
  obtain ⟨C0, C1, _, _⟩ := box_cells2 Bt
  clear hv hz hn hG Bt hN1 hN2
  go_enter Try.func18, Try.ntmps18
  go_wp2_with fail
  generalize (w.alloc (.cells #[.slice sa N1 ca, .slice sb N2 cb] 27)) = wa at *
  refine (RRecords_any wa _ t HV.out HZ.out HN.out).mono ?_
  rintro e w1 ⟨v1, rfl, ho1, hg1⟩
  obtain ⟨s1, c1, rfl, hz1, hc1, hm1⟩ := ho1.shape
  obtain ⟨n1, hn1⟩ : ∃ n, (recT t).length = n := ⟨_, rfl⟩
  have HSL := Lib.hid ho1.sl
  rw [hn1] at hz1 hc1 ⊢
  have HNN := Lib.hid hn1
  have HZ1 := Lib.hid hz1
  have HG1 := Lib.hid hg1
  have HBG : Hid (BigR (recT t)) := Lib.hid ⟨by have := HN.out; omega, size_all HZ.out⟩
  clear ho1 hz1 hg1 hn1 C0 C1
  go_wp2_with fail
  refine (RTree_any w1 s1 n1 c1 (recT t) HNN.out HSL.out HZ1.out HSM.out HBG.out hc1 hm1).mono ?_
  rintro e w2 (⟨hT, rfl, hg2⟩ | ⟨u, a, b, hT, rfl, hlt, hg2⟩)
  · have hF : Hid (∀ W, w2.grownBy W none → RetB w (okL t) (.returned (.bool false)) W) := Lib.hid fun W hW => ⟨by rw [valid_none hT], grown_trans HG.out (grown_trans HG1.out (grown_trans hg2 hW))⟩
    have gA := World.grownBy_alloc w2 (.cells #[.slice none 0 0, .slice none 0 0] 27) none
    have HF := Lib.hid (hF.out _ gA)
    clear hT hg2 hF gA
    go_wp2_with fail
    go_ret
    exact HF.out
  · obtain ⟨se, ce, sf, cf, hab⟩ := hlt.v.two
    injection hab with hab
    injection hab with hab
    simp only [List.cons.injEq, and_true] at hab
    obtain ⟨rfl, rfl⟩ := hab
    obtain ⟨M1, hM1⟩ : ∃ N, u.1.length = N := ⟨_, rfl⟩
    obtain ⟨M2, hM2⟩ : ∃ N, u.2.length = N := ⟨_, rfl⟩
    rw [hM1, hM2] at hlt ⊢
    have gA := World.grownBy_alloc w2 (.cells #[.slice se M1 ce, .slice sf M2 cf] 27) none
    have Bu := heap_new w2 (.cells #[.slice se M1 ce, .slice sf M2 cf] 27) w2.heap.size rfl
    have HU := Lib.hid (hlt.v.kept gA)
    have hg3 := grown_trans HG1.out (grown_trans hg2 gA)
    have HG3 := Lib.hid (grown_trans HG.out hg3)
    have HV3 := Lib.hid (HV.out.kept hg3)
    obtain ⟨C0, C1, _, _⟩ := box_cells2 (heap_kept hg3 HBT.out)
    obtain ⟨D0, D1, _, _⟩ := box_cells2 Bu
    have HVS := Lib.hid (valid_some hT)
    clear hT hlt hg2 gA Bu hg3 hM1 hM2
    go_wp2_with fail
    generalize (w2.alloc (.cells #[.slice se M1 ce, .slice sf M2 cf] 27)) = w3 at *
    refine (SameG7_any w3 _ _ t u HV3.out HU.out).mono ?_
    rintro e w4 ⟨rfl, hg4⟩
    have HF : Hid (RetB w (okL t) (.returned (.bool (eqB t u))) w4) := Lib.hid ⟨by rw [HVS.out], grown_trans HG3.out hg4⟩
    clear hg4
    go_wp2_with fail
    go_ret
    exact HF.out
theorem join_len {rs : List KRec} (h : ∀ r ∈ rs, okR r) (hn : rs.length ≤ 400) : (joinB rs).length ≤ 1099511627776 := by
  rw [joinB_len]
  have : sumB rs ≤ 65530 * rs.length := by
    clear hn
    induction rs with
    | nil => exact Nat.zero_le _
    | cons r rs ih =>
      have h1 := ih fun x hx => h x (List.mem_cons_of_mem _ hx)
      have h2 := (h r List.mem_cons_self).2
      rw [sumB_cons, List.length_cons]; omega
  omega
set_option maxHeartbeats 16000000 in
theorem RWrite_any (w : World) (v : Value) (t : KLib) (hv : LibV w v t) (hz : SizL t) (hn : (recT t).length ≤ 400) :
    Calls Try.prog 16 #[v] w (RetJoin w (writeD t)) := by
  have HQ : Hid (∀ W v x, x = writeD t → OwnB W w.heap.size v x.2 → w.grownBy W none → RetJoin w (writeD t) (.returned (.tuple #[v, .int .i64 (x.1 : Int)])) W) := Lib.hid fun W v x hx h1 h2 => by subst hx; exact ⟨v, rfl, h1, h2⟩
  obtain ⟨P, hP⟩ : ∃ P, RetJoin w (writeD t) = P := ⟨_, rfl⟩
  rw [hP] at HQ ⊢
  clear hP
  obtain ⟨sa, ca, sb, cb, rfl⟩ := hv.two
  obtain ⟨N1, hN1⟩ : ∃ N, t.1.length = N := ⟨_, rfl⟩
  obtain ⟨N2, hN2⟩ : ∃ N, t.2.length = N := ⟨_, rfl⟩
  rw [hN1, hN2] at hv ⊢
  have hG := World.grownBy_alloc w (.cells #[.slice sa N1 ca, .slice sb N2 cb] 27) none
  have Bt := heap_new w (.cells #[.slice sa N1 ca, .slice sb N2 cb] 27) w.heap.size rfl
  have HV := Lib.hid (hv.kept hG)
  have HG := Lib.hid hG
  have HBT := Lib.hid Bt
  have HZ := Lib.hid hz
  have HN := Lib.hid hn
  have HSM := Lib.hid hv.small
  obtain ⟨C0, C1, _, _⟩ := box_cells2 Bt
  clear hv hz hn hG Bt hN1 hN2
  go_enter Try.func16, Try.ntmps16
  go_wp2_with fail
  generalize (w.alloc (.cells #[.slice sa N1 ca, .slice sb N2 cb] 27)) = wa at *
  refine (RValid_any wa _ t HV.out HZ.out HN.out).mono ?_
  obtain ⟨ok, hok⟩ : ∃ b, okL t = b := ⟨_, rfl⟩
  rw [hok]
  have HOK := Lib.hid hok
  rintro e w1 ⟨rfl, hg1⟩
  have HG1 := Lib.hid hg1
  clear hg1 C0 C1 hok
  obtain ⟨C0, C1, _, _⟩ := box_cells2 (heap_kept HG1.out HBT.out)
  cases ok with
  | false =>
    have HF := Lib.hid (HQ.out w1 (.slice none 0 0) (3, []) (write_bad HOK.out).symm (OwnB.nil _ _) (grown_trans HG.out HG1.out))
    go_wp2_with fail
    exact HF.out
  | true =>
    have HV1 := Lib.hid (HV.out.kept HG1.out)
    have HJB := Lib.hid (few_short HOK.out HN.out)
    have HJD := Lib.hid (recT_join ((okL_iff t).1 HOK.out))
    go_wp2_with fail
    refine (RRecords_any w1 _ t HV1.out HZ.out HN.out).mono ?_
    rintro e w2 ⟨v1, rfl, ho1, hg2⟩
    obtain ⟨s1, c1, rfl, hz1, hc1, hm1⟩ := ho1.shape
    obtain ⟨n1, hn1⟩ : ∃ n, (recT t).length = n := ⟨_, rfl⟩
    have HSL := Lib.hid ho1.sl
    rw [hn1] at hz1 hc1 ⊢
    have HNN := Lib.hid hn1
    have HG2 := Lib.hid (grown_trans HG.out (grown_trans HG1.out hg2))
    clear ho1 hz1 hg2 hn1 C0 C1
    go_wp2_with fail
    refine (RJoin_any w2 s1 n1 c1 (recT t) HNN.out HSL.out HSM.out HJB.out (by omega)).mono ?_
    rw [HJD.out]
    rintro e w3 ⟨v3, rfl, ho3, hg3⟩
    dsimp only at ho3 ⊢
    obtain ⟨L, hL⟩ : ∃ L, joinB (recT t) = L := ⟨_, rfl⟩
    rw [hL] at ho3
    have hlen : L.length ≤ 1099511627776 := by rw [← hL]; exact HJB.out
    obtain ⟨s3, c3, rfl, hs3⟩ := ho3.shape
    obtain ⟨M, hM⟩ : ∃ M, L.length = M := ⟨_, rfl⟩
    rw [hM] at ho3 hlen ⊢
    have HB3 : Hid (OwnB w3 w.heap.size (.slice s3 M c3) L) := Lib.hid ⟨own_base ho3.1 HG2.out.size, ho3.2⟩
    have hg4 := grown_trans HG2.out hg3
    by_cases hbig : 16777216 < M
    · have q1 : decide ((M : Int) > 16777216) = true := decide_eq_true (by omega)
      have q2 : decide (16777216 < (M : Int)) = true := decide_eq_true (by omega)
      have HF := Lib.hid (HQ.out w3 (.slice none 0 0) (2, []) (write_long HOK.out (by rw [hL, hM]; exact hbig)).symm (OwnB.nil _ _) hg4)
      clear ho3 hs3 hg3 hg4 hL hM hbig
      go_wp2_with fail
      exact HF.out
    · have q1 : decide ((M : Int) > 16777216) = false := decide_eq_false (by omega)
      have q2 : decide (16777216 < (M : Int)) = false := decide_eq_false (by omega)
      have HF := Lib.hid (HQ.out w3 (.slice s3 M c3) (0, L) (by rw [write_ok HOK.out (by rw [hL, hM]; exact hbig), HJD.out, hL]) HB3.out hg4)
      clear ho3 hs3 hg3 hg4 hL hM hbig
      go_wp2_with fail
      exact HF.out
end Go.Proofs.Ytcioefmldcmhgaa
namespace Go.Proofs.Ytcioefmldcmhgaa
open Go.RowKit
set_option maxRecDepth 100000
set_option linter.unusedVariables false
set_option linter.unusedSimpArgs false

set_option maxHeartbeats 64000000 in
theorem gdsValid_walk (w : World) (v : Value) (t : KLib) (hv : LibV w v t) (hz : SizL t) :
    Calls Try.prog 4 #[v] w (RetYes w) := by
  obtain ⟨sa, ca, sb, cb, rfl⟩ := hv.two
  obtain ⟨N1, hN1⟩ : ∃ N, t.1.length = N := ⟨_, rfl⟩
  obtain ⟨N2, hN2⟩ : ∃ N, t.2.length = N := ⟨_, rfl⟩
  rw [hN1, hN2] at hv ⊢
  have hG := World.grownBy_alloc w (.cells #[.slice sa N1 ca, .slice sb N2 cb] 27) none
  have Bt := heap_new w (.cells #[.slice sa N1 ca, .slice sb N2 cb] 27) w.heap.size rfl
  obtain ⟨C0, C1, _, _⟩ := box_cells2 Bt
  have HV := Lib.hid (hv.kept hG)
  have HS := Lib.hid hz
  have HBT := Lib.hid Bt
  have HG := Lib.hid hG
  clear hv hz hG Bt hN1 hN2
  go_enter Try.func4, Try.ntmps4
  go_wp2_with fail
  generalize (w.alloc (.cells #[.slice sa N1 ca, .slice sb N2 cb] 27)) = wa at *
  refine (GFew_any wa _ t HV.out HS.out).mono ?_
  rintro e w1 ⟨bf, rfl, hg1, hbf⟩
  have HW1 := Lib.hid hg1
  clear C0 C1 hg1
  cases bf with
  | false =>
    clear hbf
    go_wp2_with fail
    refine (GKnown_any w1).mono ?_
    rintro e w2 ⟨rfl, hg2⟩
    have hF := Lib.hid (grown_trans HG.out (grown_trans HW1.out hg2))
    clear hg2
    go_wp2_with fail
    go_ret
    exact ⟨rfl, hF.out⟩
  | true =>
    obtain ⟨hn, hc⟩ := hbf rfl
    clear hbf hc
    have HN := Lib.hid hn
    obtain ⟨C0, C1, _, _⟩ := box_cells2 (heap_kept HW1.out HBT.out)
    clear hn
    go_wp2_with fail
    refine (Write_few w1 _ t (HV.out.kept HW1.out) HN.out).mono ?_
    obtain ⟨⟨c, L⟩, hx⟩ : ∃ x, writeD t = x := ⟨_, rfl⟩
    rw [hx]
    have HX := Lib.hid hx
    rintro e w2 ⟨vb, rfl, hob, hg2⟩
    dsimp only at hob ⊢
    have HW2 := Lib.hid (grown_trans HW1.out hg2)
    obtain ⟨s4, c4, rfl, hs4, _⟩ := hob.shape
    obtain ⟨M, hM⟩ : ∃ M, L.length = M := ⟨_, rfl⟩
    rw [hM]
    have HM := Lib.hid hM
    have HS4 := Lib.hid hs4
    clear C0 C1 hg2 hob hs4 hM hx
    obtain ⟨C0, C1, _, _⟩ := box_cells2 (heap_kept HW2.out HBT.out)
    go_wp2_with fail
    refine (RWrite_any w2 _ t (HV.out.kept HW2.out) HS.out HN.out).mono ?_
    rw [HX.out]
    rintro e w3 ⟨vb3, rfl, hob3, hg3⟩
    dsimp only at hob3 ⊢
    have HW3 := Lib.hid (grown_trans HW2.out hg3)
    obtain ⟨s5, c5, rfl, hs5, _⟩ := hob3.shape
    rw [HM.out]
    have hk1 : ∀ W, w3.grownBy W none → (convert 22 9 (.slice s4 M c4)).run Try.prog W = .ok (.string (strOf L)) W := fun W hW => conv_by W s4 M c4 _ HM.out (HS4.out.kept (grown_trans hg3 hW))
    have hk2 : ∀ W, w3.grownBy W none → (convert 22 9 (.slice s5 M c5)).run Try.prog W = .ok (.string (strOf L)) W := fun W hW => conv_by W s5 M c5 _ HM.out (hs5.kept hW)
    have HK1 := Lib.hid hk1
    have HK2 := Lib.hid hk2
    have HV3 := Lib.hid (HV.out.kept HW3.out)
    clear C0 C1 hob3 hs5
    have HBT3 := Lib.hid (heap_kept HW3.out HBT.out)
    obtain ⟨C0, C1, _, _⟩ := box_cells2 HBT3.out
    have kA := HK1.out w3 (grown_refl _ _)
    have kB := HK2.out w3 (grown_refl _ _)
    obtain ⟨ok, hok⟩ : ∃ b, okL t = b := ⟨_, rfl⟩
    have HOK := Lib.hid hok
    have t1 : (ok == ok) = true := by simp
    have t2 : ((c : Int) == (c : Int)) = true := by simp
    clear hok hg3 hk1 hk2
    go_wp2_with fail
    go_region_held3 (fun w' => w'.cell? ⟨w.heap.size, 0, none⟩ = some (.slice sa N1 ca) ∧ w'.cell? ⟨w.heap.size, 1, none⟩ = some (.slice sb N2 cb) ∧ (convert 22 9 (.slice s4 M c4)).run Try.prog w' = .ok (.string (strOf L)) w' ∧ (convert 22 9 (.slice s5 M c5)).run Try.prog w' = .ok (.string (strOf L)) w')
      (first | assumption | exact ⟨C0, C1, kA, kB⟩ | exact ⟨C0, C1, HK1.out _ (grown_drew (grown_refl _ _)), HK2.out _ (grown_drew (grown_refl _ _))⟩ | exact ⟨D0, D1, HK1.out _ g5.out, HK2.out _ g5.out⟩ | exact ⟨D0, D1, HK1.out _ g6.out, HK2.out _ g6.out⟩ | exact ⟨D0, D1, HK1.out _ g7.out, HK2.out _ g7.out⟩ | go_keep)
      (first
        | (go_at_call 12; (with_reducible refine (GKnown_any _).mono ?_); rintro e w5 ⟨rfl, hg5⟩; have g5 := Lib.hid (grown_trans (grown_drew (grown_refl w3 none)) hg5); obtain ⟨D0, D1, _, _⟩ := box_cells2 (heap_kept g5.out HBT3.out); clear hg5)
        | (go_at_call 17; (with_reducible refine (Valid_any _ _ t (HV3.out.kept g5.out)).mono ?_); rw [HOK.out]; rintro e w6 ⟨rfl, hg6⟩; have g6 := Lib.hid (grown_trans g5.out hg6); obtain ⟨D0, D1, _, _⟩ := box_cells2 (heap_kept g6.out HBT3.out); clear hg6)
        | (go_at_call 18; (with_reducible refine (RValid_any _ _ t (HV3.out.kept g6.out) HS.out HN.out).mono ?_); rw [HOK.out]; rintro e w7 ⟨rfl, hg7⟩; have g7 := Lib.hid (grown_trans g6.out hg7); obtain ⟨D0, D1, _, _⟩ := box_cells2 (heap_kept g7.out HBT3.out); clear hg7))
    have hF := Lib.hid (grown_trans HG.out (grown_trans HW3.out g7.out))
    go_wp2_with fail
    go_ret
    exact ⟨by simp, hF.out⟩
end Go.Proofs.Ytcioefmldcmhgaa
namespace Go.Proofs.Ytcioefmldcmhgaa.GdsValid
open Go.ChangeShapes Go.WideShapes Go.ChangeAt Go.RowKit Go.ChangeMaps Go.Deep
set_option linter.unusedVariables false
set_option linter.unusedSimpArgs false
set_option maxRecDepth 100000

theorem contract (H : Type) (enc : TypeId × Value → H) (W : World) (base : Nat) (args : Array Value) (ds gs : List (DataW H)) (before : List MemPlace)
    (hval : ∀ (j : Nat) t v, Try.f4.params[j]? = some t → args[j]? = some v → Value.okWide Try.prog W .any base t v)
    (hW : DataW.Whole enc Try.prog Try.f4.params.toList Rows.gdsValidSpec.vars false W args.toList ds gs before)
    (hsz0 : (DataW.weightsEach Try.prog (Try.f4.params.toList ++ Rows.gdsValidSpec.plain.varTypes Try.prog) (ds ++ gs)).all (· ≤ reachBytes) = true) :
    Calls Try.prog 4 args W fun e W' => ∃ v, e = .returned v ∧ Rows.gdsValidSpec.post enc Try.prog Try.f4 false true false false W args v W' := by
  have hW' := hW
  obtain ⟨p, q, hA0, hV, rfl, hfz, hnd⟩ := hW
  have hA : DataW.TrodAll enc Try.prog W 0 (fun _ => true) true Try.f4.params.toList args.toList ds p := hA0
  rw [Try.params4] at hA hval
  have hsz : ∀ m ∈ DataW.weightsEach Try.prog (Try.f4.params.toList ++ Rows.gdsValidSpec.plain.varTypes Try.prog) (ds ++ gs), m ≤ reachBytes := fun m hm => of_decide_eq_true (List.all_eq_true.1 hsz0 m hm)
  rw [Try.params4] at hsz
  clear hsz0
  obtain ⟨v0, vs0, d0, ds0, p0, q0, hargs0, rfl, rfl, h0, r0⟩ := trodAll_cons hA
  obtain ⟨rfl, rfl, rfl⟩ := trodAll_nil r0
  obtain rfl : args = #[v0] := by cases args; simp_all
  obtain ⟨rfl, rfl⟩ := trodVars_none hV
  simp only [List.append_nil] at hW' hfz
  have hlt : ∀ p ∈ p0, p.block < W.heap.size := fun p hp => by
    have := DataW.TrodAll.lt hA p (by simpa using hp)
    exact this
  have hv0 := hval 0 27 v0 rfl rfl
  have hw0 : WOk 27 d0 := fun m hm => hsz m (by simp only [List.cons_append, List.nil_append, DataW.weightsEach]; exact List.mem_append_left _ hm)
  obtain ⟨t0, x01, x02⟩ := open_libS hv0 h0 hw0
  clear hA0
  refine (gdsValid_walk W v0 t0 x01 x02).mono fun e W' ⟨he, hg⟩ => ?_
  subst he
  have hs0 : ∀ sp : Nat → Bool, (∀ p ∈ p0, sp p.block = true) → DataW.Trod enc Try.prog W' 0 sp true 27 (v0) d0 p0 := fun sp hsp =>
    Go.WideElems.Trod_stays (by kernel_rfl) (by kernel_rfl) (of_decide_eq_true (by kernel_rfl)) h0 (fun p hp => grown_same hg (hlt p (by simp [hp]))) hsp
  exact ⟨_, rfl, post_places hW' hlt (fun _ _ _ => trodAll_cons_mk (shut_bool Try.underlying4 _) trodAll_mk0) (fun sp hsp => by
    have := trodAll_cons_mk (hs0 sp (fun p hp => hsp p (by simp [hp]))) (trodAll_mk0)
    rw [List.append_nil] at this
    exact this) (fun _ => rfl) hg (ok_one (by kernel_rfl) rfl (okWide_bool_mk Try.underlying4 _))⟩

theorem lifted (os : Os) (started : os.Started) (H : Type) (enc : TypeId × Value → H) :
    ReturnsInHanded {} Try.checked os 4 .any (Rows.gdsValidSpec.pre6 enc Try.prog Try.f4 Rows.gdsValidRow.domain false) (Rows.gdsValidSpec.post enc Try.prog Try.f4 false true false false) := by
  refine returnsInHanded_of_change_sized (C := Try.checked) law_own started (by kernel_rfl) Try.func4
    (ChangeSpec.witness6 (enc := enc) (C := Try.checked) false ⟨#[], #[.agg #[.slice none 0 0, .slice none 0 0]], []⟩ 8 (by kernel_rfl) (by kernel_rfl) (by kernel_rfl) (by kernel_rfl)) ?_
  intro W base args ds gs before hval hW _ hsz _
  exact contract H enc W base args ds gs before hval hW hsz

theorem said : Rows.GdsValidSaid :=
  OpenClaim.holds_of_wide 4 Try.f4 rfl rfl rfl rfl rfl rfl rfl ⟨rfl, rfl, rfl, rfl, rfl⟩ rfl rfl rfl rfl rfl (by kernel_rfl) Try.func4 (by kernel_rfl)
    (of_decide_eq_true (by kernel_rfl)) (by unfold Func.isWrapper; first | (rw [if_pos (by decide +kernel)]; kernel_rfl) | (rw [if_neg (by decide +kernel)]; exact ⟨rfl, rfl⟩))
    (fun os started H enc _ => lifted os started H enc)
end Go.Proofs.Ytcioefmldcmhgaa.GdsValid
