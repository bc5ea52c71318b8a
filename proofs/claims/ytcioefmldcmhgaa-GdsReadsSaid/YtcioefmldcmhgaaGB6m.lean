/- Streams as trees: the document's Parse. -/
import Derived.Test.YtcioefmldcmhgaaGB5m
import Derived.Test.YtcioefmldcmhgaaGO
import Derived.Test.YtcioefmldcmhgaaKRSplit
namespace Go.Proofs.Ytcioefmldcmhgaa
open Go.RowKit
set_option maxRecDepth 100000
set_option linter.unusedVariables false
set_option linter.unusedSimpArgs false

theorem treeD_nil : treeD [] = none := by kernel_rfl
set_option maxHeartbeats 16000000 in
theorem RTree_none (w : World) : Calls Try.prog 32 #[.slice none 0 0] w (RetTree w (treeD [])) := by
  have g1 := World.grownBy_alloc w (.cells #[.slice none 0 0, .slice none 0 0] 27) none
  have b1 := heap_new w (.cells #[.slice none 0 0, .slice none 0 0] 27) w.heap.size rfl
  have g2 := World.grownBy_alloc (w.alloc (.cells #[.slice none 0 0, .slice none 0 0] 27)) (.cells #[.slice none 0 0, .slice none 0 0] 27) none
  have b2 := heap_new (w.alloc (.cells #[.slice none 0 0, .slice none 0 0] 27)) (.cells #[.slice none 0 0, .slice none 0 0] 27) (w.heap.size + 1) (by simp)
  have HTS := Lib.hid (show TS w ((w.alloc (.cells #[.slice none 0 0, .slice none 0 0] 27)).alloc (.cells #[.slice none 0 0, .slice none 0 0] 27)) (.slice none 0 0) (.slice none 0 0) [] [] from ⟨grown_trans g1 g2, heap_kept g2 b1, b2, Or.inl ⟨rfl, rfl⟩, OwnP.nil _ _⟩)
  have hszb : ((w.alloc (.cells #[.slice none 0 0, .slice none 0 0] 27)).alloc (.cells #[.slice none 0 0, .slice none 0 0] 27)).heap.size = w.heap.size + 1 + 1 := by simp
  clear g1 b1 g2 b2
  have i0 : InS (((w.alloc (.cells #[.slice none 0 0, .slice none 0 0] 27)).alloc (.cells #[.slice none 0 0, .slice none 0 0] 27)).alloc (.cells #[.int .i64 0, .int .i64 1, .int .i64 1057, .int .i64 1058, .int .i64 1059, .int .i64 2, .int .i64 1031, .int .i64 1032, .int .i64 1035, .int .i64 1034, .int .i64 1054] 3)) (some ⟨((w.alloc (.cells #[.slice none 0 0, .slice none 0 0] 27)).alloc (.cells #[.slice none 0 0, .slice none 0 0] 27)).heap.size, 0, none⟩) [0, 1, 1057, 1058, 1059, 2, 1031, 1032, 1035, 1034, 1054] := ins_lit _ [0, 1, 1057, 1058, 1059, 2, 1031, 1032, 1035, 1034, 1054]
  rw [hszb] at i0
  clear hszb
  have I0 := Lib.hid i0
  have G0 := Lib.hid (World.grownBy_alloc ((w.alloc (.cells #[.slice none 0 0, .slice none 0 0] 27)).alloc (.cells #[.slice none 0 0, .slice none 0 0] 27)) (.cells #[.int .i64 0, .int .i64 1, .int .i64 1057, .int .i64 1058, .int .i64 1059, .int .i64 2, .int .i64 1031, .int .i64 1032, .int .i64 1035, .int .i64 1034, .int .i64 1054] 3) none)
  clear i0
  go_enter Try.func32, Try.ntmps32
  go_wp2_with fail
  refine (RFit_any _ none _ 0 0 0 11 11 [] [0, 1, 1057, 1058, 1059, 2, 1031, 1032, 1035, 1034, 1054] rfl (fun i hi => by simp at hi) Small.nil (Nat.le_refl _) (by decide) I0.out rfl (by decide) (by decide)).mono ?_
  rintro e w1 ⟨rfl, hg1⟩
  have HT1 := Lib.hid (HTS.out.kept (grown_trans G0.out hg1))
  clear hg1 HTS I0 G0
  rw [show fitD [0, 1, 1057, 1058, 1059, 2, 1031, 1032, 1035, 1034, 1054] (([] : List KRec).drop 0) = -1 from rfl]
  have hput := HT1.out.put (.slice none 0 0) (.slice none 0 0)
  have hF : Hid (RetTree w (treeD []) (.returned (.tuple #[.agg #[.slice none 0 0, .slice none 0 0], .bool false])) ((w1.setCell ⟨w.heap.size, 0, none⟩ (.slice none 0 0)).setCell ⟨w.heap.size, 1, none⟩ (.slice none 0 0))) := Lib.hid (Or.inl ⟨treeD_nil, rfl, hput.1⟩)
  obtain ⟨D0, D1, _, _⟩ := box_cells2 hput.2
  obtain ⟨_, _, Fr0, Fr1⟩ := box_cells2 HT1.out.2.1
  obtain ⟨Ct0, Ct1, _, _⟩ := box_cells2 HT1.out.2.2.1
  clear hput
  go_wp2_with fail
  exact bodyPost_ret (v := .tuple #[.agg #[.slice none 0 0, .slice none 0 0], .bool false]) (by simp [results, Try.results32, go_sem, D0, D1]) rfl hF.out
theorem RTree_any (w : World) (s : Option Addr) (n cap : Nat) (rs : List KRec) (hn : rs.length = n) (hl : RcSl w s rs) (hz : s = none → n = 0 ∧ cap = 0) (hs : Small rs) (hb : BigR rs) (hcap : n ≤ cap) (hcm : cap ≤ 9223372036854775807) :
    Calls Try.prog 32 #[.slice s n cap] w (RetTree w (treeD rs)) := by
  cases s with
  | none =>
    obtain ⟨rfl, rfl⟩ := hz rfl
    obtain rfl : rs = [] := List.length_eq_zero_iff.1 hn
    exact RTree_none w
  | some a => exact RTree_some w a n cap rs hn hl hs hb hcap hcm
theorem first_bodyL (l : List Nat) : (firstR l).2.1.2.2.length ≤ l.length := by
  unfold firstR; repeat' split
  all_goals (first | (exact Nat.zero_le _) | (dsimp only; rw [List.length_take, List.length_drop]; omega))
theorem sp_body (f : Nat) : ∀ (l : List Nat), ∀ r ∈ (spR f l).2.1, r.2.2.length ≤ l.length := by
  induction f with
  | zero => intro l r h; cases h
  | succ f ih =>
    intro l r h
    unfold spR at h
    split at h
    · simp at h
    · split at h
      · simp at h; subst h; exact first_bodyL l
      · unfold catS at h
        split at h
        · rcases List.mem_append.1 h with h | h
          · simp at h; subst h; exact first_bodyL l
          · have := ih _ r h; rw [List.length_drop] at this; omega
        · simp at h
theorem split_big {l : List Nat} (h : l.length ≤ 16777216) : BigR (splitD l).2.1 := by
  refine ⟨by have := split_len4 l; omega, fun r hr => ?_⟩
  have key : r ∈ (spR (l.length + 1) l).2.1 := by
    unfold splitD at hr
    split at hr
    · exact hr
    · split at hr
      · exact hr
      · simp at hr
  have := sp_body _ l r key
  omega
theorem parse_tree {l : List Nat} (h : (splitD l).1 = 0) : parseD l = match treeD (splitD l).2.1 with | some t => (0, t, (splitD l).2.2) | none => (20, ([], []), 0) := by
  unfold parseD treeD
  rw [if_pos h]
  cases hl : libR (splitD l).2.1 with
  | none => rfl
  | some y =>
    obtain ⟨t, m⟩ := y
    obtain ⟨_, e⟩ := libR_is hl
    have hs : splitD l = (0, (splitD l).2.1, (splitD l).2.2) := by rw [← h]
    have hm : m = [] := endl_all (t := t) (by rw [← e]; exact split_endl hs)
    subst hm
    rfl
theorem parse_fail {l : List Nat} (h : (splitD l).1 ≠ 0 ∨ treeD (splitD l).2.1 = none) : parseD l = (20, ([], []), 0) := by
  by_cases h0 : (splitD l).1 = 0
  · rw [parse_tree h0, h.resolve_left (fun h => h h0)]
  · unfold parseD; rw [if_neg h0]
theorem OwnR.ok {W : World} {base n : Nat} {v : Value} {rs : List KRec} (h : OwnR W base v n rs) : ∃ s c, v = .slice s n c ∧ RcSl W s rs ∧ (s = none → n = 0 ∧ c = 0) ∧ n ≤ c ∧ c ≤ 9223372036854775807 := by
  have h9 := h
  obtain ⟨xs, ⟨_, ⟨rfl, e⟩ | ⟨g, cap, cur, rfl, _, _, h1, h2, _⟩⟩, h5, _⟩ := h
  · subst e
    obtain rfl : rs = [] := List.length_eq_zero_iff.1 h5
    exact ⟨none, 0, rfl, fun i hi => by simp at hi, fun _ => ⟨rfl, rfl⟩, Nat.le_refl _, by omega⟩
  · exact ⟨_, cap, rfl, h9.sl, (fun e => by cases e), h1, by unfold maxLen at h2; omega⟩
set_option maxHeartbeats 16000000 in
theorem RParse_any (w : World) (s : Option Addr) (n cap : Nat) (l : List Nat) (hn : l.length = n) (hl : BySl w s l) (hc : n ≤ cap) (hm : cap ≤ 9223372036854775807) (hlong : n ≤ 16777216) :
    Calls Try.prog 11 #[.slice s n cap] w (RetParse w (parseD l)) := by
  have HQ : Hid (∀ W v x, x = parseD l → LibT W v x.2.1 → w.grownBy W none → RetParse w (parseD l) (.returned (.tuple #[v, .int .i64 (x.2.2 : Int), .int .i64 (x.1 : Int)])) W) := Lib.hid (fun W v x hx hv hg => by subst hx; exact ⟨v, rfl, hv, hg⟩)
  obtain ⟨P, hP⟩ : ∃ P, RetParse w (parseD l) = P := ⟨_, rfl⟩
  rw [hP] at HQ ⊢
  have HPT := Lib.hid (parse_tree (l := l))
  have HPF := Lib.hid (parse_fail (l := l))
  have HSM := Lib.hid (split_small hl.2)
  have HBG := Lib.hid (split_big (l := l) (by omega))
  have HS := Lib.hid (RSplit_any (w.alloc (.cells #[.slice none 0 0, .slice none 0 0] 27)) s n cap l hn (hl.kept (World.grownBy_alloc _ _ none)) hc hm hlong)
  obtain ⟨⟨c, rs, k⟩, hx⟩ : ∃ x, splitD l = x := ⟨_, rfl⟩
  rw [hx] at HPT HPF HSM HBG HS
  dsimp only at HPT HPF HSM HBG
  have g1 := World.grownBy_alloc w (.cells #[.slice none 0 0, .slice none 0 0] 27) none
  have b1 := heap_new w (.cells #[.slice none 0 0, .slice none 0 0] 27) w.heap.size rfl
  have HG1 := Lib.hid g1
  have HB1 := Lib.hid b1
  clear hn hl hP hx hc hm hlong g1 b1
  go_enter Try.func11, Try.ntmps11
  go_wp2_with fail
  refine HS.out.mono ?_
  rintro e w1 ⟨v, rfl, ho, hg1⟩
  dsimp only at ho ⊢
  obtain ⟨sv, cv, rfl, hsl, hzz, hcc, hmm⟩ := ho.ok
  have HSL := Lib.hid hsl
  have HZZ := Lib.hid hzz
  have HG2 := Lib.hid (grown_trans HG1.out hg1)
  have HB2 := Lib.hid (heap_kept hg1 HB1.out)
  clear ho hsl hzz hg1 HS HG1 HB1
  go_wp2_with fail
  refine (RTree_any w1 sv rs.length cv rs rfl HSL.out HZZ.out HSM.out HBG.out hcc hmm).mono ?_
  rintro e w2 (⟨hT, rfl, hg2⟩ | ⟨t, a, b, hT, rfl, hlt, hg2⟩)
  · have gA := World.grownBy_alloc w2 (.cells #[.slice none 0 0, .slice none 0 0] 27) none
    have hg3 := grown_trans hg2 gA
    have hG := grown_trans HG2.out hg3
    have hB := heap_kept hg3 HB2.out
    obtain ⟨_, _, Fr0, Fr1⟩ := box_cells2 hB
    have hF := Lib.hid (HQ.out _ (.agg #[.slice none 0 0, .slice none 0 0]) (20, ([], []), 0) (HPF.out (Or.inr hT)).symm (LibT.nil _) (grown_put2 hG (Nat.le_refl w.heap.size) (.slice none 0 0) (.slice none 0 0)))
    obtain ⟨D0, D1, _, _⟩ := box_cells2 (heap_set2 hB (.slice none 0 0) (.slice none 0 0))
    clear hT hg2 gA hg3 hG hB
    by_cases hc0 : c = 0
    · have q1 : ((c : Int) != 0) = false := by rw [hc0]; rfl
      clear hc0
      go_wp2_with fail
      exact bodyPost_ret (v := .tuple #[.agg #[.slice none 0 0, .slice none 0 0], .int .i64 0, .int .i64 20]) (by simp [results, Try.results11, go_sem, D0, D1]) rfl hF.out
    · have q1 : ((c : Int) != 0) = true := bne_iff_ne.2 (by omega)
      clear hc0
      go_wp2_with fail
      exact bodyPost_ret (v := .tuple #[.agg #[.slice none 0 0, .slice none 0 0], .int .i64 0, .int .i64 20]) (by simp [results, Try.results11, go_sem, D0, D1]) rfl hF.out
  · obtain ⟨sa, ca, sb, cb, hab⟩ := hlt.v.two
    injection hab with hab
    injection hab with hab
    simp only [List.cons.injEq, and_true] at hab
    obtain ⟨rfl, rfl⟩ := hab
    have gA := World.grownBy_alloc w2 (.cells #[.slice sa t.1.length ca, .slice sb t.2.length cb] 27) none
    have Bt := heap_new w2 (.cells #[.slice sa t.1.length ca, .slice sb t.2.length cb] 27) w2.heap.size rfl
    have hg3 := grown_trans hg2 gA
    have hG := grown_trans HG2.out hg3
    have hB := heap_kept hg3 HB2.out
    obtain ⟨_, _, Fr0, Fr1⟩ := box_cells2 hB
    obtain ⟨Ct0, Ct1, _, _⟩ := box_cells2 Bt
    by_cases hc0 : c = 0
    · have q1 : ((c : Int) != 0) = false := by rw [hc0]; rfl
      have gp := grown_put2b (W := w2.alloc (.cells #[.slice sa t.1.length ca, .slice sb t.2.length cb] 27)) (g := w.heap.size) (.slice sa t.1.length ca) (.slice sb t.2.length cb)
      have hF := Lib.hid (HQ.out _ (.agg #[.slice sa t.1.length ca, .slice sb t.2.length cb]) (0, t, k) (by rw [HPT.out hc0, hT]) ((hlt.kept gA).off gp hB (by decide) (by decide) (by decide) (by decide)) (grown_put2 hG (Nat.le_refl w.heap.size) (.slice sa t.1.length ca) (.slice sb t.2.length cb)))
      obtain ⟨D0, D1, _, _⟩ := box_cells2 (heap_set2 hB (.slice sa t.1.length ca) (.slice sb t.2.length cb))
      clear hT hg2 gA hg3 hG hB gp hlt Bt hc0
      go_wp2_with fail
      exact bodyPost_ret (v := .tuple #[.agg #[.slice sa t.1.length ca, .slice sb t.2.length cb], .int .i64 (k : Int), .int .i64 0]) (by simp [results, Try.results11, go_sem, D0, D1]) rfl hF.out
    · have q1 : ((c : Int) != 0) = true := bne_iff_ne.2 (by omega)
      have hF := Lib.hid (HQ.out _ (.agg #[.slice none 0 0, .slice none 0 0]) (20, ([], []), 0) (HPF.out (Or.inl hc0)).symm (LibT.nil _) (grown_put2 hG (Nat.le_refl w.heap.size) (.slice none 0 0) (.slice none 0 0)))
      obtain ⟨D0, D1, _, _⟩ := box_cells2 (heap_set2 hB (.slice none 0 0) (.slice none 0 0))
      clear hT hg2 gA hg3 hG hB hlt Bt hc0
      go_wp2_with fail
      exact bodyPost_ret (v := .tuple #[.agg #[.slice none 0 0, .slice none 0 0], .int .i64 0, .int .i64 20]) (by simp [results, Try.results11, go_sem, D0, D1]) rfl hF.out
end Go.Proofs.Ytcioefmldcmhgaa
