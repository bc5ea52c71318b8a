/- Streams as trees: head, properties, element. -/
import Derived.Test.YtcioefmldcmhgaaGR
namespace Go.Proofs.Ytcioefmldcmhgaa
open Go.RowKit
set_option maxRecDepth 100000
set_option linter.unusedVariables false
set_option linter.unusedSimpArgs false

theorem mask_none {t : List KRec} {b n : Ru} (h : manyR 55 t = none) : run (.tk 55 (.seq (.many 55) b) n) t = none := by
  cases hT : tkR 55 t with
  | none => simp [run, hT]
  | some o =>
    cases o with
    | none => rw [many_not hT] at h; cases h
    | some u => rw [many_more hT] at h; simp [run, hT, h]
theorem mask_yes {t u : List KRec} {b n : Ru} (h : manyR 55 t = some u) (hb : ∃ v, tkR 55 t = some (some v)) : run (.tk 55 (.seq (.many 55) b) n) t = run b u := by
  obtain ⟨v, hT⟩ := hb
  rw [many_more hT] at h
  simp [run, hT, h]
theorem mask_no {t u : List KRec} {b : Ru} (h : manyR 55 t = some u) (hb : ¬ ∃ v, tkR 55 t = some (some v)) : run (.tk 55 (.seq (.many 55) b) .nop) t = some u := by
  cases hT : tkR 55 t with
  | none => rw [many_misfit hT] at h; cases h
  | some o =>
    cases o with
    | none => rw [many_not hT] at h; simp [run, hT, h]
    | some v => exact absurd ⟨v, hT⟩ hb
theorem props_none {l : List KRec} (h : tkR 43 l = none) : propsR l = none := by
  match l, h with
  | [], h => cases h
  | [r], h =>
    simp only [tkR] at h
    split at h
    · rename_i h1; simp [propsR, h1]
    · cases h
  | r :: v :: t, h =>
    simp only [tkR] at h
    split at h
    · split at h
      · cases h
      · rename_i h1 h2; simp [propsR, h1, h2]
    · cases h
theorem props_not {l : List KRec} (h : tkR 43 l = some none) : propsR l = some l := by
  match l, h with
  | [], h => rfl
  | [r], h =>
    simp only [tkR] at h
    split at h
    · split at h <;> cases h
    · rename_i h1; simp [propsR, h1]
  | r :: v :: t, h =>
    simp only [tkR] at h
    split at h
    · split at h <;> cases h
    · rename_i h1; simp [propsR, h1]
theorem props_more {l t : List KRec} (h : tkR 43 l = some (some t)) : propsR l = (match run (musts [44]) t with | some u => propsR u | none => none) := by
  obtain ⟨r, rfl, h1, h2⟩ := tk_some h
  match t with
  | [] => simp [propsR, h1, musts, run, tkR]
  | v :: t =>
    by_cases h3 : v.1 = 44
    · by_cases h4 : rt v = true
      · simp [propsR, h1, h2, musts, run, tkR, h3, h4]
      · simp [propsR, h1, h2, musts, run, tkR, h3, h4]
    · simp [propsR, h1, h2, musts, run, tkR, h3]
theorem musts_one_len {k : Nat} {t u : List KRec} (h : run (musts [k]) t = some u) : t.length = u.length + 1 := by
  simp only [musts, run] at h
  split at h
  · rename_i m hm
    cases h
    split at hm
    · rename_i v hv
      cases hm
      exact tk_len hv
    · cases hm
  · cases h
set_option maxHeartbeats 16000000 in
theorem Head_any (c : Lst) (hc : c.ok) (w : World) (g : Nat) (l : List KRec) (hp : Ps c g w l) :
    Calls Try.prog 49 #[.pointer (some ⟨g, 0, none⟩)] w (RetRu c g w (run headRu l)) := by
  obtain ⟨x, hx⟩ : ∃ x, run headRu l = x := ⟨_, rfl⟩
  rw [hx]
  have HX := Lib.hid hx
  have HP := Lib.hid hp
  have HC := Lib.hid hc
  have HG : Hid (w.grownBy w (some g)) := Lib.hid (grown_refl _ _)
  clear hc hp hx
  go_enter Try.func49, Try.ntmps49
  go_wp2_with fail
  refine (Must_new c HC.out w g 2 [0, 1] l HP.out rfl (by decide) (by simp)).mono ?_
  rintro e w1 (⟨hT, rfl, hg1⟩ | ⟨t1, hT, rfl, hg1, hp1⟩)
  · skip
    have hF : Hid (RetRu c g w x mis w1) := Lib.hid (Or.inl ⟨by rw [← HX.out]; exact seq_none hT, rfl, grown_sg HG.out hg1⟩)
    clear hT hg1
    go_wp2_with fail
    exact ⟨rfl, hF.out⟩
  · skip
    have HX1 := Lib.hid ((seq_some hT).symm.trans HX.out)
    have HP1 := Lib.hid hp1
    have HG1 := Lib.hid (grown_sg HG.out hg1)
    clear hT hg1 hp1
    go_wp2_with fail
    refine (May_new c HC.out w1 g 3 [57, 58, 59] t1 HP1.out rfl (by decide) (by simp)).mono ?_
    rintro e w2 (⟨hT, rfl, hg1⟩ | ⟨t2, hT, rfl, hg1, hp1⟩)
    · skip
      have hF : Hid (RetRu c g w x mis w2) := Lib.hid (Or.inl ⟨by rw [← HX1.out]; exact seq_none hT, rfl, grown_sg HG1.out hg1⟩)
      clear hT hg1
      go_wp2_with fail
      exact ⟨rfl, hF.out⟩
    · skip
      have HX2 := Lib.hid ((seq_some hT).symm.trans HX1.out)
      have HP2 := Lib.hid hp1
      have HG2 := Lib.hid (grown_sg HG1.out hg1)
      clear hT hg1 hp1
      go_wp2_with fail
      refine (Must_new c HC.out w2 g 1 [2] t2 HP2.out rfl (by decide) (by simp)).mono ?_
      rintro e w3 (⟨hT, rfl, hg1⟩ | ⟨t3, hT, rfl, hg1, hp1⟩)
      · skip
        have hF : Hid (RetRu c g w x mis w3) := Lib.hid (Or.inl ⟨by rw [← HX2.out]; exact seq_none hT, rfl, grown_sg HG2.out hg1⟩)
        clear hT hg1
        go_wp2_with fail
        exact ⟨rfl, hF.out⟩
      · skip
        have HX3 := Lib.hid ((seq_some hT).symm.trans HX2.out)
        have HP3 := Lib.hid hp1
        have HG3 := Lib.hid (grown_sg HG2.out hg1)
        clear hT hg1 hp1
        go_wp2_with fail
        refine (May_new c HC.out w3 g 4 [31, 32, 35, 34] t3 HP3.out rfl (by decide) (by simp)).mono ?_
        rintro e w4 (⟨hT, rfl, hg1⟩ | ⟨t4, hT, rfl, hg1, hp1⟩)
        · skip
          have hF : Hid (RetRu c g w x mis w4) := Lib.hid (Or.inl ⟨by rw [← HX3.out]; exact seq_none hT, rfl, grown_sg HG3.out hg1⟩)
          clear hT hg1
          go_wp2_with fail
          exact ⟨rfl, hF.out⟩
        · skip
          have HX4 := Lib.hid ((seq_some hT).symm.trans HX3.out)
          have HP4 := Lib.hid hp1
          have HG4 := Lib.hid (grown_sg HG3.out hg1)
          clear hT hg1 hp1
          go_wp2_with fail
          refine (Takes_any c HC.out w4 g 54 t4 HP4.out).mono ?_
          rintro e w5 (⟨hT, rfl, hg1⟩ | ⟨hT, rfl, hg1, hp1⟩ | ⟨t5, hT, rfl, hg1, hp1⟩)
          · skip
            have hF : Hid (RetRu c g w x mis w5) := Lib.hid (Or.inl ⟨by rw [← HX4.out]; exact seq_none (tk_none hT), rfl, grown_sg HG4.out hg1⟩)
            clear hT hg1
            go_wp2_with fail
            exact ⟨rfl, hF.out⟩
          · skip
            have HX5 := Lib.hid ((seq_some ((tk_not hT).trans rfl)).symm.trans HX4.out)
            have HP5 := Lib.hid hp1
            have HG5 := Lib.hid (grown_sg HG4.out hg1)
            clear hT hg1 hp1
            go_wp2_with fail
            refine (Must_new c HC.out w5 g 1 [3] t4 HP5.out rfl (by decide) (by simp)).mono ?_
            rintro e w6 (⟨hT, rfl, hg1⟩ | ⟨t6, hT, rfl, hg1, hp1⟩)
            · skip
              have hF : Hid (RetRu c g w x mis w6) := Lib.hid (Or.inl ⟨by rw [← HX5.out]; exact hT, rfl, grown_sg HG5.out hg1⟩)
              clear hT hg1
              go_wp2_with fail
              exact ⟨rfl, hF.out⟩
            · skip
              have hF : Hid (RetRu c g w x (.returned (.tuple #[])) w6) := Lib.hid (Or.inr ⟨t6, by rw [← HX5.out]; exact hT, rfl, grown_sg HG5.out hg1, hp1⟩)
              clear hT hg1 hp1
              go_wp2_with fail
              refine bodyPost_ret (results_none rfl _ _ _) rfl ?_
              exact hF.out
          · skip
            have HT := Lib.hid hT
            have HPb := Lib.hid hp1
            have HGb := Lib.hid (grown_sg HG4.out hg1)
            clear hT hg1 hp1
            go_wp2_with fail
            refine (Many_any c HC.out w5 g 55 t5 HPb.out).mono ?_
            rintro e w7 (⟨hT, rfl, hg1⟩ | ⟨u, b, hT, rfl, hb, hg1, hp1⟩)
            · skip
              have hF : Hid (RetRu c g w x mis w7) := Lib.hid (Or.inl ⟨by rw [← HX4.out]; exact seq_none ((tk_take HT.out).trans (mask_none hT)), rfl, grown_sg HGb.out hg1⟩)
              clear hT hg1
              go_wp2_with fail
              exact ⟨rfl, hF.out⟩
            · skip
              cases b with
              | false =>
                have HX7 := Lib.hid ((seq_some ((tk_take HT.out).trans (mask_no hT (fun h => by have := hb.2 h; cases this)))).symm.trans HX4.out)
                have HP7 := Lib.hid hp1
                have HG7 := Lib.hid (grown_sg HGb.out hg1)
                clear hT hb hg1 hp1
                go_wp2_with fail
                refine (Must_new c HC.out w7 g 1 [3] u HP7.out rfl (by decide) (by simp)).mono ?_
                rintro e w8 (⟨hT, rfl, hg1⟩ | ⟨t8, hT, rfl, hg1, hp1⟩)
                · skip
                  have hF : Hid (RetRu c g w x mis w8) := Lib.hid (Or.inl ⟨by rw [← HX7.out]; exact hT, rfl, grown_sg HG7.out hg1⟩)
                  clear hT hg1
                  go_wp2_with fail
                  exact ⟨rfl, hF.out⟩
                · skip
                  have hF : Hid (RetRu c g w x (.returned (.tuple #[])) w8) := Lib.hid (Or.inr ⟨t8, by rw [← HX7.out]; exact hT, rfl, grown_sg HG7.out hg1, hp1⟩)
                  clear hT hg1 hp1
                  go_wp2_with fail
                  refine bodyPost_ret (results_none rfl _ _ _) rfl ?_
                  exact hF.out
              | true =>
                have HM := Lib.hid (mask_yes (b := musts [56]) (n := .nop) hT (hb.1 rfl))
                have HPc := Lib.hid hp1
                have HGc := Lib.hid (grown_sg HGb.out hg1)
                clear hT hb hg1 hp1
                go_wp2_with fail
                refine (Must_new c HC.out w7 g 1 [56] u HPc.out rfl (by decide) (by simp)).mono ?_
                rintro e w9 (⟨hT, rfl, hg1⟩ | ⟨t9, hT, rfl, hg1, hp1⟩)
                · skip
                  have hF : Hid (RetRu c g w x mis w9) := Lib.hid (Or.inl ⟨by rw [← HX4.out]; exact seq_none ((tk_take HT.out).trans (HM.out.trans hT)), rfl, grown_sg HGc.out hg1⟩)
                  clear hT hg1
                  go_wp2_with fail
                  exact ⟨rfl, hF.out⟩
                · skip
                  have HX9 := Lib.hid ((seq_some ((tk_take HT.out).trans (HM.out.trans hT))).symm.trans HX4.out)
                  have HP9 := Lib.hid hp1
                  have HG9 := Lib.hid (grown_sg HGc.out hg1)
                  clear hT hg1 hp1
                  go_wp2_with fail
                  refine (Must_new c HC.out w9 g 1 [3] t9 HP9.out rfl (by decide) (by simp)).mono ?_
                  rintro e w10 (⟨hT, rfl, hg1⟩ | ⟨t10, hT, rfl, hg1, hp1⟩)
                  · skip
                    have hF : Hid (RetRu c g w x mis w10) := Lib.hid (Or.inl ⟨by rw [← HX9.out]; exact hT, rfl, grown_sg HG9.out hg1⟩)
                    clear hT hg1
                    go_wp2_with fail
                    exact ⟨rfl, hF.out⟩
                  · skip
                    have hF : Hid (RetRu c g w x (.returned (.tuple #[])) w10) := Lib.hid (Or.inr ⟨t10, by rw [← HX9.out]; exact hT, rfl, grown_sg HG9.out hg1, hp1⟩)
                    clear hT hg1 hp1
                    go_wp2_with fail
                    refine bodyPost_ret (results_none rfl _ _ _) rfl ?_
                    exact hF.out
set_option maxHeartbeats 16000000 in
theorem Props_any (c : Lst) (hc : c.ok) (w : World) (g : Nat) (l : List KRec) (hp : Ps c g w l) :
    Calls Try.prog 62 #[.pointer (some ⟨g, 0, none⟩)] w (RetRu c g w (run Ru.props l)) := by
  obtain ⟨x, hx⟩ : ∃ x, run Ru.props l = x := ⟨_, rfl⟩
  rw [hx]
  have HX := Lib.hid hx
  have HP := Lib.hid hp
  have HC := Lib.hid hc
  have HG : Hid (w.grownBy w (some g)) := Lib.hid (grown_refl _ _)
  clear hc hp hx
  go_enter Try.func62, Try.ntmps62
  go_wp2_with fail
  go_loopg [] l.length (fun gh wr => ∃ (m : List KRec), m.length ≤ gh ∧ Hid (propsR m = x) ∧ Hid (Ps c g wr m) ∧ w.grownBy wr (some g))
  case atStart => exact ⟨l, Nat.le_refl _, HX, HP, HG.out⟩
  case round =>
    clear HG HP HX
    obtain ⟨m, hgh, HX, HP, hG⟩ := hrel
    have HG := Lib.hid hG
    have HGH := Lib.hid hgh
    clear hG hgh
    go_wp2_with fail
    refine (Takes_any c HC.out wr g 43 m HP.out).mono ?_
    rintro e w1 (⟨hT, rfl, hg1⟩ | ⟨hT, rfl, hg1, hp1⟩ | ⟨t, hT, rfl, hg1, hp1⟩)
    · have hF : Hid (RetRu c g w x mis w1) := Lib.hid (Or.inl ⟨by rw [← HX.out]; exact props_none hT, rfl, grown_sg HG.out hg1⟩)
      clear hT hg1
      go_wp2_with fail
      exact ⟨rfl, hF.out⟩
    · have hF : Hid (RetRu c g w x (.returned (.tuple #[])) w1) := Lib.hid (Or.inr ⟨m, by rw [← HX.out]; exact props_not hT, rfl, grown_sg HG.out hg1, hp1⟩)
      clear hT hg1 hp1
      go_wp2_with fail
      refine bodyPost_ret (results_none rfl _ _ _) rfl ?_
      exact hF.out
    · have HX2 := Lib.hid ((props_more hT).symm.trans HX.out)
      have HP2 := Lib.hid hp1
      have HG2 := Lib.hid (grown_sg HG.out hg1)
      have HL := Lib.hid (tk_len hT)
      clear hT hg1 hp1
      go_wp2_with fail
      refine (Must_new c HC.out w1 g 1 [44] t HP2.out rfl (by decide) (by simp)).mono ?_
      rintro e w2 (⟨hT, rfl, hg1⟩ | ⟨u, hT, rfl, hg1, hp1⟩)
      · have hF : Hid (RetRu c g w x mis w2) := Lib.hid (Or.inl ⟨by have := HX2.out; rw [hT] at this; exact this.symm, rfl, grown_sg HG2.out hg1⟩)
        clear hT hg1
        go_wp2_with fail
        exact ⟨rfl, hF.out⟩
      · have HX3 := Lib.hid (show propsR u = x by have := HX2.out; rw [hT] at this; exact this)
        have HP3 := Lib.hid hp1
        have HG3 := Lib.hid (grown_sg HG2.out hg1)
        have HL2 := Lib.hid (musts_one_len hT)
        clear hT hg1 hp1
        go_wp2_with fail
        go_roundg u.length
        case measure => have := HL.out; have := HL2.out; have := HGH.out; omega
        case rel => exact ⟨u, Nat.le_refl _, HX3, HP3, HG3.out⟩
set_option maxHeartbeats 16000000 in
theorem Element_any (c : Lst) (hc : c.ok) (w : World) (g : Nat) (l : List KRec) (hp : Ps c g w l) :
    Calls Try.prog 61 #[.pointer (some ⟨g, 0, none⟩)] w (RetRu c g w (run elementRu l)) := by
  obtain ⟨x, hx⟩ : ∃ x, run elementRu l = x := ⟨_, rfl⟩
  rw [hx]
  have HX := Lib.hid hx
  have HP := Lib.hid hp
  have HC := Lib.hid hc
  have HG : Hid (w.grownBy w (some g)) := Lib.hid (grown_refl _ _)
  clear hc hp hx
  go_enter Try.func61, Try.ntmps61
  go_wp2_with fail
  refine (Takes_any c HC.out w g 8 l HP.out).mono ?_
  rintro e w11 (⟨hT, rfl, hg1⟩ | ⟨hT, rfl, hg1, hp1⟩ | ⟨t11, hT, rfl, hg1, hp1⟩)
  · skip
    have hF : Hid (RetRu c g w x mis w11) := Lib.hid (Or.inl ⟨by rw [← HX.out]; exact tk_none hT, rfl, grown_sg HG.out hg1⟩)
    clear hT hg1
    go_wp2_with fail
    exact ⟨rfl, hF.out⟩
  · skip
    have HX11 := Lib.hid ((tk_not hT).symm.trans HX.out)
    have HP11 := Lib.hid hp1
    have HG11 := Lib.hid (grown_sg HG.out hg1)
    clear hT hg1 hp1
    go_wp2_with fail
    refine (Takes_any c HC.out w11 g 9 l HP11.out).mono ?_
    rintro e w12 (⟨hT, rfl, hg1⟩ | ⟨hT, rfl, hg1, hp1⟩ | ⟨t12, hT, rfl, hg1, hp1⟩)
    · skip
      have hF : Hid (RetRu c g w x mis w12) := Lib.hid (Or.inl ⟨by rw [← HX11.out]; exact tk_none hT, rfl, grown_sg HG11.out hg1⟩)
      clear hT hg1
      go_wp2_with fail
      exact ⟨rfl, hF.out⟩
    · skip
      have HX12 := Lib.hid ((tk_not hT).symm.trans HX11.out)
      have HP12 := Lib.hid hp1
      have HG12 := Lib.hid (grown_sg HG11.out hg1)
      clear hT hg1 hp1
      go_wp2_with fail
      refine (Takes_any c HC.out w12 g 10 l HP12.out).mono ?_
      rintro e w13 (⟨hT, rfl, hg1⟩ | ⟨hT, rfl, hg1, hp1⟩ | ⟨t13, hT, rfl, hg1, hp1⟩)
      · skip
        have hF : Hid (RetRu c g w x mis w13) := Lib.hid (Or.inl ⟨by rw [← HX12.out]; exact tk_none hT, rfl, grown_sg HG12.out hg1⟩)
        clear hT hg1
        go_wp2_with fail
        exact ⟨rfl, hF.out⟩
      · skip
        have HX13 := Lib.hid ((tk_not hT).symm.trans HX12.out)
        have HP13 := Lib.hid hp1
        have HG13 := Lib.hid (grown_sg HG12.out hg1)
        clear hT hg1 hp1
        go_wp2_with fail
        refine (Takes_any c HC.out w13 g 11 l HP13.out).mono ?_
        rintro e w14 (⟨hT, rfl, hg1⟩ | ⟨hT, rfl, hg1, hp1⟩ | ⟨t14, hT, rfl, hg1, hp1⟩)
        · skip
          have hF : Hid (RetRu c g w x mis w14) := Lib.hid (Or.inl ⟨by rw [← HX13.out]; exact tk_none hT, rfl, grown_sg HG13.out hg1⟩)
          clear hT hg1
          go_wp2_with fail
          exact ⟨rfl, hF.out⟩
        · skip
          have HX14 := Lib.hid ((tk_not hT).symm.trans HX13.out)
          have HP14 := Lib.hid hp1
          have HG14 := Lib.hid (grown_sg HG13.out hg1)
          clear hT hg1 hp1
          go_wp2_with fail
          refine (Takes_any c HC.out w14 g 12 l HP14.out).mono ?_
          rintro e w15 (⟨hT, rfl, hg1⟩ | ⟨hT, rfl, hg1, hp1⟩ | ⟨t15, hT, rfl, hg1, hp1⟩)
          · skip
            have hF : Hid (RetRu c g w x mis w15) := Lib.hid (Or.inl ⟨by rw [← HX14.out]; exact tk_none hT, rfl, grown_sg HG14.out hg1⟩)
            clear hT hg1
            go_wp2_with fail
            exact ⟨rfl, hF.out⟩
          · skip
            have HX15 := Lib.hid ((tk_not hT).symm.trans HX14.out)
            have HP15 := Lib.hid hp1
            have HG15 := Lib.hid (grown_sg HG14.out hg1)
            clear hT hg1 hp1
            go_wp2_with fail
            refine (Takes_any c HC.out w15 g 21 l HP15.out).mono ?_
            rintro e w16 (⟨hT, rfl, hg1⟩ | ⟨hT, rfl, hg1, hp1⟩ | ⟨t16, hT, rfl, hg1, hp1⟩)
            · skip
              have hF : Hid (RetRu c g w x mis w16) := Lib.hid (Or.inl ⟨by rw [← HX15.out]; exact tk_none hT, rfl, grown_sg HG15.out hg1⟩)
              clear hT hg1
              go_wp2_with fail
              exact ⟨rfl, hF.out⟩
            · skip
              have HX16 := Lib.hid ((tk_not hT).symm.trans HX15.out)
              have HP16 := Lib.hid hp1
              have HG16 := Lib.hid (grown_sg HG15.out hg1)
              clear hT hg1 hp1
              go_wp2_with fail
              refine (Takes_any c HC.out w16 g 45 l HP16.out).mono ?_
              rintro e w17 (⟨hT, rfl, hg1⟩ | ⟨hT, rfl, hg1, hp1⟩ | ⟨t17, hT, rfl, hg1, hp1⟩)
              · skip
                have hF : Hid (RetRu c g w x mis w17) := Lib.hid (Or.inl ⟨by rw [← HX16.out]; exact tk_none hT, rfl, grown_sg HG16.out hg1⟩)
                clear hT hg1
                go_wp2_with fail
                exact ⟨rfl, hF.out⟩
              · skip
                have HX17 := Lib.hid ((tk_not hT).symm.trans HX16.out)
                have HP17 := Lib.hid hp1
                have HG17 := Lib.hid (grown_sg HG16.out hg1)
                clear hT hg1 hp1
                have hF : Hid (RetRu c g w x mis w17) := Lib.hid (Or.inl ⟨by rw [← HX17.out]; rfl, rfl, HG17.out⟩)
                go_wp2_with fail
                exact ⟨rfl, hF.out⟩
              · skip
                have HX17 := Lib.hid ((tk_take hT).symm.trans HX16.out)
                have HP17 := Lib.hid hp1
                have HG17 := Lib.hid (grown_sg HG16.out hg1)
                clear hT hg1 hp1
                go_wp2_with fail
                refine (Drawn_any c HC.out w17 g 46 (by decide) t17 HP17.out).mono ?_
                rintro e w18 (⟨hT, rfl, hg1⟩ | ⟨t18, hT, rfl, hg1, hp1⟩)
                · skip
                  have hF : Hid (RetRu c g w x mis w18) := Lib.hid (Or.inl ⟨by rw [← HX17.out]; exact seq_none hT, rfl, grown_sg HG17.out hg1⟩)
                  clear hT hg1
                  go_wp2_with fail
                  exact ⟨rfl, hF.out⟩
                · skip
                  have HX18 := Lib.hid ((seq_some hT).symm.trans HX17.out)
                  have HP18 := Lib.hid hp1
                  have HG18 := Lib.hid (grown_sg HG17.out hg1)
                  clear hT hg1 hp1
                  go_wp2_with fail
                  refine (Must_new c HC.out w18 g 1 [16] t18 HP18.out rfl (by decide) (by simp)).mono ?_
                  rintro e w19 (⟨hT, rfl, hg1⟩ | ⟨t19, hT, rfl, hg1, hp1⟩)
                  · skip
                    have hF : Hid (RetRu c g w x mis w19) := Lib.hid (Or.inl ⟨by rw [← HX18.out]; exact hT, rfl, grown_sg HG18.out hg1⟩)
                    clear hT hg1
                    go_wp2_with fail
                    exact ⟨rfl, hF.out⟩
                  · skip
                    have hF : Hid (RetRu c g w x (.returned (.tuple #[])) w19) := Lib.hid (Or.inr ⟨t19, by rw [← HX18.out]; exact hT, rfl, grown_sg HG18.out hg1, hp1⟩)
                    clear hT hg1 hp1
                    go_wp2_with fail
                    refine bodyPost_ret (results_none rfl _ _ _) rfl ?_
                    exact hF.out
            · skip
              have HX16 := Lib.hid ((tk_take hT).symm.trans HX15.out)
              have HP16 := Lib.hid hp1
              have HG16 := Lib.hid (grown_sg HG15.out hg1)
              clear hT hg1 hp1
              go_wp2_with fail
              refine (Drawn_any c HC.out w16 g 42 (by decide) t16 HP16.out).mono ?_
              rintro e w20 (⟨hT, rfl, hg1⟩ | ⟨t20, hT, rfl, hg1, hp1⟩)
              · skip
                have hF : Hid (RetRu c g w x mis w20) := Lib.hid (Or.inl ⟨by rw [← HX16.out]; exact seq_none hT, rfl, grown_sg HG16.out hg1⟩)
                clear hT hg1
                go_wp2_with fail
                exact ⟨rfl, hF.out⟩
              · skip
                have HX20 := Lib.hid ((seq_some hT).symm.trans HX16.out)
                have HP20 := Lib.hid hp1
                have HG20 := Lib.hid (grown_sg HG16.out hg1)
                clear hT hg1 hp1
                go_wp2_with fail
                refine (Must_new c HC.out w20 g 1 [16] t20 HP20.out rfl (by decide) (by simp)).mono ?_
                rintro e w21 (⟨hT, rfl, hg1⟩ | ⟨t21, hT, rfl, hg1, hp1⟩)
                · skip
                  have hF : Hid (RetRu c g w x mis w21) := Lib.hid (Or.inl ⟨by rw [← HX20.out]; exact hT, rfl, grown_sg HG20.out hg1⟩)
                  clear hT hg1
                  go_wp2_with fail
                  exact ⟨rfl, hF.out⟩
                · skip
                  have hF : Hid (RetRu c g w x (.returned (.tuple #[])) w21) := Lib.hid (Or.inr ⟨t21, by rw [← HX20.out]; exact hT, rfl, grown_sg HG20.out hg1, hp1⟩)
                  clear hT hg1 hp1
                  go_wp2_with fail
                  refine bodyPost_ret (results_none rfl _ _ _) rfl ?_
                  exact hF.out
          · skip
            have HX15 := Lib.hid ((tk_take hT).symm.trans HX14.out)
            have HP15 := Lib.hid hp1
            have HG15 := Lib.hid (grown_sg HG14.out hg1)
            clear hT hg1 hp1
            go_wp2_with fail
            refine (Drawn_any c HC.out w15 g 22 (by decide) t15 HP15.out).mono ?_
            rintro e w22 (⟨hT, rfl, hg1⟩ | ⟨t22, hT, rfl, hg1, hp1⟩)
            · skip
              have hF : Hid (RetRu c g w x mis w22) := Lib.hid (Or.inl ⟨by rw [← HX15.out]; exact seq_none hT, rfl, grown_sg HG15.out hg1⟩)
              clear hT hg1
              go_wp2_with fail
              exact ⟨rfl, hF.out⟩
            · skip
              have HX22 := Lib.hid ((seq_some hT).symm.trans HX15.out)
              have HP22 := Lib.hid hp1
              have HG22 := Lib.hid (grown_sg HG15.out hg1)
              clear hT hg1 hp1
              go_wp2_with fail
              refine (May_new c HC.out w22 g 3 [23, 33, 15] t22 HP22.out rfl (by decide) (by simp)).mono ?_
              rintro e w23 (⟨hT, rfl, hg1⟩ | ⟨t23, hT, rfl, hg1, hp1⟩)
              · skip
                have hF : Hid (RetRu c g w x mis w23) := Lib.hid (Or.inl ⟨by rw [← HX22.out]; exact seq_none hT, rfl, grown_sg HG22.out hg1⟩)
                clear hT hg1
                go_wp2_with fail
                exact ⟨rfl, hF.out⟩
              · skip
                have HX23 := Lib.hid ((seq_some hT).symm.trans HX22.out)
                have HP23 := Lib.hid hp1
                have HG23 := Lib.hid (grown_sg HG22.out hg1)
                clear hT hg1 hp1
                go_wp2_with fail
                refine (Trans_any c HC.out w23 g t23 HP23.out).mono ?_
                rintro e w24 (⟨hT, rfl, hg1⟩ | ⟨t24, hT, rfl, hg1, hp1⟩)
                · skip
                  have hF : Hid (RetRu c g w x mis w24) := Lib.hid (Or.inl ⟨by rw [← HX23.out]; exact seq_none hT, rfl, grown_sg HG23.out hg1⟩)
                  clear hT hg1
                  go_wp2_with fail
                  exact ⟨rfl, hF.out⟩
                · skip
                  have HX24 := Lib.hid ((seq_some hT).symm.trans HX23.out)
                  have HP24 := Lib.hid hp1
                  have HG24 := Lib.hid (grown_sg HG23.out hg1)
                  clear hT hg1 hp1
                  go_wp2_with fail
                  refine (Must_new c HC.out w24 g 2 [16, 25] t24 HP24.out rfl (by decide) (by simp)).mono ?_
                  rintro e w25 (⟨hT, rfl, hg1⟩ | ⟨t25, hT, rfl, hg1, hp1⟩)
                  · skip
                    have hF : Hid (RetRu c g w x mis w25) := Lib.hid (Or.inl ⟨by rw [← HX24.out]; exact hT, rfl, grown_sg HG24.out hg1⟩)
                    clear hT hg1
                    go_wp2_with fail
                    exact ⟨rfl, hF.out⟩
                  · skip
                    have hF : Hid (RetRu c g w x (.returned (.tuple #[])) w25) := Lib.hid (Or.inr ⟨t25, by rw [← HX24.out]; exact hT, rfl, grown_sg HG24.out hg1, hp1⟩)
                    clear hT hg1 hp1
                    go_wp2_with fail
                    refine bodyPost_ret (results_none rfl _ _ _) rfl ?_
                    exact hF.out
        · skip
          have HX14 := Lib.hid ((tk_take hT).symm.trans HX13.out)
          have HP14 := Lib.hid hp1
          have HG14 := Lib.hid (grown_sg HG13.out hg1)
          clear hT hg1 hp1
          go_wp2_with fail
          refine (Referred_any c HC.out w14 g t14 HP14.out).mono ?_
          rintro e w26 (⟨hT, rfl, hg1⟩ | ⟨t26, hT, rfl, hg1, hp1⟩)
          · skip
            have hF : Hid (RetRu c g w x mis w26) := Lib.hid (Or.inl ⟨by rw [← HX14.out]; exact seq_none hT, rfl, grown_sg HG14.out hg1⟩)
            clear hT hg1
            go_wp2_with fail
            exact ⟨rfl, hF.out⟩
          · skip
            have HX26 := Lib.hid ((seq_some hT).symm.trans HX14.out)
            have HP26 := Lib.hid hp1
            have HG26 := Lib.hid (grown_sg HG14.out hg1)
            clear hT hg1 hp1
            go_wp2_with fail
            refine (Must_new c HC.out w26 g 2 [19, 16] t26 HP26.out rfl (by decide) (by simp)).mono ?_
            rintro e w27 (⟨hT, rfl, hg1⟩ | ⟨t27, hT, rfl, hg1, hp1⟩)
            · skip
              have hF : Hid (RetRu c g w x mis w27) := Lib.hid (Or.inl ⟨by rw [← HX26.out]; exact hT, rfl, grown_sg HG26.out hg1⟩)
              clear hT hg1
              go_wp2_with fail
              exact ⟨rfl, hF.out⟩
            · skip
              have hF : Hid (RetRu c g w x (.returned (.tuple #[])) w27) := Lib.hid (Or.inr ⟨t27, by rw [← HX26.out]; exact hT, rfl, grown_sg HG26.out hg1, hp1⟩)
              clear hT hg1 hp1
              go_wp2_with fail
              refine bodyPost_ret (results_none rfl _ _ _) rfl ?_
              exact hF.out
      · skip
        have HX13 := Lib.hid ((tk_take hT).symm.trans HX12.out)
        have HP13 := Lib.hid hp1
        have HG13 := Lib.hid (grown_sg HG12.out hg1)
        clear hT hg1 hp1
        go_wp2_with fail
        refine (Referred_any c HC.out w13 g t13 HP13.out).mono ?_
        rintro e w28 (⟨hT, rfl, hg1⟩ | ⟨t28, hT, rfl, hg1, hp1⟩)
        · skip
          have hF : Hid (RetRu c g w x mis w28) := Lib.hid (Or.inl ⟨by rw [← HX13.out]; exact seq_none hT, rfl, grown_sg HG13.out hg1⟩)
          clear hT hg1
          go_wp2_with fail
          exact ⟨rfl, hF.out⟩
        · skip
          have HX28 := Lib.hid ((seq_some hT).symm.trans HX13.out)
          have HP28 := Lib.hid hp1
          have HG28 := Lib.hid (grown_sg HG13.out hg1)
          clear hT hg1 hp1
          go_wp2_with fail
          refine (Must_new c HC.out w28 g 1 [16] t28 HP28.out rfl (by decide) (by simp)).mono ?_
          rintro e w29 (⟨hT, rfl, hg1⟩ | ⟨t29, hT, rfl, hg1, hp1⟩)
          · skip
            have hF : Hid (RetRu c g w x mis w29) := Lib.hid (Or.inl ⟨by rw [← HX28.out]; exact hT, rfl, grown_sg HG28.out hg1⟩)
            clear hT hg1
            go_wp2_with fail
            exact ⟨rfl, hF.out⟩
          · skip
            have hF : Hid (RetRu c g w x (.returned (.tuple #[])) w29) := Lib.hid (Or.inr ⟨t29, by rw [← HX28.out]; exact hT, rfl, grown_sg HG28.out hg1, hp1⟩)
            clear hT hg1 hp1
            go_wp2_with fail
            refine bodyPost_ret (results_none rfl _ _ _) rfl ?_
            exact hF.out
    · skip
      have HX12 := Lib.hid ((tk_take hT).symm.trans HX11.out)
      have HP12 := Lib.hid hp1
      have HG12 := Lib.hid (grown_sg HG11.out hg1)
      clear hT hg1 hp1
      go_wp2_with fail
      refine (Drawn_any c HC.out w12 g 14 (by decide) t12 HP12.out).mono ?_
      rintro e w30 (⟨hT, rfl, hg1⟩ | ⟨t30, hT, rfl, hg1, hp1⟩)
      · skip
        have hF : Hid (RetRu c g w x mis w30) := Lib.hid (Or.inl ⟨by rw [← HX12.out]; exact seq_none hT, rfl, grown_sg HG12.out hg1⟩)
        clear hT hg1
        go_wp2_with fail
        exact ⟨rfl, hF.out⟩
      · skip
        have HX30 := Lib.hid ((seq_some hT).symm.trans HX12.out)
        have HP30 := Lib.hid hp1
        have HG30 := Lib.hid (grown_sg HG12.out hg1)
        clear hT hg1 hp1
        go_wp2_with fail
        refine (May_new c HC.out w30 g 4 [33, 15, 48, 49] t30 HP30.out rfl (by decide) (by simp)).mono ?_
        rintro e w31 (⟨hT, rfl, hg1⟩ | ⟨t31, hT, rfl, hg1, hp1⟩)
        · skip
          have hF : Hid (RetRu c g w x mis w31) := Lib.hid (Or.inl ⟨by rw [← HX30.out]; exact seq_none hT, rfl, grown_sg HG30.out hg1⟩)
          clear hT hg1
          go_wp2_with fail
          exact ⟨rfl, hF.out⟩
        · skip
          have HX31 := Lib.hid ((seq_some hT).symm.trans HX30.out)
          have HP31 := Lib.hid hp1
          have HG31 := Lib.hid (grown_sg HG30.out hg1)
          clear hT hg1 hp1
          go_wp2_with fail
          refine (Must_new c HC.out w31 g 1 [16] t31 HP31.out rfl (by decide) (by simp)).mono ?_
          rintro e w32 (⟨hT, rfl, hg1⟩ | ⟨t32, hT, rfl, hg1, hp1⟩)
          · skip
            have hF : Hid (RetRu c g w x mis w32) := Lib.hid (Or.inl ⟨by rw [← HX31.out]; exact hT, rfl, grown_sg HG31.out hg1⟩)
            clear hT hg1
            go_wp2_with fail
            exact ⟨rfl, hF.out⟩
          · skip
            have hF : Hid (RetRu c g w x (.returned (.tuple #[])) w32) := Lib.hid (Or.inr ⟨t32, by rw [← HX31.out]; exact hT, rfl, grown_sg HG31.out hg1, hp1⟩)
            clear hT hg1 hp1
            go_wp2_with fail
            refine bodyPost_ret (results_none rfl _ _ _) rfl ?_
            exact hF.out
  · skip
    have HX11 := Lib.hid ((tk_take hT).symm.trans HX.out)
    have HP11 := Lib.hid hp1
    have HG11 := Lib.hid (grown_sg HG.out hg1)
    clear hT hg1 hp1
    go_wp2_with fail
    refine (Drawn_any c HC.out w11 g 14 (by decide) t11 HP11.out).mono ?_
    rintro e w33 (⟨hT, rfl, hg1⟩ | ⟨t33, hT, rfl, hg1, hp1⟩)
    · skip
      have hF : Hid (RetRu c g w x mis w33) := Lib.hid (Or.inl ⟨by rw [← HX11.out]; exact seq_none hT, rfl, grown_sg HG11.out hg1⟩)
      clear hT hg1
      go_wp2_with fail
      exact ⟨rfl, hF.out⟩
    · skip
      have HX33 := Lib.hid ((seq_some hT).symm.trans HX11.out)
      have HP33 := Lib.hid hp1
      have HG33 := Lib.hid (grown_sg HG11.out hg1)
      clear hT hg1 hp1
      go_wp2_with fail
      refine (Must_new c HC.out w33 g 1 [16] t33 HP33.out rfl (by decide) (by simp)).mono ?_
      rintro e w34 (⟨hT, rfl, hg1⟩ | ⟨t34, hT, rfl, hg1, hp1⟩)
      · skip
        have hF : Hid (RetRu c g w x mis w34) := Lib.hid (Or.inl ⟨by rw [← HX33.out]; exact hT, rfl, grown_sg HG33.out hg1⟩)
        clear hT hg1
        go_wp2_with fail
        exact ⟨rfl, hF.out⟩
      · skip
        have hF : Hid (RetRu c g w x (.returned (.tuple #[])) w34) := Lib.hid (Or.inr ⟨t34, by rw [← HX33.out]; exact hT, rfl, grown_sg HG33.out hg1, hp1⟩)
        clear hT hg1 hp1
        go_wp2_with fail
        refine bodyPost_ret (results_none rfl _ _ _) rfl ?_
        exact hF.out
end Go.Proofs.Ytcioefmldcmhgaa
