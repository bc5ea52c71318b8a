/- Streams as trees: the document's Tree. -/
import Derived.Test.YtcioefmldcmhgaaGBa
import Derived.Deep.CutBlock
import Derived.Deep.CutRange
namespace Go.Proofs.Ytcioefmldcmhgaa
open Go.RowKit
set_option maxRecDepth 100000
set_option linter.unusedVariables false
set_option linter.unusedSimpArgs false

/-- What Tree answers. -/
def RetTree (w : World) (x : Option KLib) (e : Ending) (w' : World) : Prop :=
  (x = none ∧ e = .returned (.tuple #[.agg #[.slice none 0 0, .slice none 0 0], .bool false]) ∧ w.grownBy w' none) ∨ (∃ t a b, x = some t ∧ e = .returned (.tuple #[.agg #[a, b], .bool true]) ∧ LibT w' (.agg #[a, b]) t ∧ w.grownBy w' none)
theorem tree_head {l : List KRec} (h : headD l = none) : treeD l = none := by
  rw [headD_is] at h
  unfold treeD libR
  rw [lib_1 h]
theorem tree_lib {l m : List KRec} (h : headD l = some m) : libR l = endL (cutL l m) (cellsR (l.length + 1) (l.length + 1) m) := by
  rw [headD_is] at h
  exact lib_2 h
theorem tree_none {l m : List KRec} (h : headD l = some m) (h2 : endL (cutL l m) (cellsR (l.length + 1) (l.length + 1) m) = none) : treeD l = none := by
  unfold treeD; rw [tree_lib h, h2]
theorem head_none {l : List KRec} (h : run (rowRu (headRow ++ [1054])) l = none) : headD l = none := by unfold headD; rw [h]
theorem head_some {l m : List KRec} (h : run (rowRu (headRow ++ [1054])) l = some m) : headD l = if lastBy l m = 54 then maskD m else run (.one 3) m := by unfold headD; rw [h]
theorem fit_one (x : Nat) (hx : x < 1000) (l : List KRec) : (run (.one x) l = none ∧ fitD [x] l = -1) ∨ ∃ r m, run (.one x) l = some m ∧ l = r :: m ∧ r.1 = x ∧ rt r = true ∧ fitD [x] l = 1 := by
  unfold fitD
  rw [row_one x hx]
  cases h : run (.one x) l with
  | none => exact Or.inl ⟨rfl, rfl⟩
  | some m =>
    simp only [run] at h
    split at h
    · rename_i t ht
      obtain ⟨r, rfl, h1, h2⟩ := tk_some ht
      cases h
      refine Or.inr ⟨r, _, rfl, rfl, h1, h2, ?_⟩
      simp
    · cases h
theorem drop_one {rs m : List KRec} {r : KRec} {k : Nat} (h : rs.drop k = r :: m) : rs.drop (k + 1) = m ∧ k + 1 + m.length = rs.length := by
  have h2 := drop_more (p := [r]) (m := m) (by simpa using h)
  exact ⟨by simpa using h2.1, by have := h2.2.2 (by simp); simpa using this⟩
theorem mask_more {l t : List KRec} (k : Nat) (h : run (.one 55) (l.drop k) = some t) : mEnd (l.drop k) = mEnd t := (mEnd_one h).1
theorem mask_some {l l' : List KRec} (h : mEnd l = l') (hl : l'.length < l.length) : maskD l = (run (.one 56) l').bind (run (.one 3)) := by
  unfold maskD; rw [h, if_pos hl]
theorem mask_zero {l : List KRec} (h : mEnd l = l) : maskD l = run (.one 3) l := by
  unfold maskD; rw [h, if_neg (Nat.lt_irrefl _)]
theorem cutL_drop (l : List KRec) (K : Nat) (h : K ≤ l.length) : cutL l (l.drop K) = l.take K := by
  unfold cutL; rw [List.length_drop]; congr 1; omega
theorem title_row (l : List KRec) : run titleRu l = run (rowRu [5, 6, 1052]) l := by
  unfold titleRu
  rw [run_seq, musts_row [5, 6] (by decide), show ([5, 6, 1052] : List Nat) = [5, 6] ++ [52].map (· + 1000) from rfl, row_app]
  exact congrArg _ (funext fun x => mays_row [52] x)
theorem sees_no {rs : List KRec} {k : Nat} (h : rs.length ≤ k) : sees 5 (rs.drop k) = false := by rw [List.drop_eq_nil_of_le h]; rfl
theorem sees_at {rs : List KRec} {k : Nat} (h : k < rs.length) {kd dt : Nat} {bd : List Nat} (hr : rs[k] = (kd, dt, bd)) : sees 5 (rs.drop k) = decide (kd = 5) := by
  rw [List.drop_eq_getElem_cons h, hr]; rfl
theorem tree_end {l : List KRec} {hd : List KRec} {o : Option (List KCell × List KRec)} (h : libR l = endL hd o) : treeD l = match endL hd o with | some (t, []) => some t | _ => none := by unfold treeD; rw [h]; rfl
theorem end_bad {hd : List KRec} {xs : List KCell} {m : List KRec} (h : run (.one 4) m = none) : endL hd (some (xs, m)) = none := by simp [endL, h]
theorem end_ok {hd : List KRec} {xs : List KCell} {m u : List KRec} (h : run (.one 4) m = some u) : endL hd (some (xs, m)) = some ((hd, xs), u) := by simp [endL, h]
theorem items_no {f : Nat} {m : List KRec} (h7 : m = [] ∨ ∃ r t, m = r :: t ∧ r.1 = 7) (h : run (.one 7) m = none) : itemsR (f + 1) m = none := by
  rcases h7 with rfl | ⟨r, t, rfl, h7⟩
  · exact items_bad rfl (by rw [itemR_doc]; rfl)
  · refine items_misfit ?_
    simp only [run, tkR] at h ⊢
    rw [if_pos h7] at h ⊢
    split at h
    · rename_i ht
      split at ht
      · cases h
      · cases ht
    · rename_i h9
      split
      · rename_i h2; rw [if_pos h2] at h9; exact absurd rfl (h9 _)
      · rfl
theorem items_yes {f : Nat} {m t : List KRec} (h : run (.one 7) m = some t) : itemsR (f + 1) m = some ([], t) := by
  refine items_stop ?_
  simp only [run] at h
  split at h
  · cases h; assumption
  · cases h
theorem tree_no {rs hd ch m : List KRec} {F f : Nat} {xs : List KCell} {y : Option (List KCell × List KRec)} {y2 : Option (List KItem × List KRec)} (h4 : libR rs = endL hd y) (hy : catI xs (cellsR F (f + 1) m) = y) (hs : sees 5 m = true)
    (hc : cellR F m = y2.map fun z => ((ch, z.1), z.2)) (h2 : y2 = none) : treeD rs = none := by
  rw [tree_end h4, ← hy, cells_bad hs (by rw [hc, h2]; rfl)]; rfl
theorem cat_none {α : Type} {xs : List α} {o y : Option (List α × List KRec)} (h : catI xs o = y) (ho : o = none) : y = none := by rw [← h, ho]; rfl
/-- How many records an item's are; -1: they are none. -/
def fitE (l : List KRec) : Int := match run elementRu l with | some m => ((l.length - m.length : Nat) : Int) | none => -1
theorem fitE_cases (l : List KRec) : (run elementRu l = none ∧ fitE l = -1) ∨ ∃ m p, run elementRu l = some m ∧ l = p ++ m ∧ fitE l = (p.length : Int) ∧ 0 < p.length := by
  unfold fitE
  cases h : run elementRu l with
  | none => exact Or.inl ⟨rfl, rfl⟩
  | some m =>
    obtain ⟨p, e, h2⟩ := run_pre h
    obtain ⟨r, t, e2, _⟩ := element_first h2
    refine Or.inr ⟨m, p, rfl, e, ?_, by rw [e2]; simp⟩
    rw [e, List.length_append]
    simp
theorem fitE_first {l : List KRec} {k : Nat} (h : ∃ r t, l = r :: t ∧ r.1 = k) (h0 : rowD k false ≠ []) : fitE l = if fitD (rowD k false) l = -1 then fitD (rowD k true) l else fitD (rowD k false) l := by
  obtain ⟨r, t, rfl, rfl⟩ := h
  unfold fitE
  rw [element_rows ⟨r, t, rfl⟩]
  have e : firstK (r :: t) = r.1 := rfl
  rw [e, if_neg h0]
  rcases fit_cases (rowD r.1 false) (r :: t) with ⟨h1, h2⟩ | ⟨m, p, h1, h2, h3⟩
  · rw [h2, if_pos rfl, h1, Option.none_or]; rfl
  · rw [h3, if_neg (by omega), h1, Option.some_or, ← h3]; unfold fitD; rw [h1]
theorem elem_no {l : List KRec} {k : Nat} (h : ∃ r t, l = r :: t ∧ r.1 = k) (h0 : rowD k false = []) : run elementRu l = none := by
  obtain ⟨r, t, rfl, rfl⟩ := h
  rw [element_rows ⟨r, t, rfl⟩]
  exact if_pos h0
theorem rowD_ne {k : Nat} (h : rowD k false ≠ []) : rowD k true ≠ [] := by
  revert h
  unfold rowD
  repeat' split
  all_goals simp
theorem item_no {l : List KRec} (h : run elementRu l = none) : itemR l = none := by rw [itemR_doc, h]
theorem item_no2 {l l1 : List KRec} (h : run elementRu l = some l1) (h2 : run (.one 17) (pEnd l1) = none) : itemR l = none := by rw [itemR_doc, h]; simp only [h2]
theorem item_yes {l l1 l3 : List KRec} (h : run elementRu l = some l1) (h2 : run (.one 17) (pEnd l1) = some l3) : itemR l = some ((cutL l l1, cutL l1 (pEnd l1)), l3) := by rw [itemR_doc, h]; simp only [h2]
theorem items_fail {f : Nat} {m : List KRec} (h : tkR 7 m = some none) (h2 : itemR m = none) : itemsR (f + 1) m = none := items_bad h h2
theorem tk7 {m t : List KRec} {r : KRec} (h : m = r :: t) (h7 : r.1 ≠ 7) : tkR 7 m = some none := by subst h; exact tk_first fun r' t' e => by cases e; exact h7
theorem pEnd_pos {l m p : List KRec} (h : run (rowRu [43, 44]) l = some m) (hp : l = p ++ m) : 0 < p.length := by
  have := (pEnd_some h).2
  rw [hp, List.length_append] at this; omega
set_option maxHeartbeats 64000000 in
theorem RTree_some (w : World) (a : Addr) (n cap : Nat) (rs : List KRec) (hn : rs.length = n) (hl : RcSl w (some a) rs) (hs : Small rs) (hb : BigR rs) (hcap : n ≤ cap) (hcm : cap ≤ 9223372036854775807) :
    Calls Try.prog 32 #[.slice (some a) n cap] w (RetTree w (treeD rs)) := by
  obtain ⟨i1, hi, hz0, hz1, hz2⟩ := info_partsI
  obtain ⟨i2, hi2, hy0, hy1, hy2⟩ := info_partsC
  have hnb : n ≤ 4398046511104 := by rw [← hn]; exact hb.1
  have HNO : Hid (∀ W, treeD rs = none → w.grownBy W none → RetTree w (treeD rs) (.returned (.tuple #[.agg #[.slice none 0 0, .slice none 0 0], .bool false])) W) := Lib.hid fun W h hg => Or.inl ⟨h, rfl, hg⟩
  have HYES : Hid (∀ W a b t, treeD rs = some t → LibT W (.agg #[a, b]) t → w.grownBy W none → RetTree w (treeD rs) (.returned (.tuple #[.agg #[a, b], .bool true])) W) := Lib.hid fun W a b t h hl hg => Or.inr ⟨t, a, b, h, rfl, hl, hg⟩
  obtain ⟨P, hP⟩ : ∃ P, RetTree w (treeD rs) = P := ⟨_, rfl⟩
  rw [hP] at HNO HYES ⊢
  have HL := Lib.hid hl
  have HN := Lib.hid hn
  have HSM := Lib.hid hs
  have HBG := Lib.hid hb
  clear hl hn hs hb hP
  have g1 := World.grownBy_alloc w (.cells #[.slice none 0 0, .slice none 0 0] 27) none
  have b1 := heap_new w (.cells #[.slice none 0 0, .slice none 0 0] 27) w.heap.size rfl
  have g2 := World.grownBy_alloc (w.alloc (.cells #[.slice none 0 0, .slice none 0 0] 27)) (.cells #[.slice none 0 0, .slice none 0 0] 27) none
  have b2 := heap_new (w.alloc (.cells #[.slice none 0 0, .slice none 0 0] 27)) (.cells #[.slice none 0 0, .slice none 0 0] 27) (w.heap.size + 1) (by simp)
  have HTS := Lib.hid (show TS w ((w.alloc (.cells #[.slice none 0 0, .slice none 0 0] 27)).alloc (.cells #[.slice none 0 0, .slice none 0 0] 27)) (.slice none 0 0) (.slice none 0 0) [] [] from ⟨grown_trans g1 g2, heap_kept g2 b1, b2, Or.inl ⟨rfl, rfl⟩, OwnP.nil _ _⟩)
  have hszb : ((w.alloc (.cells #[.slice none 0 0, .slice none 0 0] 27)).alloc (.cells #[.slice none 0 0, .slice none 0 0] 27)).heap.size = w.heap.size + 1 + 1 := by simp
  clear g1 b1 g2 b2

  have i0 : InS (((w.alloc (.cells #[.slice none 0 0, .slice none 0 0] 27)).alloc (.cells #[.slice none 0 0, .slice none 0 0] 27)).alloc (.cells #[.int .i64 0, .int .i64 1, .int .i64 1057, .int .i64 1058, .int .i64 1059, .int .i64 2, .int .i64 1031, .int .i64 1032, .int .i64 1035, .int .i64 1034, .int .i64 1054] 3)) (some ⟨((w.alloc (.cells #[.slice none 0 0, .slice none 0 0] 27)).alloc (.cells #[.slice none 0 0, .slice none 0 0] 27)).heap.size, 0, none⟩) [0, 1, 1057, 1058, 1059, 2, 1031, 1032, 1035, 1034, 1054] := ins_lit ((w.alloc (.cells #[.slice none 0 0, .slice none 0 0] 27)).alloc (.cells #[.slice none 0 0, .slice none 0 0] 27)) [0, 1, 1057, 1058, 1059, 2, 1031, 1032, 1035, 1034, 1054]
  rw [hszb] at i0
  clear hszb
  have I0 := Lib.hid i0
  have G0 := Lib.hid (World.grownBy_alloc ((w.alloc (.cells #[.slice none 0 0, .slice none 0 0] 27)).alloc (.cells #[.slice none 0 0, .slice none 0 0] 27)) (.cells #[.int .i64 0, .int .i64 1, .int .i64 1057, .int .i64 1058, .int .i64 1059, .int .i64 2, .int .i64 1031, .int .i64 1032, .int .i64 1035, .int .i64 1034, .int .i64 1054] 3) none)
  clear i0
  go_enter Try.func32, Try.ntmps32
  go_wp2_with fail

  refine (RFit_any _ (some a) _ n cap 0 11 11 rs [0, 1, 1057, 1058, 1059, 2, 1031, 1032, 1035, 1034, 1054] HN.out (HL.out.kept (grown_trans HTS.out.1 G0.out)) HSM.out (by omega) hnb I0.out rfl (by decide) (by decide)).mono ?_
  rintro e w1 ⟨rfl, hg1⟩
  have HT1 := Lib.hid (HTS.out.kept (grown_trans G0.out hg1))
  clear hg1 HTS I0 G0
  rw [List.drop_zero]
  rcases fit_cases [0, 1, 1057, 1058, 1059, 2, 1031, 1032, 1035, 1034, 1054] rs with ⟨hT, hz⟩ | ⟨m0, p0, hT, hp, hz⟩
  · rw [hz]
    have HX := Lib.hid (tree_head (head_none hT))
    clear hT hz
    have hput := HT1.out.put (.slice none 0 0) (.slice none 0 0)
    have hF : Hid (P (.returned (.tuple #[.agg #[.slice none 0 0, .slice none 0 0], .bool false])) ((w1.setCell ⟨w.heap.size, 0, none⟩ (.slice none 0 0)).setCell ⟨w.heap.size, 1, none⟩ (.slice none 0 0))) := Lib.hid (HNO.out _ (HX.out) hput.1)
    obtain ⟨D0, D1, _, _⟩ := box_cells2 hput.2
    obtain ⟨_, _, Fr0, Fr1⟩ := box_cells2 HT1.out.2.1
    obtain ⟨Ct0, Ct1, _, _⟩ := box_cells2 HT1.out.2.2.1
    clear hput
    go_wp2_with fail
    exact bodyPost_ret (v := .tuple #[.agg #[.slice none 0 0, .slice none 0 0], .bool false]) (by simp [results, Try.results32, go_sem, D0, D1]) rfl hF.out
  · rw [hz]
    obtain ⟨k, hk⟩ : ∃ k, p0.length = k := ⟨_, rfl⟩
    obtain ⟨hd1, _, hd3⟩ := drop_more (k := 0) hp
    rw [hk, Nat.zero_add] at hd1
    have hkn : k + m0.length = n := by rw [← HN.out, hp, List.length_append, hk]
    obtain ⟨_, e9, h9, _, hge⟩ := row_kinds (headRow ++ [1054]) hT
    have hp3 : 3 ≤ k := by
      have e0 : p0 = _ := List.append_cancel_right (hp.symm.trans e9)
      rw [← hk, e0]; exact hge
    have hp0 : p0 ≠ [] := fun h => by rw [h] at hk; simp at hk; omega
    have hlast : lastBy rs m0 = (rs.getD (k - 1) (0, 0, [])).1 := by
      unfold lastBy; rw [HN.out, show n - m0.length - 1 = k - 1 from by omega]
    have HH := Lib.hid (head_some hT)
    have HD := Lib.hid hd1
    obtain ⟨j, rfl⟩ : ∃ j, k = j + 1 := ⟨k - 1, by omega⟩
    obtain ⟨_, q, sb, cb, kd, dt, bd, e8, hq, hr, A0, _⟩ := HL.out.at j (by rw [HN.out]; omega)
    cases e8
    have HLK : Hid (lastBy rs m0 = kd) := Lib.hid (by
      rw [hlast, Nat.add_sub_cancel, List.getD_eq_getElem?_getD, List.getElem?_eq_getElem (by rw [HN.out]; omega)]; rw [Option.getD_some, hr])
    have hkb : kd < 256 := by have := (HSM.out _ (List.getElem_mem (show j < rs.length by rw [HN.out]; omega))).1; rw [hr] at this; exact this
    replace A0 := HT1.out.1.cell A0 (by simp)
    rw [hk]
    have hjn : j + 1 ≤ n := by omega
    clear hp hz hd1 hd3 hkn e9 h9 hge hp0 hlast hr hp3 hk
    go_upto_if 30 with fail
    go_cut [6, 7, 8, 9] from 30 to 57 (fun x y z u wx => ∃ k : Nat, x = .int .i64 (k : Int) ∧ k ≤ n ∧ Hid (headD rs = run (.one 3) (rs.drop k)) ∧ Hid (w1.grownBy wx none))
    case first =>
      by_cases h54 : kd = 54
      · have t1 : ((kd : Int) == 54) = true := beq_iff_eq.2 (by omega)
        have HH5 : Hid (headD rs = maskD (rs.drop (j + 1))) := Lib.hid (by rw [HH.out, HLK.out, if_pos h54, HD.out])
        clear h54 HH HLK
        have iA : InS (w1.alloc (.cells #[.int .i64 55] 3)) (some ⟨w1.heap.size, 0, none⟩) [55] := ins_lit w1 [55]
        have IA := Lib.hid iA
        have GA := Lib.hid (World.grownBy_alloc w1 (.cells #[.int .i64 55] 3) none)
        clear iA
        go_wp2_with fail
        refine (RFit_any _ (some a) _ n cap (j + 1) 1 1 rs [55] HN.out (HL.out.kept (grown_trans HT1.out.1 GA.out)) HSM.out (by omega) hnb IA.out rfl (by decide) (by decide)).mono ?_
        rintro e w2 ⟨rfl, hgA⟩
        have HGA := Lib.hid (grown_trans GA.out hgA)
        clear hgA
        obtain ⟨Z, hZ⟩ : ∃ Z, fitD [55] (rs.drop (j + 1)) = Z := ⟨_, rfl⟩
        rw [hZ]
        have HZ0 := Lib.hid hZ.symm
        clear hZ
        go_wp2_with fail
        go_loopg [6, 7, 8] (n - (j + 1)) (fun gh x y z wr => ∃ (k c : Nat) (Z : Int), x = .int .i64 (k : Int) ∧ y = .int .i64 (c : Int) ∧ z = .int .i64 Z ∧ j + 1 ≤ k ∧ k ≤ n ∧ Hid (c = k - (j + 1)) ∧ n - k ≤ gh ∧ Hid (Z = fitD [55] (rs.drop k)) ∧ Hid (mEnd (rs.drop (j + 1)) = mEnd (rs.drop k)) ∧ Hid (w1.grownBy wr none))
        case atStart => exact ⟨j + 1, 0, Z, by go_num, rfl, rfl, Nat.le_refl _, hjn, Lib.hid (by omega), Nat.le_refl _, HZ0, Lib.hid rfl, HGA⟩
        case round =>
          obtain ⟨k, c, Z, rfl, rfl, rfl, hjk, hkn, HCK, hgh, HZ, HM, HW⟩ := hrel
          have HTW := Lib.hid (HT1.out.kept HW.out)
          rcases fit_one 55 (by decide) (rs.drop k) with ⟨hT, hz⟩ | ⟨r, m1, hT, hp, _, _, hz⟩
          · obtain rfl : Z = -1 := HZ.out.trans hz
            have HM2 := Lib.hid (HM.out.trans (mEnd_none hT))
            clear hT hz HZ
            by_cases hc0 : k = j + 1
            · have q0 : c = 0 := by have := HCK.out; omega
              subst q0
              subst hc0
              have HH6 : Hid (headD rs = run (.one 3) (rs.drop (j + 1))) := Lib.hid (by rw [HH5.out, mask_zero HM2.out])
              clear HH5 HM HCK hgh
              go_wp2_with fail
              go_meet
              case rel => exact ⟨j + 1, by go_num, hjn, HH6, HW⟩
            · obtain ⟨d, rfl⟩ : ∃ d, c = d + 1 := ⟨c - 1, by have := HCK.out; omega⟩
              have HH6 : Hid (headD rs = (run (.one 56) (rs.drop k)).bind (run (.one 3))) := Lib.hid (by
                rw [HH5.out, mask_some HM2.out (by rw [List.length_drop, List.length_drop, HN.out]; omega)])
              have t2 : decide (((d : Int) + 1) > 0) = true := decide_eq_true (by omega)
              have t3 : decide (0 < ((d : Int) + 1)) = true := decide_eq_true (by omega)
              have hdn : (d : Int) ≤ 4398046511104 := by have := HCK.out; omega
              clear HH5 HM HCK hgh hc0
              have iB : InS (wr.alloc (.cells #[.int .i64 56] 3)) (some ⟨wr.heap.size, 0, none⟩) [56] := ins_lit wr [56]
              have IB := Lib.hid iB
              have GB := Lib.hid (World.grownBy_alloc wr (.cells #[.int .i64 56] 3) none)
              clear iB
              go_wp2_with fail
              refine (RFit_any _ (some a) _ n cap k 1 1 rs [56] HN.out (HL.out.kept (grown_trans HTW.out.1 GB.out)) HSM.out (by omega) hnb IB.out rfl (by decide) (by decide)).mono ?_
              rintro e w3 ⟨rfl, hgB⟩
              have HGB := Lib.hid (grown_trans GB.out hgB)
              clear hgB
              rcases fit_one 56 (by decide) (rs.drop k) with ⟨hT, hz⟩ | ⟨r, m1, hT, hp, _, _, hz⟩
              · rw [hz]
                have HX := Lib.hid (tree_head (HH6.out.trans (by rw [hT]; rfl)))
                have HT3 := Lib.hid (HTW.out.kept HGB.out)
                clear hT hz
                have hput := HT3.out.put (.slice none 0 0) (.slice none 0 0)
                have hF : Hid (P (.returned (.tuple #[.agg #[.slice none 0 0, .slice none 0 0], .bool false])) ((w3.setCell ⟨w.heap.size, 0, none⟩ (.slice none 0 0)).setCell ⟨w.heap.size, 1, none⟩ (.slice none 0 0))) := Lib.hid (HNO.out _ (HX.out) hput.1)
                obtain ⟨D0, D1, _, _⟩ := box_cells2 hput.2
                obtain ⟨_, _, Fr0, Fr1⟩ := box_cells2 HT3.out.2.1
                obtain ⟨Ct0, Ct1, _, _⟩ := box_cells2 HT3.out.2.2.1
                clear hput
                go_wp2_with fail
                exact bodyPost_ret (v := .tuple #[.agg #[.slice none 0 0, .slice none 0 0], .bool false]) (by simp [results, Try.results32, go_sem, D0, D1]) rfl hF.out
              · rw [hz]
                obtain ⟨hd1, hd2⟩ := drop_one hp
                have HH7 : Hid (headD rs = run (.one 3) (rs.drop (k + 1))) := Lib.hid (by rw [HH6.out, hT, hd1]; rfl)
                have hkn1 : k + 1 ≤ n := by have := HN.out; omega
                clear hT hz hp hd1 hd2
                go_wp2_with fail
                go_meet
                case rel => exact ⟨k + 1, by go_num, hkn1, HH7, Lib.hid (grown_trans HW.out HGB.out)⟩
          · obtain rfl : Z = 1 := HZ.out.trans hz
            obtain ⟨hd1, hd2⟩ := drop_one hp
            have HM2 : Hid (mEnd (rs.drop (j + 1)) = mEnd (rs.drop (k + 1))) := Lib.hid (by rw [HM.out, mask_more k hT, hd1])
            have hkn1 : k + 1 ≤ n := by have := HN.out; omega
            have hcn : (c : Int) ≤ 4398046511104 := by have := HCK.out; omega
            clear hT hz hp hd1 hd2 HZ
            have iC : InS (wr.alloc (.cells #[.int .i64 55] 3)) (some ⟨wr.heap.size, 0, none⟩) [55] := ins_lit wr [55]
            have IC := Lib.hid iC
            have GC := Lib.hid (World.grownBy_alloc wr (.cells #[.int .i64 55] 3) none)
            clear iC
            go_wp2_with fail
            refine (RFit_any _ (some a) _ n cap (k + 1) 1 1 rs [55] HN.out (HL.out.kept (grown_trans HTW.out.1 GC.out)) HSM.out (by omega) hnb IC.out rfl (by decide) (by decide)).mono ?_
            rintro e w3 ⟨rfl, hgC⟩
            have HGC := Lib.hid (grown_trans GC.out hgC)
            clear hgC
            obtain ⟨Z, hZ⟩ : ∃ Z, fitD [55] (rs.drop (k + 1)) = Z := ⟨_, rfl⟩
            rw [hZ]
            have HZ1 := Lib.hid hZ.symm
            clear hZ
            go_wp2_with fail
            go_roundg (n - (k + 1))
            case measure => omega
            case rel => exact ⟨k + 1, c + 1, Z, by go_num, by go_num, rfl, by omega, hkn1, Lib.hid (by have := HCK.out; omega), Nat.le_refl _, HZ1, HM2, Lib.hid (grown_trans HW.out HGC.out)⟩
      · have t1 : ((kd : Int) == 54) = false := beq_eq_false_iff_ne.2 (by omega)
        have HH5 : Hid (headD rs = run (.one 3) (rs.drop (j + 1))) := Lib.hid (by rw [HH.out, HLK.out, if_neg h54, HD.out])
        go_wp2_with fail
        go_meet
        case rel => exact ⟨j + 1, by go_num, hjn, HH5, Lib.hid (grown_refl _ _)⟩
    case rest =>
      obtain ⟨k, rfl, hkn, HH3, HWX⟩ := hcut
      have HTC := Lib.hid (HT1.out.kept HWX.out)
      clear hjn A0 HH HD HLK HT1 HWX
      have iE : InS (wc.alloc (.cells #[.int .i64 3] 3)) (some ⟨wc.heap.size, 0, none⟩) [3] := ins_lit wc [3]
      have IE := Lib.hid iE
      have GE := Lib.hid (World.grownBy_alloc wc (.cells #[.int .i64 3] 3) none)
      clear iE
      go_wp2_with fail
      refine (RFit_any _ (some a) _ n cap k 1 1 rs [3] HN.out (HL.out.kept (grown_trans HTC.out.1 GE.out)) HSM.out (by omega) hnb IE.out rfl (by decide) (by decide)).mono ?_
      rintro e w2 ⟨rfl, hgE⟩
      have HGE := Lib.hid (grown_trans GE.out hgE)
      clear hgE
      have HT2 := Lib.hid (HTC.out.kept HGE.out)
      rcases fit_one 3 (by decide) (rs.drop k) with ⟨hT, hz⟩ | ⟨r, m1, hT, hp, _, _, hz⟩
      · rw [hz]
        have HX := Lib.hid (tree_head (HH3.out.trans hT))
        clear hT hz
        have hput := HT2.out.put (.slice none 0 0) (.slice none 0 0)
        have hF : Hid (P (.returned (.tuple #[.agg #[.slice none 0 0, .slice none 0 0], .bool false])) ((w2.setCell ⟨w.heap.size, 0, none⟩ (.slice none 0 0)).setCell ⟨w.heap.size, 1, none⟩ (.slice none 0 0))) := Lib.hid (HNO.out _ (HX.out) hput.1)
        obtain ⟨D0, D1, _, _⟩ := box_cells2 hput.2
        obtain ⟨_, _, Fr0, Fr1⟩ := box_cells2 HT2.out.2.1
        obtain ⟨Ct0, Ct1, _, _⟩ := box_cells2 HT2.out.2.2.1
        clear hput
        go_wp2_with fail
        exact bodyPost_ret (v := .tuple #[.agg #[.slice none 0 0, .slice none 0 0], .bool false]) (by simp [results, Try.results32, go_sem, D0, D1]) rfl hF.out
      · rw [hz]
        obtain ⟨hd1, hd2⟩ := drop_one hp
        have HH4 := Lib.hid (tree_lib ((HH3.out.trans hT).trans (congrArg some hd1.symm)))
        obtain ⟨K, hK⟩ : ∃ K, k + 1 = K := ⟨_, rfl⟩
        have hKi : (k : Int) + 1 = (K : Int) := by omega
        have hKn : K ≤ n := by have := HN.out; omega
        rw [hK] at HH4
        replace HH4 : Hid (libR rs = endL (rs.take K) (cellsR (rs.length + 1) (rs.length + 1) (rs.drop K))) := Lib.hid (by rw [HH4.out, cutL_drop _ _ (by rw [HN.out]; exact hKn)])
        obtain ⟨F, hF⟩ : ∃ F, rs.length + 1 = F := ⟨_, rfl⟩
        rw [hF] at HH4
        have HFF := Lib.hid hF
        have hnF : n < F := by have := HN.out; omega
        obtain ⟨y, hy⟩ : ∃ y, cellsR F F (rs.drop K) = y := ⟨_, rfl⟩
        rw [hy] at HH4
        have HY0 : Hid (catI [] (cellsR F F (rs.drop K)) = y) := Lib.hid (by rw [catI_nil]; exact hy)
        have hlK : (rs.take K).length = K := by rw [List.length_take, HN.out]; omega
        have HLK := Lib.hid hlK
        have HRK := Lib.hid ((HL.out.take K).kept HT2.out.1)
        have HSK : Hid (∀ r ∈ rs.take K, r.1 < 256 ∧ r.2.1 < 256) := Lib.hid fun r hr => HSM.out r (List.mem_of_mem_take hr)
        have HBK : Hid (BigR (rs.take K)) := Lib.hid ⟨by rw [hlK]; omega, fun r hr => HBG.out.2 r (List.mem_of_mem_take hr)⟩
        have hKc : (K : Int) ≤ (cap : Int) := by omega
        have hK0 : (0 : Int) ≤ (K : Int) := by omega
        clear hT hz hp hd1 hd2 hK hF hy hlK HTC HH3 HGE
        go_wp2_with fail
        refine (RCopied_any _ (some a) K cap (rs.take K) HLK.out HRK.out HSK.out HBK.out).mono ?_
        rintro e w3 ⟨v, rfl, ho, hg3⟩
        rw [HLK.out] at ho
        have HT3 := Lib.hid (HT2.out.kept hg3)
        obtain ⟨sv, cv, rfl⟩ := ho.shape
        obtain ⟨_, _, Ft0, Ft1⟩ := box_cells2 HT3.out.2.2.1
        have HT4 := Lib.hid (HT3.out.head (u := .slice sv K cv) (hd := rs.take K) ho.rowT)
        clear ho hg3 HRK HSK HBK hKc hK0
        go_wp2_with fail
        generalize hw4 : w3.setCell ⟨w.heap.size + 1, 0, none⟩ (.slice sv K cv) = w4 at *
        clear hw4 HT3 Ft0 Ft1 HT2
        go_loopg [6] (n - K) (fun gh x wr => ∃ (k f : Nat) (xs : List KCell) (b : Value), x = .int .i64 (k : Int) ∧ k ≤ n ∧ n - k ≤ gh ∧ n - k < f ∧ 3 * xs.length ≤ k ∧ Hid (catI xs (cellsR F f (rs.drop k)) = y) ∧ Hid (TS w wr (.slice sv K cv) b (rs.take K) xs))
        case atStart => exact ⟨K, F, [], _, by go_num, hKn, Nat.le_refl _, by omega, Nat.zero_le _, HY0, HT4⟩
        case round =>
          clear HY0 HT4
          obtain ⟨k, f, xs, b, rfl, hkn, hgh, hkf, hxk, HY, HTS⟩ := hrel
          obtain ⟨f, rfl⟩ : ∃ g, f = g + 1 := ⟨f - 1, by omega⟩
          obtain ⟨sb0, cb0, rfl⟩ := OwnP.shape HTS.out.2.2.2.2
          obtain ⟨bt, hbt⟩ : ∃ o, sees 5 (rs.drop k) = o := ⟨_, rfl⟩
          have HSE := Lib.hid hbt
          cases bt with
          | false =>
            have HLB : Hid (libR rs = endL (rs.take K) (some (xs, rs.drop k))) := Lib.hid (by
              rw [HH4.out, ← HY.out, cells_stop HSE.out]; simp [catI])
            clear HY hgh hkf hbt
            have hgo : (k = n) ∨ ∃ (q : Addr) (kd : Nat), k < n ∧ a.add (k * 3) = q ∧ kd < 256 ∧ kd ≠ 5 ∧ wr.cell? q = some (.int .u8 (kd : Int)) := by
              rcases Nat.lt_or_ge k n with h | h
              · right
                have hk' : k < rs.length := by rw [HN.out]; exact h
                obtain ⟨_, q, sb, cb, kd, dt, bd, e8, hq, hr, A0, _⟩ := HL.out.at k hk'
                cases e8
                have hs := HSE.out
                rw [sees_at hk' hr] at hs
                exact ⟨q, kd, h, hq, by have := (HSM.out _ (List.getElem_mem hk')).1; rw [hr] at this; exact this, of_decide_eq_false hs, HTS.out.1.cell A0 (by simp)⟩
              · left; omega
            have iS : InS (wr.alloc (.cells #[.int .i64 4] 3)) (some ⟨wr.heap.size, 0, none⟩) [4] := ins_lit wr [4]
            have IS := Lib.hid iS
            have GS := Lib.hid (World.grownBy_alloc wr (.cells #[.int .i64 4] 3) none)
            clear iS
            rcases hgo with rfl | ⟨q, kd, hk, hq, hkb, hk5, A0⟩
            · have f1 : decide ((k : Int) < (k : Int)) = false := decide_eq_false (by omega)
              go_wp2_with fail
              refine (RFit_any _ (some a) _ k cap k 1 1 rs [4] HN.out (HL.out.kept (grown_trans HTS.out.1 GS.out)) HSM.out (by omega) hnb IS.out rfl (by decide) (by decide)).mono ?_
              rintro e w5 ⟨rfl, hg5⟩
              have HT5 := Lib.hid (HTS.out.kept (grown_trans GS.out hg5))
              clear hg5
              rcases fit_one 4 (by decide) (rs.drop k) with ⟨hT, hz⟩ | ⟨r, m1, hT, hp, _, _, hz⟩
              · rw [hz]
                have HX := Lib.hid (show treeD rs = none by rw [tree_end HLB.out, end_bad hT])
                clear hT hz
                have hput := HT5.out.put (.slice none 0 0) (.slice none 0 0)
                have hF : Hid (P (.returned (.tuple #[.agg #[.slice none 0 0, .slice none 0 0], .bool false])) ((w5.setCell ⟨w.heap.size, 0, none⟩ (.slice none 0 0)).setCell ⟨w.heap.size, 1, none⟩ (.slice none 0 0))) := Lib.hid (HNO.out _ (HX.out) hput.1)
                obtain ⟨D0, D1, _, _⟩ := box_cells2 hput.2
                obtain ⟨_, _, Fr0, Fr1⟩ := box_cells2 HT5.out.2.1
                obtain ⟨Ct0, Ct1, _, _⟩ := box_cells2 HT5.out.2.2.1
                clear hput
                go_wp2_with fail
                exact bodyPost_ret (v := .tuple #[.agg #[.slice none 0 0, .slice none 0 0], .bool false]) (by simp [results, Try.results32, go_sem, D0, D1]) rfl hF.out
              · rw [hz]
                exfalso
                have := (drop_one hp).2
                have := HN.out
                omega
            · have f1 : decide ((k : Int) < (n : Int)) = true := decide_eq_true (by omega)
              have t1 : ((kd : Int) == 5) = false := beq_eq_false_iff_ne.2 (by omega)
              go_wp2_with fail
              refine (RFit_any _ (some a) _ n cap k 1 1 rs [4] HN.out (HL.out.kept (grown_trans HTS.out.1 GS.out)) HSM.out (by omega) hnb IS.out rfl (by decide) (by decide)).mono ?_
              rintro e w5 ⟨rfl, hg5⟩
              have HT5 := Lib.hid (HTS.out.kept (grown_trans GS.out hg5))
              clear hg5
              rcases fit_one 4 (by decide) (rs.drop k) with ⟨hT, hz⟩ | ⟨r, m1, hT, hp, _, _, hz⟩
              · rw [hz]
                have HX := Lib.hid (show treeD rs = none by rw [tree_end HLB.out, end_bad hT])
                clear hT hz
                have hput := HT5.out.put (.slice none 0 0) (.slice none 0 0)
                have hF : Hid (P (.returned (.tuple #[.agg #[.slice none 0 0, .slice none 0 0], .bool false])) ((w5.setCell ⟨w.heap.size, 0, none⟩ (.slice none 0 0)).setCell ⟨w.heap.size, 1, none⟩ (.slice none 0 0))) := Lib.hid (HNO.out _ (HX.out) hput.1)
                obtain ⟨D0, D1, _, _⟩ := box_cells2 hput.2
                obtain ⟨_, _, Fr0, Fr1⟩ := box_cells2 HT5.out.2.1
                obtain ⟨Ct0, Ct1, _, _⟩ := box_cells2 HT5.out.2.2.1
                clear hput
                go_wp2_with fail
                exact bodyPost_ret (v := .tuple #[.agg #[.slice none 0 0, .slice none 0 0], .bool false]) (by simp [results, Try.results32, go_sem, D0, D1]) rfl hF.out
              · rw [hz]
                obtain ⟨hd1, hd2⟩ := drop_one hp
                by_cases hend : k + 1 = n
                · have hm1 : m1 = [] := List.length_eq_zero_iff.1 (by have := HN.out; omega)
                  have HX := Lib.hid (show treeD rs = some (rs.take K, xs) by rw [tree_end HLB.out, end_ok hT, hm1])
                  have HSR : Hid (Small (recT (rs.take K, xs))) := Lib.hid (by
                    have hl : libR rs = some ((rs.take K, xs), []) := by rw [HLB.out, end_ok hT, hm1]
                    obtain ⟨_, e⟩ := libR_is hl
                    rw [List.append_nil] at e
                    rw [← e]; exact HSM.out)
                  have hq1 : (k : Int) + 1 = (n : Int) := by omega
                  clear hT hz hp hd1 hd2 hm1
                  obtain ⟨_, _, Fr0, Fr1⟩ := box_cells2 HT5.out.2.1
                  obtain ⟨Ct0, Ct1, _, _⟩ := box_cells2 HT5.out.2.2.1
                  have hput := HT5.out.put (.slice sv K cv) (.slice sb0 xs.length cb0)
                  have hF := Lib.hid (HYES.out _ _ _ _ HX.out (HT5.out.done HSR.out) hput.1)
                  obtain ⟨D0, D1, _, _⟩ := box_cells2 hput.2
                  clear hput
                  go_wp2_with fail
                  exact bodyPost_ret (v := .tuple #[.agg #[.slice sv K cv, .slice sb0 xs.length cb0], .bool true]) (by simp [results, Try.results32, go_sem, D0, D1]) rfl hF.out
                · have hm1 : m1 ≠ [] := fun h => by rw [h] at hd2; have := HN.out; simp at hd2; omega
                  have HX := Lib.hid (show treeD rs = none by
                    rw [tree_end HLB.out, end_ok hT]
                    cases m1 with
                    | nil => exact absurd rfl hm1
                    | cons r t => rfl)
                  have hq1 : ((k : Int) + 1 != (n : Int)) = true := bne_iff_ne.2 (by omega)
                  have hqn : k + 1 ≤ n := by have := HN.out; omega
                  clear hT hz hp hd1 hd2 hm1
                  have hput := HT5.out.put (.slice none 0 0) (.slice none 0 0)
                  have hF : Hid (P (.returned (.tuple #[.agg #[.slice none 0 0, .slice none 0 0], .bool false])) ((w5.setCell ⟨w.heap.size, 0, none⟩ (.slice none 0 0)).setCell ⟨w.heap.size, 1, none⟩ (.slice none 0 0))) := Lib.hid (HNO.out _ (HX.out) hput.1)
                  obtain ⟨D0, D1, _, _⟩ := box_cells2 hput.2
                  obtain ⟨_, _, Fr0, Fr1⟩ := box_cells2 HT5.out.2.1
                  obtain ⟨Ct0, Ct1, _, _⟩ := box_cells2 HT5.out.2.2.1
                  clear hput
                  go_wp2_with fail
                  exact bodyPost_ret (v := .tuple #[.agg #[.slice none 0 0, .slice none 0 0], .bool false]) (by simp [results, Try.results32, go_sem, D0, D1]) rfl hF.out
          | true =>
            have hkn1 : k < n := by
              rcases Nat.lt_or_ge k n with h | h
              · exact h
              · have := HSE.out; rw [sees_no (by rw [HN.out]; exact h)] at this; cases this
            have hk' : k < rs.length := by rw [HN.out]; exact hkn1
            obtain ⟨_, q, sb, cb, kd, dt, bd, e8, hq, hr, A0, _⟩ := HL.out.at k hk'
            cases e8
            have hk5 : kd = 5 := by have hs := HSE.out; rw [sees_at hk' hr] at hs; exact of_decide_eq_true hs
            subst hk5
            replace A0 := HTS.out.1.cell A0 (by simp)
            have f1 : decide ((k : Int) < (n : Int)) = true := decide_eq_true (by omega)
            clear hbt hr hk' 
            have iS : InS (wr.alloc (.cells #[.int .i64 5, .int .i64 6, .int .i64 1052] 3)) (some ⟨wr.heap.size, 0, none⟩) [5, 6, 1052] := ins_lit wr [5, 6, 1052]
            have IS := Lib.hid iS
            have GS := Lib.hid (World.grownBy_alloc wr (.cells #[.int .i64 5, .int .i64 6, .int .i64 1052] 3) none)
            clear iS
            go_wp2_with fail
            refine (RFit_any _ (some a) _ n cap k 3 3 rs [5, 6, 1052] HN.out (HL.out.kept (grown_trans HTS.out.1 GS.out)) HSM.out (by omega) hnb IS.out rfl (by decide) (by decide)).mono ?_
            rintro e w5 ⟨rfl, hgS⟩
            have HGS := Lib.hid (grown_trans GS.out hgS)
            clear hgS
            have HT5 := Lib.hid (HTS.out.kept HGS.out)
            clear A0
            rcases fit_cases [5, 6, 1052] (rs.drop k) with ⟨hT, hz⟩ | ⟨m1, p1, hT, hp, hz⟩
            · rw [hz]
              have HX := Lib.hid (show treeD rs = none by
                rw [tree_end HH4.out, ← HY.out, cells_bad HSE.out (cell_1 (by rw [title_row]; exact hT))]; rfl)
              clear hT hz
              have hput := HT5.out.put (.slice none 0 0) (.slice none 0 0)
              have hF : Hid (P (.returned (.tuple #[.agg #[.slice none 0 0, .slice none 0 0], .bool false])) ((w5.setCell ⟨w.heap.size, 0, none⟩ (.slice none 0 0)).setCell ⟨w.heap.size, 1, none⟩ (.slice none 0 0))) := Lib.hid (HNO.out _ (HX.out) hput.1)
              obtain ⟨D0, D1, _, _⟩ := box_cells2 hput.2
              obtain ⟨_, _, Fr0, Fr1⟩ := box_cells2 HT5.out.2.1
              obtain ⟨Ct0, Ct1, _, _⟩ := box_cells2 HT5.out.2.2.1
              clear hput
              go_wp2_with fail
              exact bodyPost_ret (v := .tuple #[.agg #[.slice none 0 0, .slice none 0 0], .bool false]) (by simp [results, Try.results32, go_sem, D0, D1]) rfl hF.out
            · obtain ⟨M, hM⟩ : ∃ M, p1.length = M := ⟨_, rfl⟩
              rw [hz, hM]
              obtain ⟨hd1, hd2, hd3⟩ := drop_more hp
              rw [hM] at hd1 hd2
              have hkM : k + M + m1.length = n := by
                have := congrArg List.length hp
                rw [List.length_drop, List.length_append, HN.out, hM] at this; omega
              obtain ⟨K2, hK2⟩ : ∃ K2, k + M = K2 := ⟨_, rfl⟩
              rw [hK2] at hd1 hkM
              have hM0 : 2 ≤ M := by
                obtain ⟨_, e9, _, _, hge⟩ := row_kinds [5, 6, 1052] hT
                have e0 : p1 = _ := List.append_cancel_right (hp.symm.trans e9)
                rw [← hM, e0]; exact hge
              have HCL := Lib.hid (cell_2 (F := F) (show run titleRu (rs.drop k) = some (rs.drop K2) by rw [title_row, hT, hd1]))
              have hcut : cutL (rs.drop k) (rs.drop K2) = p1 := by rw [hd1, hp, cutL_app]
              rw [hcut] at HCL
              obtain ⟨y2, hy2⟩ : ∃ y, itemsR F (rs.drop K2) = y := ⟨_, rfl⟩
              rw [hy2] at HCL
              have HY2 : Hid (catI [] (itemsR F (rs.drop K2)) = y2) := Lib.hid (by rw [catI_nil]; exact hy2)
              have HRP : Hid (RcSl w5 (some q) p1) := Lib.hid (by
                have h := (HL.out.cut (cap := cap) (k := k) (m := M) (by rw [HN.out]; omega) (by rw [HN.out]; exact hcap)).kept HT5.out.1
                rw [if_neg (by omega), hq, hd2] at h
                exact h)
              have hmem : ∀ r ∈ p1, r ∈ rs := fun r hr => List.mem_of_mem_drop (by rw [hp]; exact List.mem_append_left _ hr)
              have HSK : Hid (∀ r ∈ p1, r.1 < 256 ∧ r.2.1 < 256) := Lib.hid fun r hr => HSM.out r (hmem r hr)
              have HBK : Hid (BigR p1) := Lib.hid ⟨by omega, fun r hr => HBG.out.2 r (hmem r hr)⟩
              have HLM : Hid (p1.length = K2 - k) := Lib.hid (by omega)
              have HM := Lib.hid hM
              have hKi : (k : Int) + (M : Int) = (K2 : Int) := by omega
              have hK2n : K2 ≤ n := by omega
              have hkK : k + 2 ≤ K2 := by omega
              have q1 : (K2 : Int) ≤ (cap : Int) := by omega
              have q2 : (k : Int) ≤ (K2 : Int) := by omega
              have q3 : (0 : Int) ≤ (k : Int) := by omega
              clear hT hz hp hd1 hd2 hd3 hM hK2 hcut hy2 hmem HTS HGS hkM
              go_wp2_with fail
              refine (RCopied_any _ (some q) (K2 - k) (cap - k) p1 HLM.out HRP.out HSK.out HBK.out).mono ?_
              rintro e w6 ⟨v, rfl, ho, hg6⟩
              rw [HLM.out] at ho
              have HT6 := Lib.hid (HT5.out.kept hg6)
              obtain ⟨sh, ch, rfl⟩ := ho.shape
              have gA := World.grownBy_alloc w6 (.cells #[.slice sh (K2 - k) ch, .slice none 0 0] 50) none
              have HTC := Lib.hid (show TC w6 (w6.alloc (.cells #[.slice sh (K2 - k) ch, .slice none 0 0] 50)) w6.heap.size (.slice sh (K2 - k) ch) (.slice none 0 0) p1 [] from ⟨gA, heap_new w6 _ _ rfl, ho.rowT.kept gA, OwnP.nil _ _, Nat.le_refl _⟩)
              clear ho hg6 gA HRP HSK HBK HLM HT5 q1 q2 q3
              go_wp2_with fail
              generalize hqc : w6.heap.size = qc at *
              generalize hw7 : w6.alloc (.cells #[.slice sh (K2 - k) ch, .slice none 0 0] 50) = w7 at *
              clear hw7 hqc
              go_loopg [6] (n - K2) (fun gh x wr => ∃ (k2 f2 : Nat) (is : List KItem) (iv : Value), x = .int .i64 (k2 : Int) ∧ K2 ≤ k2 ∧ k2 ≤ n ∧ n - k2 ≤ gh ∧ n - k2 < f2 ∧ 2 * is.length ≤ k2 ∧ Hid (catI is (itemsR f2 (rs.drop k2)) = y2) ∧ Hid (TC w6 wr qc (.slice sh (K2 - k) ch) iv p1 is))
              case atStart => exact ⟨K2, F, [], _, by go_num, Nat.le_refl _, hK2n, Nat.le_refl _, by omega, Nat.zero_le _, HY2, HTC⟩
              case round =>
                clear HY2 HTC
                obtain ⟨k2, f2, is, iv, rfl, hKk, hk2n, hgh2, hkf2, hik, HY2, HTC⟩ := hrel
                obtain ⟨f2, rfl⟩ : ∃ g, f2 = g + 1 := ⟨f2 - 1, by omega⟩
                have hgw := grown_trans HT6.out.1 HTC.out.1
                have HGW := Lib.hid hgw
                clear hgw
                by_cases hin : k2 < n
                · skip
                  have hk' : k2 < rs.length := by rw [HN.out]; exact hin
                  obtain ⟨_, q2, sb, cb, kd, dt, bd, e8, hq2, hr, A0, _⟩ := HL.out.at k2 hk'
                  cases e8
                  have hkb : kd < 256 := by have := (HSM.out _ (List.getElem_mem hk')).1; rw [hr] at this; exact this
                  have HDR : Hid (rs.drop k2 = (kd, dt, bd) :: rs.drop (k2 + 1)) := Lib.hid (by rw [List.drop_eq_getElem_cons hk', hr])
                  replace A0 := HGW.out.cell A0 (by simp)
                  have f1 : decide ((k2 : Int) < (n : Int)) = true := decide_eq_true (by omega)
                  clear hr hk'
                  by_cases h7 : kd = 7
                  · subst h7
                    have H7 : Hid (rs.drop k2 = [] ∨ ∃ r t, rs.drop k2 = r :: t ∧ r.1 = 7) := Lib.hid (Or.inr ⟨_, _, HDR.out, rfl⟩)
                    have iV : InS (wr.alloc (.cells #[.int .i64 7] 3)) (some ⟨wr.heap.size, 0, none⟩) [7] := ins_lit wr [7]
                    have IV := Lib.hid iV
                    have GV := Lib.hid (World.grownBy_alloc wr (.cells #[.int .i64 7] 3) none)
                    clear iV
                    go_wp2_with fail
                    refine (RFit_any _ (some a) _ n cap k2 1 1 rs [7] HN.out (HL.out.kept (grown_trans HGW.out GV.out)) HSM.out (by omega) hnb IV.out rfl (by decide) (by decide)).mono ?_
                    rintro e w8 ⟨rfl, hg8⟩
                    have HC8 := Lib.hid (HTC.out.kept (grown_trans GV.out hg8))
                    have HT8 := Lib.hid (HT6.out.kept HC8.out.1)
                    clear hg8
                    rcases fit_one 7 (by decide) (rs.drop k2) with ⟨hT, hz⟩ | ⟨r, m1, hT, hp, _, _, hz⟩
                    · rw [hz]
                      have HX := Lib.hid (tree_no HH4.out HY.out HSE.out HCL.out (cat_none HY2.out (items_no H7.out hT)))
                      clear hT hz
                      have hput := HT8.out.put (.slice none 0 0) (.slice none 0 0)
                      have hF : Hid (P (.returned (.tuple #[.agg #[.slice none 0 0, .slice none 0 0], .bool false])) ((w8.setCell ⟨w.heap.size, 0, none⟩ (.slice none 0 0)).setCell ⟨w.heap.size, 1, none⟩ (.slice none 0 0))) := Lib.hid (HNO.out _ (HX.out) hput.1)
                      obtain ⟨D0, D1, _, _⟩ := box_cells2 hput.2
                      obtain ⟨_, _, Fr0, Fr1⟩ := box_cells2 HT8.out.2.1
                      obtain ⟨Ct0, Ct1, _, _⟩ := box_cells2 HT8.out.2.2.1
                      clear hput
                      go_wp2_with fail
                      exact bodyPost_ret (v := .tuple #[.agg #[.slice none 0 0, .slice none 0 0], .bool false]) (by simp [results, Try.results32, go_sem, D0, D1]) rfl hF.out
                    · rw [hz]
                      obtain ⟨hd1, hd2⟩ := drop_one hp
                      have hk3 : k2 + 1 ≤ n := by omega
                      have HY3 : Hid (catI (xs ++ [(p1, is)]) (cellsR F f (rs.drop (k2 + 1))) = y) := Lib.hid (by
                        rw [← cells_more xs HSE.out (show cellR F (rs.drop k) = some ((p1, is), rs.drop (k2 + 1)) from by rw [HCL.out, ← HY2.out, items_yes hT, hd1]; simp [catI])]
                        exact HY.out)
                      clear hT hz hp hd1 hd2
                      obtain ⟨siv, civ, rfl⟩ := OwnP.shape HC8.out.2.2.2.1
                      have gA := World.grownBy_alloc w8 (.cells #[.slice sh (K2 - k) ch, .slice siv is.length civ] 50) none
                      have HT9 := Lib.hid (HT8.out.kept gA)
                      have HRA := Lib.hid (RowT.any (w1 := w) (HC8.out.2.2.1.kept gA))
                      have HIA : Hid (ItemsT w (w8.alloc (.cells #[.slice sh (K2 - k) ch, .slice siv is.length civ] 50)) (.slice siv is.length civ) is) := Lib.hid (ItemsT.kept (OwnP.row HC8.out.2.2.2.1) gA)
                      obtain ⟨ys, hown, hone, hys⟩ := HT9.out.2.2.2.2
                      have HOWN := Lib.hid hown
                      have HONE := Lib.hid hone
                      have HYS := Lib.hid hys
                      have HM1 : Hid (xs.length + 1 ≤ maxLen) := Lib.hid (by unfold maxLen; omega)
                      have HM2 : Hid ((xs.length + 1) * 48 ≤ 140737488355328) := Lib.hid (by omega)
                      have HBS := Lib.hid HT9.out.1.size
                      obtain ⟨Ct0, Ct1, _, _⟩ := box_cells2 HT8.out.2.2.1
                      obtain ⟨Cc0, Cc1, _, _⟩ := box_cells2 HC8.out.2.1
                      clear hown hone hys gA
                      go_wp2_with (at_builtin; refine wpList_own_some rfl (.tmp 200) (.tmp 202) 25 rfl w.heap.size 50 i2 (.agg #[.slice none 0 0, .slice none 0 0]) 2 48 Try.underlying25 hi2 hy0 hy1 hy2 rfl (by decide) (.slice sb0 xs.length cb0) xs.length ys rfl HOWN.out ⟨w8.heap.size, 0, none⟩ 1 1 [.slice sh (K2 - k) ch, .slice siv is.length civ] rfl rfl (World.news_of_block (cs := #[.slice sh (K2 - k) ch, .slice siv is.length civ]) (heap_new w8 _ _ rfl)) (by simp [Value.oneCell']) HM1.out HM2.out HBS.out (Or.inr (by decide)) (xs.length + 1) rfl ?_)
                      intro g5 c5 w9 hown9 hgrow9 hgb9 hcb9 hmb9
                      obtain ⟨B9, HT10⟩ := cell_lay HT9.out HRA.out HIA.out rfl rfl HOWN.out HONE.out HYS.out hown9 hgrow9
                      obtain ⟨_, _, Fc0, Fc1⟩ := box_cells2 B9
                      clear hown9 hgrow9 hgb9 hcb9 hmb9 Ct0 Ct1 Cc0 Cc1 B9
                      go_wp2_with fail
                      go_roundg (n - (k2 + 1))
                      case measure => omega
                      case rel => exact ⟨k2 + 1, f, xs ++ [(p1, is)], _, by go_num, hk3, Nat.le_refl _, by omega, by rw [List.length_append]; simp; omega, HY3, by simpa using HT10⟩
                  · skip
                    have t1 : ((kd : Int) != 7) = true := bne_iff_ne.2 (by omega)
                    have HT7 : Hid (tkR 7 (rs.drop k2) = some none) := Lib.hid (tk7 HDR.out h7)
                    have HFK : Hid (∃ r t, rs.drop k2 = r :: t ∧ r.1 = kd) := Lib.hid ⟨_, _, HDR.out, rfl⟩
                    have hne := fun W s n c => Lib.run_eql_slice_nil (P := Try.prog) W 91 3 s n c 0 0 Try.underlying91
                    clear h7
                    go_wp2_with fail
                    refine (RRows_any wr kd hkb false).mono ?_
                    rintro e w8 (⟨hr0, rfl, hg8⟩ | ⟨hr0, hr1, hr2, g, cg, rfl, hins, hg8⟩)
                    · have HC8 := Lib.hid (HTC.out.kept hg8)
                      have HT8 := Lib.hid (HT6.out.kept HC8.out.1)
                      have HX := Lib.hid (tree_no HH4.out HY.out HSE.out HCL.out (cat_none HY2.out (items_fail HT7.out (item_no (elem_no HFK.out hr0)))))
                      clear hr0 hg8 A0
                      have hput := HT8.out.put (.slice none 0 0) (.slice none 0 0)
                      have hF : Hid (P (.returned (.tuple #[.agg #[.slice none 0 0, .slice none 0 0], .bool false])) ((w8.setCell ⟨w.heap.size, 0, none⟩ (.slice none 0 0)).setCell ⟨w.heap.size, 1, none⟩ (.slice none 0 0))) := Lib.hid (HNO.out _ (HX.out) hput.1)
                      obtain ⟨D0, D1, _, _⟩ := box_cells2 hput.2
                      obtain ⟨_, _, Fr0, Fr1⟩ := box_cells2 HT8.out.2.1
                      obtain ⟨Ct0, Ct1, _, _⟩ := box_cells2 HT8.out.2.2.1
                      clear hput
                      go_wp2_with (simp only [hne])
                      exact bodyPost_ret (v := .tuple #[.agg #[.slice none 0 0, .slice none 0 0], .bool false]) (by simp [results, Try.results32, go_sem, D0, D1]) rfl hF.out
                    · obtain ⟨R0, hR0⟩ : ∃ R, rowD kd false = R := ⟨_, rfl⟩
                      obtain ⟨L0, hL0⟩ : ∃ L, (rowD kd false).length = L := ⟨_, rfl⟩
                      rw [hL0] at hr1 ⊢
                      have HC8 := Lib.hid (HTC.out.kept hg8)
                      have HIN := Lib.hid hins
                      have HLR := Lib.hid hL0
                      have HR2 := Lib.hid hr2
                      have HR0 := Lib.hid hr0
                      replace A0 := hg8.cell A0 (by simp)
                      have HA0 := Lib.hid A0
                      clear hins hL0 hr2 hr0 hg8 hR0
                      go_wp2_with (simp only [hne])
                      refine (RFit_any _ (some a) _ n cap k2 L0 cg rs (rowD kd false) HN.out (HL.out.kept (grown_trans HT6.out.1 HC8.out.1)) HSM.out (by omega) hnb HIN.out HLR.out hr1 HR2.out).mono ?_
                      rintro e w9 ⟨rfl, hg9⟩
                      have HC9 := Lib.hid (HC8.out.kept hg9)
                      replace A0 := hg9.cell A0 (by simp)
                      obtain ⟨Z, hZ⟩ : ∃ Z, fitD (rowD kd false) (rs.drop k2) = Z := ⟨_, rfl⟩
                      rw [hZ]
                      have HZ := Lib.hid hZ
                      clear hg9 hZ
                      go_upto_if 129 with fail
                      go_cut [10] from 103 to 188 (fun z wx => ∃ Z' : Int, z = .int .i64 Z' ∧ Hid (fitE (rs.drop k2) = Z') ∧ Hid (w9.grownBy wx none))
                      case first =>
                        by_cases hneg : Z = -1
                        · subst hneg
                          go_wp2_with fail
                          refine (RRows_any w9 kd hkb true).mono ?_
                          rintro e w10 (⟨hq0, _⟩ | ⟨hq0, hq1, hq2, g', cg', rfl, hins', hg10⟩)
                          · exact absurd hq0 (rowD_ne HR0.out)
                          · obtain ⟨L1, hL1⟩ : ∃ L, (rowD kd true).length = L := ⟨_, rfl⟩
                            rw [hL1] at hq1 ⊢
                            have HIN' := Lib.hid hins'
                            have HLR' := Lib.hid hL1
                            have HQ2 := Lib.hid hq2
                            have HG10 := Lib.hid hg10
                            clear hins' hL1 hq2 hq0 hg10
                            go_wp2_with fail
                            refine (RFit_any _ (some a) _ n cap k2 L1 cg' rs (rowD kd true) HN.out (HL.out.kept (grown_trans HT6.out.1 (grown_trans HC9.out.1 HG10.out))) HSM.out (by omega) hnb HIN'.out HLR'.out hq1 HQ2.out).mono ?_
                            rintro e w11 ⟨rfl, hg11⟩
                            have HG11 := Lib.hid (grown_trans HG10.out hg11)
                            have HE : Hid (fitE (rs.drop k2) = fitD (rowD kd true) (rs.drop k2)) := Lib.hid (by rw [fitE_first HFK.out HR0.out, HZ.out, if_pos rfl])
                            clear hg11
                            go_wp2_with fail
                            go_meet
                            case rel => exact ⟨_, rfl, HE, HG11⟩
                        · have HE : Hid (fitE (rs.drop k2) = Z) := Lib.hid (by rw [fitE_first HFK.out HR0.out, HZ.out, if_neg hneg])
                          have hz0 : 0 ≤ Z := by
                            rcases fit_cases (rowD kd false) (rs.drop k2) with ⟨_, h2⟩ | ⟨m, p, _, _, h3⟩
                            · exact absurd (HZ.out.symm.trans h2) hneg
                            · have := HZ.out.symm.trans h3; omega
                          have tz : decide (Z < 0) = false := decide_eq_false (by omega)
                          go_wp2_with fail
                          go_meet
                          case rel => exact ⟨Z, rfl, HE, Lib.hid (grown_refl _ _)⟩
                      case rest =>
                        obtain ⟨Z', rfl, HE, HGX⟩ := hcut
                        have HCX := Lib.hid (HC9.out.kept HGX.out)
                        have HTX := Lib.hid (HT6.out.kept HCX.out.1)
                        clear A0 HA0 HZ HIN HC9 HC8 HLR HR2 HGX hne
                        rcases fitE_cases (rs.drop k2) with ⟨hT, hz⟩ | ⟨m1, f9, hT, hp, hz, hz0⟩
                        · obtain rfl := HE.out.symm.trans hz
                          have HX := Lib.hid (tree_no HH4.out HY.out HSE.out HCL.out (cat_none HY2.out (items_fail HT7.out (item_no hT))))
                          clear hT hz
                          have hput := HTX.out.put (.slice none 0 0) (.slice none 0 0)
                          have hF : Hid (P (.returned (.tuple #[.agg #[.slice none 0 0, .slice none 0 0], .bool false])) ((wc.setCell ⟨w.heap.size, 0, none⟩ (.slice none 0 0)).setCell ⟨w.heap.size, 1, none⟩ (.slice none 0 0))) := Lib.hid (HNO.out _ (HX.out) hput.1)
                          obtain ⟨D0, D1, _, _⟩ := box_cells2 hput.2
                          obtain ⟨_, _, Fr0, Fr1⟩ := box_cells2 HTX.out.2.1
                          obtain ⟨Ct0, Ct1, _, _⟩ := box_cells2 HTX.out.2.2.1
                          clear hput
                          go_wp2_with fail
                          exact bodyPost_ret (v := .tuple #[.agg #[.slice none 0 0, .slice none 0 0], .bool false]) (by simp [results, Try.results32, go_sem, D0, D1]) rfl hF.out
                        · obtain rfl := HE.out.symm.trans hz
                          obtain ⟨M2, hM⟩ : ∃ M, f9.length = M := ⟨_, rfl⟩
                          rw [hM] at hz0 ⊢
                          obtain ⟨hd1, hd2, hd3⟩ := drop_more hp
                          rw [hM] at hd1 hd2
                          have hkM : k2 + M2 + m1.length = n := by
                            have := congrArg List.length hp
                            rw [List.length_drop, List.length_append, HN.out, hM] at this; omega
                          obtain ⟨K3, hK3⟩ : ∃ K3, k2 + M2 = K3 := ⟨_, rfl⟩
                          rw [hK3] at hd1 hkM
                          have HEL : Hid (run elementRu (rs.drop k2) = some (rs.drop K3)) := Lib.hid (by rw [hT, hd1])
                          have hcut9 : cutL (rs.drop k2) (rs.drop K3) = f9 := by rw [hd1, hp, cutL_app]
                          have HCUT := Lib.hid hcut9
                          have HRP : Hid (RcSl wc (some q2) f9) := Lib.hid (by
                            have h := (HL.out.cut (cap := cap) (k := k2) (m := M2) (by rw [HN.out]; omega) (by rw [HN.out]; exact hcap)).kept HTX.out.1
                            rw [if_neg (by omega), hq2, hd2] at h
                            exact h)
                          have hmem : ∀ r ∈ f9, r ∈ rs := fun r hr => List.mem_of_mem_drop (by rw [hp]; exact List.mem_append_left _ hr)
                          have HSK : Hid (∀ r ∈ f9, r.1 < 256 ∧ r.2.1 < 256) := Lib.hid fun r hr => HSM.out r (hmem r hr)
                          have HBK : Hid (BigR f9) := Lib.hid ⟨by omega, fun r hr => HBG.out.2 r (hmem r hr)⟩
                          have HLM : Hid (f9.length = K3 - k2) := Lib.hid (by omega)
                          have hKi : (k2 : Int) + (M2 : Int) = (K3 : Int) := by omega
                          have hK3n : K3 ≤ n := by omega
                          have hkK3 : k2 + 1 ≤ K3 := by omega
                          have q1 : (K3 : Int) ≤ (cap : Int) := by omega
                          have q3 : (k2 : Int) ≤ (K3 : Int) := by omega
                          have q4 : (0 : Int) ≤ (k2 : Int) := by omega
                          clear hT hz hp hd1 hd2 hd3 hM hK3 hcut9 hmem hkM hz0 HE
                          go_wp2_with fail
                          refine (RCopied_any _ (some q2) (K3 - k2) (cap - k2) f9 HLM.out HRP.out HSK.out HBK.out).mono ?_
                          rintro e w10 ⟨v, rfl, ho, hg10⟩
                          rw [HLM.out] at ho
                          have HC10 := Lib.hid (HCX.out.kept hg10)
                          obtain ⟨sf, cf, rfl⟩ := ho.shape
                          have gA := World.grownBy_alloc w10 (.cells #[.slice sf (K3 - k2) cf, .slice none 0 0] 55) none
                          have HTI := Lib.hid (show TI w10 (w10.alloc (.cells #[.slice sf (K3 - k2) cf, .slice none 0 0] 55)) w10.heap.size (.slice sf (K3 - k2) cf) (.slice none 0 0) f9 [] from ⟨gA, heap_new w10 _ _ rfl, ho.rowT.kept gA, Or.inl ⟨rfl, rfl⟩, Nat.le_refl _⟩)
                          have hszb : (w10.alloc (.cells #[.slice sf (K3 - k2) cf, .slice none 0 0] 55)).heap.size = w10.heap.size + 1 := by simp
                          have HSZ := Lib.hid hszb
                          clear ho hg10 gA HRP HSK HBK HLM q1 q3 q4 HCX HTX hszb
                          generalize hw11 : w10.alloc (.cells #[.slice sf (K3 - k2) cf, .slice none 0 0] 55) = w11 at HTI HSZ
                          have iX : InS (w11.alloc (.cells #[.int .i64 43, .int .i64 44] 3)) (some ⟨w11.heap.size, 0, none⟩) [43, 44] := ins_lit w11 [43, 44]
                          have IX := Lib.hid iX
                          have GX := Lib.hid (World.grownBy_alloc w11 (.cells #[.int .i64 43, .int .i64 44] 3) none)
                          clear iX
                          have IX' : Hid (InS (w11.alloc (.cells #[.int .i64 43, .int .i64 44] 3)) (some ⟨w10.heap.size + 1, 0, none⟩) [43, 44]) := Lib.hid (by rw [← HSZ.out]; exact IX.out)
                          have hwx : ∃ W, w10.alloc (.cells #[.slice sf (K3 - k2) cf, .slice none 0 0] 55) = W ∧ W = w11 := ⟨_, rfl, hw11⟩
                          clear hwx
                          subst hw11
                          go_wp2_with fail
                          refine (RFit_any _ (some a) _ n cap K3 2 2 rs [43, 44] HN.out (HL.out.kept (grown_trans (grown_trans HT6.out.1 (grown_trans HC10.out.1 HTI.out.1)) GX.out)) HSM.out (by omega) hnb IX'.out rfl (by decide) (by decide)).mono ?_
                          rintro e w12 ⟨rfl, hg12⟩
                          have HTI2 := Lib.hid (HTI.out.kept (grown_trans GX.out hg12))
                          obtain ⟨Z, hZ⟩ : ∃ Z, fitD [43, 44] (rs.drop K3) = Z := ⟨_, rfl⟩
                          rw [hZ]
                          have HZ0 := Lib.hid hZ.symm
                          obtain ⟨qx, hqx⟩ : ∃ qx, w10.heap.size = qx := ⟨_, rfl⟩
                          rw [hqx] at HTI2 ⊢
                          clear hZ hg12 HTI HSZ GX IX IX' hqx
                          go_wp2_with fail
                          go_loopg [6, 15] (n - K3) (fun gh x z wr => ∃ (k4 : Nat) (Z : Int), x = .int .i64 (k4 : Int) ∧ z = .int .i64 Z ∧ K3 ≤ k4 ∧ k4 ≤ n ∧ n - k4 ≤ gh ∧ Hid (Z = fitD [43, 44] (rs.drop k4)) ∧ Hid (pEnd (rs.drop K3) = pEnd (rs.drop k4)) ∧ Hid (TI w10 wr qx (.slice sf (K3 - k2) cf) (.slice none 0 0) f9 []))
                          case atStart => exact ⟨K3, Z, by go_num, rfl, Nat.le_refl _, hK3n, Nat.le_refl _, HZ0, Lib.hid rfl, HTI2⟩
                          case round =>
                            clear HTI2 HZ0
                            obtain ⟨k4, Z, rfl, rfl, hK4, hk4n, hgh4, HZ, HPE, HTI⟩ := hrel
                            have HCI := Lib.hid (HC10.out.kept HTI.out.1)
                            have HTW := Lib.hid (HT6.out.kept HCI.out.1)
                            rcases fit_cases [43, 44] (rs.drop k4) with ⟨hT, hz⟩ | ⟨m1, p9, hT, hp, hz⟩
                            · obtain rfl : Z = -1 := HZ.out.trans hz
                              have HPN : Hid (pEnd (rs.drop K3) = rs.drop k4) := Lib.hid (HPE.out.trans (pEnd_none hT))
                              clear hT hz HZ HPE hgh4
                              have hln : K3 + (k4 - K3) = k4 := by omega
                              obtain ⟨pl, hpl⟩ : ∃ pl, (rs.drop K3).take (k4 - K3) = pl := ⟨_, rfl⟩
                              have hpll : pl.length = k4 - K3 := by rw [← hpl, List.length_take, List.length_drop, HN.out]; omega
                              obtain ⟨pp, hpp⟩ : ∃ pp, (if cap = K3 then some a else some (a.add (K3 * 3))) = pp := ⟨_, rfl⟩
                              have HRP : Hid (RcSl wr pp pl) := Lib.hid (by
                                have h := (HL.out.cut (cap := cap) (k := K3) (m := k4 - K3) (by rw [HN.out]; omega) (by rw [HN.out]; exact hcap)).kept HTW.out.1
                                rw [hpp, hpl] at h
                                exact h)
                              have hmem : ∀ r ∈ pl, r ∈ rs := fun r hr => List.mem_of_mem_drop (List.mem_of_mem_take (by rw [hpl]; exact hr))
                              have HSK : Hid (∀ r ∈ pl, r.1 < 256 ∧ r.2.1 < 256) := Lib.hid fun r hr => HSM.out r (hmem r hr)
                              have HBK : Hid (BigR pl) := Lib.hid ⟨by omega, fun r hr => HBG.out.2 r (hmem r hr)⟩
                              have HLM := Lib.hid hpll
                              have HCU : Hid (cutL (rs.drop K3) (pEnd (rs.drop K3)) = pl) := Lib.hid (by
                                rw [HPN.out, ← hpl]; unfold cutL; rw [List.length_drop, List.length_drop, HN.out]; congr 1; omega)
                              have q1 : (k4 : Int) ≤ (cap : Int) := by omega
                              have q3 : (K3 : Int) ≤ (k4 : Int) := by omega
                              have q4 : (0 : Int) ≤ (K3 : Int) := by omega
                              clear hpl hpll hmem hln
                              go_wp2_with fail
                              refine (RCopied_any _ pp (k4 - K3) (cap - K3) pl HLM.out HRP.out HSK.out HBK.out).mono ?_
                              rintro e w13 ⟨v, rfl, ho, hg13⟩
                              rw [HLM.out] at ho
                              have HTI3 := Lib.hid (HTI.out.kept hg13)
                              obtain ⟨sp, cp, rfl⟩ := ho.shape
                              obtain ⟨_, _, Fx0, Fx1⟩ := box_cells2 HTI3.out.2.1
                              have HTI4 := Lib.hid (HTI3.out.props (u := .slice sp (k4 - K3) cp) (pl := pl) ho.rowT)
                              clear ho hg13 HRP HSK HBK q1 q3 q4 HTI hpp
                              generalize hw14 : w13.setCell ⟨qx, 1, none⟩ (.slice sp (k4 - K3) cp) = w14 at HTI4
                              have iU : InS (w14.alloc (.cells #[.int .i64 17] 3)) (some ⟨w14.heap.size, 0, none⟩) [17] := ins_lit w14 [17]
                              have IU := Lib.hid iU
                              have GU := Lib.hid (World.grownBy_alloc w14 (.cells #[.int .i64 17] 3) none)
                              clear iU
                              have HCU4 := Lib.hid (HC10.out.kept HTI4.out.1)
                              have HTU4 := Lib.hid (HT6.out.kept HCU4.out.1)
                              have IU' : Hid (InS (w14.alloc (.cells #[.int .i64 17] 3)) (some ⟨w13.heap.size, 0, none⟩) [17]) := Lib.hid (by
                                rw [show w13.heap.size = w14.heap.size from by rw [← hw14]; simp [World.setCell]]; exact IU.out)
                              subst hw14
                              go_wp2_with fail
                              generalize hw14 : w13.setCell ⟨qx, 1, none⟩ (.slice sp (k4 - K3) cp) = w14 at *
                              clear hw14 HTI3 Fx0 Fx1
                              refine (RFit_any _ (some a) _ n cap k4 1 1 rs [17] HN.out (HL.out.kept (grown_trans HTU4.out.1 GU.out)) HSM.out hk4n hnb IU'.out rfl (by decide) (by decide)).mono ?_
                              rintro e w15 ⟨rfl, hg15⟩
                              have HTI5 := Lib.hid (HTI4.out.kept (grown_trans GU.out hg15))
                              have HCI5 := Lib.hid (HC10.out.kept HTI5.out.1)
                              have HT15 := Lib.hid (HT6.out.kept HCI5.out.1)
                              clear hg15 HTI4 HCU4 HTU4 GU IU IU' HTW HCI
                              rcases fit_one 17 (by decide) (rs.drop k4) with ⟨hT, hz⟩ | ⟨r, m1, hT, hp, _, _, hz⟩
                              · rw [hz]
                                have HX := Lib.hid (tree_no HH4.out HY.out HSE.out HCL.out (cat_none HY2.out (items_fail HT7.out (item_no2 HEL.out (by rw [HPN.out]; exact hT)))))
                                clear hT hz
                                have hput := HT15.out.put (.slice none 0 0) (.slice none 0 0)
                                have hF : Hid (P (.returned (.tuple #[.agg #[.slice none 0 0, .slice none 0 0], .bool false])) ((w15.setCell ⟨w.heap.size, 0, none⟩ (.slice none 0 0)).setCell ⟨w.heap.size, 1, none⟩ (.slice none 0 0))) := Lib.hid (HNO.out _ (HX.out) hput.1)
                                obtain ⟨D0, D1, _, _⟩ := box_cells2 hput.2
                                obtain ⟨_, _, Fr0, Fr1⟩ := box_cells2 HT15.out.2.1
                                obtain ⟨Ct0, Ct1, _, _⟩ := box_cells2 HT15.out.2.2.1
                                clear hput
                                go_wp2_with fail
                                exact bodyPost_ret (v := .tuple #[.agg #[.slice none 0 0, .slice none 0 0], .bool false]) (by simp [results, Try.results32, go_sem, D0, D1]) rfl hF.out
                              · rw [hz]
                                obtain ⟨hd1, hd2⟩ := drop_one hp
                                have hk5 : k4 + 1 ≤ n := by have := HN.out; omega
                                have HY3 : Hid (catI (is ++ [(f9, pl)]) (itemsR f2 (rs.drop (k4 + 1))) = y2) := Lib.hid (by
                                  rw [← items_more is HT7.out (show itemR (rs.drop k2) = some ((f9, pl), rs.drop (k4 + 1)) from by rw [item_yes HEL.out (by rw [HPN.out]; exact hT), HCUT.out, HCU.out, hd1])]
                                  exact HY2.out)
                                clear hT hz hp hd1 hd2
                                obtain ⟨siv, civ, rfl⟩ := OwnP.shape HCI5.out.2.2.2.1
                                have gA := World.grownBy_alloc w15 (.cells #[.slice sf (K3 - k2) cf, .slice sp (k4 - K3) cp] 55) none
                                have HCA := Lib.hid (HCI5.out.kept gA)
                                have HRA := Lib.hid (RowT.any (w1 := w6) (HTI5.out.2.2.1.kept gA))
                                have HRB := Lib.hid (RowT.any (w1 := w6) (HTI5.out.2.2.2.1.kept gA))
                                obtain ⟨ys, hown, hone, hys⟩ := HCA.out.2.2.2.1
                                have HOWN := Lib.hid hown
                                have HONE := Lib.hid hone
                                have HYS := Lib.hid hys
                                have HM1 : Hid (is.length + 1 ≤ maxLen) := Lib.hid (by unfold maxLen; omega)
                                have HM2 : Hid ((is.length + 1) * 48 ≤ 140737488355328) := Lib.hid (by omega)
                                have HBS := Lib.hid HCA.out.1.size
                                obtain ⟨Cx0, Cx1, _, _⟩ := box_cells2 HTI5.out.2.1
                                obtain ⟨Cc0, Cc1, _, _⟩ := box_cells2 HCI5.out.2.1
                                clear hown hone hys gA
                                go_wp2_with (at_builtin; refine wpList_own_some rfl (.tmp 184) (.tmp 186) 48 rfl w6.heap.size 55 i1 (.agg #[.slice none 0 0, .slice none 0 0]) 2 48 Try.underlying48 hi hz0 hz1 hz2 rfl (by decide) (.slice siv is.length civ) is.length ys rfl HOWN.out ⟨w15.heap.size, 0, none⟩ 1 1 [.slice sf (K3 - k2) cf, .slice sp (k4 - K3) cp] rfl rfl (World.news_of_block (cs := #[.slice sf (K3 - k2) cf, .slice sp (k4 - K3) cp]) (heap_new w15 _ _ rfl)) (by simp [Value.oneCell']) HM1.out HM2.out HBS.out (Or.inr (by decide)) (is.length + 1) rfl ?_)
                                intro g5 c5 w16 hown9 hgrow9 hgb9 hcb9 hmb9
                                obtain ⟨B9, HT10⟩ := item_lay HCA.out HRA.out HRB.out rfl rfl HOWN.out HONE.out HYS.out hown9 hgrow9
                                obtain ⟨_, _, Fc0, Fc1⟩ := box_cells2 B9
                                clear hown9 hgrow9 hgb9 hcb9 hmb9 Cx0 Cx1 Cc0 Cc1 B9
                                go_wp2_with fail
                                go_roundg (n - (k4 + 1))
                                case measure => omega
                                case rel => exact ⟨k4 + 1, f2, is ++ [(f9, pl)], _, by go_num, by omega, hk5, Nat.le_refl _, by omega, by rw [List.length_append]; simp; omega, HY3, by simpa using HT10⟩
                            · obtain ⟨M4, hM⟩ : ∃ M, p9.length = M := ⟨_, rfl⟩
                              obtain rfl := HZ.out.trans hz
                              rw [hM]
                              obtain ⟨hd1, _, hd3⟩ := drop_more hp
                              have hM0 := pEnd_pos hT hp
                              have hkM : k4 + M4 + m1.length = n := by
                                have := congrArg List.length hp
                                rw [List.length_drop, List.length_append, HN.out, hM] at this; omega
                              rw [hM] at hd1 hM0
                              have HP2 : Hid (pEnd (rs.drop K3) = pEnd (rs.drop (k4 + M4))) := Lib.hid (by rw [HPE.out, (pEnd_some hT).1, hd1])
                              have hk5 : k4 + M4 ≤ n := by omega
                              have t5 : decide ((M4 : Int) > 0) = true := decide_eq_true (by omega)
                              have t6 : decide (0 < (M4 : Int)) = true := decide_eq_true (by omega)
                              clear hT hz hp hd1 hd3 hM HZ HPE hkM
                              have iY : InS (wr.alloc (.cells #[.int .i64 43, .int .i64 44] 3)) (some ⟨wr.heap.size, 0, none⟩) [43, 44] := ins_lit wr [43, 44]
                              have IY := Lib.hid iY
                              have GY := Lib.hid (World.grownBy_alloc wr (.cells #[.int .i64 43, .int .i64 44] 3) none)
                              clear iY
                              go_wp2_with fail
                              refine (RFit_any _ (some a) _ n cap (k4 + M4) 2 2 rs [43, 44] HN.out (HL.out.kept (grown_trans HTW.out.1 GY.out)) HSM.out hk5 hnb IY.out rfl (by decide) (by decide)).mono ?_
                              rintro e w13 ⟨rfl, hg13⟩
                              have HTI3 := Lib.hid (HTI.out.kept (grown_trans GY.out hg13))
                              obtain ⟨Z, hZ⟩ : ∃ Z, fitD [43, 44] (rs.drop (k4 + M4)) = Z := ⟨_, rfl⟩
                              rw [hZ]
                              have HZ1 := Lib.hid hZ.symm
                              clear hZ hg13
                              go_wp2_with fail
                              go_roundg (n - (k4 + M4))
                              case measure => omega
                              case rel => exact ⟨k4 + M4, Z, by go_num, rfl, by omega, hk5, Nat.le_refl _, HZ1, HP2, HTI3⟩
                · obtain rfl : k2 = n := by omega
                  have f1 : decide ((k2 : Int) < (k2 : Int)) = false := decide_eq_false (by omega)
                  have H7 : Hid (rs.drop k2 = [] ∨ ∃ r t, rs.drop k2 = r :: t ∧ r.1 = 7) := Lib.hid (Or.inl (List.drop_eq_nil_of_le (by rw [HN.out]; exact Nat.le_refl _)))
                  have iV : InS (wr.alloc (.cells #[.int .i64 7] 3)) (some ⟨wr.heap.size, 0, none⟩) [7] := ins_lit wr [7]
                  have IV := Lib.hid iV
                  have GV := Lib.hid (World.grownBy_alloc wr (.cells #[.int .i64 7] 3) none)
                  clear iV
                  go_wp2_with fail
                  refine (RFit_any _ (some a) _ k2 cap k2 1 1 rs [7] HN.out (HL.out.kept (grown_trans HGW.out GV.out)) HSM.out (by omega) hnb IV.out rfl (by decide) (by decide)).mono ?_
                  rintro e w8 ⟨rfl, hg8⟩
                  have HC8 := Lib.hid (HTC.out.kept (grown_trans GV.out hg8))
                  have HT8 := Lib.hid (HT6.out.kept HC8.out.1)
                  clear hg8
                  rcases fit_one 7 (by decide) (rs.drop k2) with ⟨hT, hz⟩ | ⟨r, m1, hT, hp, _, _, hz⟩
                  · rw [hz]
                    have HX := Lib.hid (tree_no HH4.out HY.out HSE.out HCL.out (cat_none HY2.out (items_no H7.out hT)))
                    clear hT hz
                    have hput := HT8.out.put (.slice none 0 0) (.slice none 0 0)
                    have hF : Hid (P (.returned (.tuple #[.agg #[.slice none 0 0, .slice none 0 0], .bool false])) ((w8.setCell ⟨w.heap.size, 0, none⟩ (.slice none 0 0)).setCell ⟨w.heap.size, 1, none⟩ (.slice none 0 0))) := Lib.hid (HNO.out _ (HX.out) hput.1)
                    obtain ⟨D0, D1, _, _⟩ := box_cells2 hput.2
                    obtain ⟨_, _, Fr0, Fr1⟩ := box_cells2 HT8.out.2.1
                    obtain ⟨Ct0, Ct1, _, _⟩ := box_cells2 HT8.out.2.2.1
                    clear hput
                    go_wp2_with fail
                    exact bodyPost_ret (v := .tuple #[.agg #[.slice none 0 0, .slice none 0 0], .bool false]) (by simp [results, Try.results32, go_sem, D0, D1]) rfl hF.out
                  · rw [hz]
                    exfalso
                    have := (drop_one hp).2
                    have := HN.out
                    omega
end Go.Proofs.Ytcioefmldcmhgaa
