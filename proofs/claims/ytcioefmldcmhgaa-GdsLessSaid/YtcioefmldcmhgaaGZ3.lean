/- Streams as trees: Write. -/
import Derived.Test.YtcioefmldcmhgaaGZ2
import Derived.Test.YtcioefmldcmhgaaKJoinM
namespace Go.Proofs.Ytcioefmldcmhgaa
open Go.RowKit
set_option maxRecDepth 100000
set_option linter.unusedVariables false
set_option linter.unusedSimpArgs false

def FrmEv (f : Frm) : Prop := f.2.1 % 2 = 0 ∧ f.2.1 * f.2.2.1 ≤ 65530
theorem ite_frmE {c : Prop} [Decidable c] {a : Frm} {b : Option Frm} (ha : FrmEv a) (hb : ∀ f, b = some f → FrmEv f) : ∀ f, (if c then some a else b) = some f → FrmEv f := by
  intro f h
  by_cases hc : c
  · rw [if_pos hc] at h; cases h; exact ha
  · rw [if_neg hc] at h; exact hb f h
theorem frm_ev {k : Nat} {f : Frm} (h : frm k = some f) : f.2.1 % 2 = 0 ∧ f.2.1 * f.2.2.1 ≤ 65530 := by
  revert h f
  show ∀ f, frm k = some f → FrmEv f
  unfold frm
  repeat (refine ite_frmE (by unfold FrmEv; decide) ?_)
  intro f h; cases h
theorem rt_okR {r : KRec} (h : rt r = true) : okR r := by
  unfold rt rightB at h
  cases hf : frm r.1 with
  | none => rw [hf] at h; cases h
  | some f =>
    obtain ⟨dd, p, m, g⟩ := f
    rw [hf] at h
    obtain ⟨e1, e2⟩ := frm_ev hf
    dsimp only at h e1 e2
    rw [Bool.and_eq_true, Bool.and_eq_true] at h
    obtain ⟨_, h, _⟩ := h
    unfold fitsB at h
    unfold okR
    split at h
    · have h := of_decide_eq_true h; omega
    · obtain ⟨h1, h2, h3⟩ := of_decide_eq_true h
      have h4 := Nat.div_add_mod r.2.2.length p
      rw [h2, Nat.add_zero] at h4
      have h5 : p * (r.2.2.length / p) ≤ p * m := Nat.mul_le_mul_left _ h3
      refine ⟨?_, by omega⟩
      rw [← h4, Nat.mul_mod, e1, Nat.zero_mul]
/-- What a rule lets go by is right. -/
def AllRt (l : List KRec) : Prop := ∀ r ∈ l, rt r = true
theorem many_rt {k : Nat} : ∀ {l : List KRec}, manyR k l = some [] → AllRt l := by
  intro l
  induction l with
  | nil => intro _ r h; simp at h
  | cons x t ih =>
    intro h
    simp only [manyR] at h
    split at h
    · split at h
      · rename_i h1 h2
        intro r hr
        rcases List.mem_cons.1 hr with rfl | hr
        · exact h2
        · exact ih h r hr
      · cases h
    · cases h
theorem props_rt : ∀ (n : Nat) {l : List KRec}, l.length ≤ n → propsR l = some [] → AllRt l := by
  intro n
  induction n with
  | zero =>
    intro l hn h
    have : l = [] := List.length_eq_zero_iff.1 (by omega)
    subst this
    intro r h; simp at h
  | succ n ih =>
    intro l hn h
    match l, hn, h with
    | [], _, _ => intro r h; simp at h
    | [x], _, h =>
      simp only [propsR] at h
      split at h <;> cases h
    | x :: y :: t, hn, h =>
      simp only [propsR] at h
      split at h
      · split at h
        · rename_i h1 h2
          intro r hr
          rcases List.mem_cons.1 hr with rfl | hr
          · exact h2.1
          · rcases List.mem_cons.1 hr with rfl | hr
            · exact h2.2.2
            · exact ih (by simp at hn; omega) h r hr
        · cases h
      · cases h
theorem run_rt (a : Ru) : ∀ {p m : List KRec}, run a (p ++ m) = some m → run a p = some [] → AllRt p := by
  induction a with
  | nop => intro p m _ h; simp [run] at h; subst h; intro r h; simp at h
  | bad => intro p m _ h; simp [run] at h
  | one k =>
    intro p m _ h
    simp only [run] at h
    split at h
    · rename_i t ht
      obtain ⟨r, rfl, h1, h2⟩ := tk_some ht
      cases h
      intro x hx; simp at hx; subst hx; exact h2
    · cases h
  | opt k =>
    intro p m _ h
    simp only [run] at h
    split at h
    · rename_i t ht
      obtain ⟨r, rfl, h1, h2⟩ := tk_some ht
      cases h
      intro x hx; simp at hx; subst hx; exact h2
    · cases h; intro r h; simp at h
    · cases h
  | seq a b iha ihb =>
    intro p m _ h
    simp only [run] at h
    split at h
    · rename_i t ht
      obtain ⟨q, rfl, hq⟩ := run_pre ht
      intro r hr
      rcases List.mem_append.1 hr with hr | hr
      · exact iha (m := t) ht hq r hr
      · exact ihb (m := []) (by simpa using h) h r hr
    · cases h
  | tk k y n ihy ihn =>
    intro p m _ h
    simp only [run] at h
    split at h
    · rename_i t ht
      obtain ⟨r, rfl, h1, h2⟩ := tk_some ht
      intro x hx
      rcases List.mem_cons.1 hx with rfl | hx
      · exact h2
      · exact ihy (m := []) (by simpa using h) h x hx
    · exact ihn (m := []) (by simpa using h) h
    · cases h
  | many k => intro p m _ h; exact many_rt h
  | props => intro p m _ h; exact props_rt _ (Nat.le_refl _) h
theorem fit_rt {a : Ru} {p : List KRec} (h : run a p = some []) : AllRt p := run_rt a (m := []) (by simpa using h) h
theorem recI_rt {x : KItem} (h : IsItem x) : AllRt (recI x) := by
  intro r hr
  unfold recI at hr
  rcases List.mem_append.1 hr with hr | hr
  · exact fit_rt h.1 r hr
  · rcases List.mem_append.1 hr with hr | hr
    · exact fit_rt h.2 r hr
    · simp at hr; subst hr; exact rt_end (Or.inl rfl)
theorem recC_rt {c : KCell} (h : IsCell c) : AllRt (recC c) := by
  intro r hr
  unfold recC at hr
  rcases List.mem_append.1 hr with hr | hr
  · exact fit_rt h.1 r hr
  · rcases List.mem_append.1 hr with hr | hr
    · obtain ⟨x, hx, hr⟩ := List.mem_flatMap.1 hr
      exact recI_rt (h.2 x hx) r hr
    · simp at hr; subst hr; exact rt_end (Or.inr (Or.inl rfl))
theorem recT_rt {t : KLib} (h : IsLib t) : AllRt (recT t) := by
  intro r hr
  unfold recT at hr
  rcases List.mem_append.1 hr with hr | hr
  · exact fit_rt h.1 r hr
  · rcases List.mem_append.1 hr with hr | hr
    · obtain ⟨x, hx, hr⟩ := List.mem_flatMap.1 hr
      exact recC_rt (h.2 x hx) r hr
    · simp at hr; subst hr; exact rt_end (Or.inr (Or.inr rfl))
theorem recT_join {t : KLib} (h : IsLib t) : joinD (recT t) = (0, joinB (recT t)) := joinD_ok fun r hr => rt_okR (recT_rt h r hr)
/-- What Write answers. -/
def writeD (t : KLib) : Nat × List Nat := if okL t = false then (3, []) else if 16777216 < (joinB (recT t)).length then (2, []) else (0, joinB (recT t))
theorem write_bad {t : KLib} (h : okL t = false) : writeD t = (3, []) := if_pos h
theorem write_long {t : KLib} (h : okL t = true) (h2 : 16777216 < (joinB (recT t)).length) : writeD t = (2, []) := by unfold writeD; rw [if_neg (by rw [h]; decide), if_pos h2]
theorem write_ok {t : KLib} (h : okL t = true) (h2 : ¬ 16777216 < (joinB (recT t)).length) : writeD t = joinD (recT t) := by unfold writeD; rw [if_neg (by rw [h]; decide), if_neg h2, recT_join ((okL_iff t).1 h)]
set_option maxHeartbeats 16000000 in
theorem Records_any (w : World) (v : Value) (t : KLib) (hv : LibV w v t) (hT : (joinB (recT t)).length ≤ 1099511627776) :
    Calls Try.prog 37 #[v] w (fun e w' => ∃ u, e = .returned u ∧ RecsV w' u (recT t) ∧ w.grownBy w' none) := by
  have hmf : ∀ (fn : Fn) (first cap : Array Value) (w : World), (Instr.makeFunc fn first cap).run Try.prog w = .ok (.func fn first cap) w := fun _ _ _ _ => rfl
  obtain ⟨sa, ca, sb, cb, rfl⟩ := hv.two
  have hG1 := World.grownBy_alloc w (.cells #[.slice sa t.1.length ca, .slice sb t.2.length cb] 27) none
  have Bt := heap_new w (.cells #[.slice sa t.1.length ca, .slice sb t.2.length cb] 27) w.heap.size rfl
  have gB := World.grownBy_alloc (w.alloc (.cells #[.slice sa t.1.length ca, .slice sb t.2.length cb] 27)) (.cells #[.slice none 0 0] 24) none
  have Bq := heap_new (w.alloc (.cells #[.slice sa t.1.length ca, .slice sb t.2.length cb] 27)) (.cells #[.slice none 0 0] 24) (w.heap.size + 1) (by simp)
  have Bt2 := heap_kept gB Bt
  have hG := grown_trans hG1 gB
  obtain ⟨C0, C1, _, _⟩ := box_cells2 Bt2
  have HS : Hid (RecSt w (w.heap.size + 1) ((w.alloc (.cells #[.slice sa t.1.length ca, .slice sb t.2.length cb] 27)).alloc (.cells #[.slice none 0 0] 24)) []) := Lib.hid ⟨hG, by omega, _, Bq, OwnU.nil _ _⟩
  have HV := Lib.hid hv
  have HT := Lib.hid hT
  clear hv hT Bt Bq Bt2 hG1 gB hG
  go_enter Try.func37, Try.ntmps37
  go_wp2_with fail
  generalize ((w.alloc (.cells #[.slice sa t.1.length ca, .slice sb t.2.length cb] 27)).alloc (.cells #[.slice none 0 0] 24)) = wa at *
  refine (Each_any w wa 58 (w.heap.size + 1) (RecSt w (w.heap.size + 1)) _ t (rec_fed w (recT t) _ HT.out) HV.out HS.out cf_records).mono ?_
  rintro e w1 ⟨rfl, hs1⟩
  obtain ⟨hg1, _, u, Bq, hu⟩ := hs1
  have HU := Lib.hid (And.intro (hu.recs hg1) hg1)
  obtain ⟨su, cu, rfl, _⟩ := hu.shape
  obtain ⟨Cq, _⟩ := box_cell Bq
  clear hu hg1 Bq C0 C1
  go_wp2_with fail
  go_ret
  exact ⟨_, rfl, HU.out⟩
set_option maxHeartbeats 16000000 in
theorem Write_any (w : World) (v : Value) (t : KLib) (hv : LibV w v t) (hT : (joinB (recT t)).length ≤ 1099511627776) :
    Calls Try.prog 15 #[v] w (RetJoin w (writeD t)) := by
  obtain ⟨sa, ca, sb, cb, rfl⟩ := hv.two
  have hG := World.grownBy_alloc w (.cells #[.slice sa t.1.length ca, .slice sb t.2.length cb] 27) none
  have Bt := heap_new w (.cells #[.slice sa t.1.length ca, .slice sb t.2.length cb] 27) w.heap.size rfl
  obtain ⟨C0, C1, _, _⟩ := box_cells2 Bt
  have HV := Lib.hid hv
  have HT := Lib.hid hT
  obtain ⟨B, hB⟩ : ∃ B, okL t = B := ⟨_, rfl⟩
  have HB := Lib.hid hB
  clear hv hT hB
  go_enter Try.func15, Try.ntmps15
  go_wp2_with fail
  generalize (w.alloc (.cells #[.slice sa t.1.length ca, .slice sb t.2.length cb] 27)) = wa at *
  refine (Valid_any wa _ t (HV.out.kept hG)).mono ?_
  rw [HB.out]
  rintro e w1 ⟨rfl, hg1⟩
  have Bt1 := heap_kept hg1 Bt
  have hG1 := grown_trans hG hg1
  clear C0 C1 hg1 hG Bt
  obtain ⟨C0, C1, _, _⟩ := box_cells2 Bt1
  cases B with
  | false =>
    have hF : Hid (RetJoin w (writeD t) (.returned (.tuple #[.slice none 0 0, .int .i64 3])) w1) := Lib.hid (by
      rw [write_bad HB.out]; exact ⟨_, rfl, OwnB.nil _ _, hG1⟩)
    clear hG1 Bt1
    go_wp2_with fail
    go_ret2
    exact hF.out
  | true =>
    go_wp2_with fail
    refine (Size_any w1 _ t (HV.out.kept hG1) HT.out).mono ?_
    rintro e w2 ⟨rfl, hg2⟩
    obtain ⟨X, hX⟩ : ∃ X, (joinB (recT t)).length = X := ⟨_, rfl⟩
    rw [hX]
    have HX := Lib.hid hX
    have Bt2 := heap_kept hg2 Bt1
    have hG2 := grown_trans hG1 hg2
    clear C0 C1 hg2 hG1 Bt1 hX
    obtain ⟨C0, C1, _, _⟩ := box_cells2 Bt2
    by_cases hlong : 16777216 < X
    · have q1 : decide ((16777216 : Int) < (X : Int)) = true := decide_eq_true (by omega)
      have hF : Hid (RetJoin w (writeD t) (.returned (.tuple #[.slice none 0 0, .int .i64 2])) w2) := Lib.hid (by
        rw [write_long HB.out (by rw [HX.out]; exact hlong)]; exact ⟨_, rfl, OwnB.nil _ _, hG2⟩)
      clear hG2 Bt2
      go_wp2_with fail
      go_ret2
      exact hF.out
    · have q1 : decide ((16777216 : Int) < (X : Int)) = false := decide_eq_false (by omega)
      have HWR := Lib.hid (write_ok HB.out (by rw [HX.out]; exact hlong))
      go_wp2_with fail
      refine (Records_any w2 _ t (HV.out.kept hG2) HT.out).mono ?_
      rintro e w3 ⟨u, rfl, hu, hg3⟩
      obtain ⟨su, cu, rfl, h1, h2, h3⟩ := hu
      have hG3 := grown_trans hG2 hg3
      have HU := Lib.hid (And.intro h1 h3)
      have hm : (recT t).length ≤ 9223372036854775807 := Nat.le_trans h2.2.1 h2.2.2
      have HM := Lib.hid hm
      obtain ⟨R, hR⟩ : ∃ R, (recT t).length = R := ⟨_, rfl⟩
      have HR := Lib.hid hR
      rw [hR]
      clear C0 C1 hg3 hG2 Bt2 h1 h2 h3 hm hR
      go_wp2_with fail
      refine (Join_any w3 su R cu (recT t) HR.out HU.out.1 HU.out.2 HT.out (by rw [← HR.out]; exact HM.out)).mono ?_
      rintro e w4 ⟨v4, rfl, hv4, hg4⟩
      have hF : Hid (RetJoin w (writeD t) (.returned (.tuple #[v4, .int .i64 ((joinD (recT t)).1 : Int)])) w4) := Lib.hid (by
        rw [HWR.out]; exact ⟨_, rfl, ⟨by
          obtain ⟨k1, ⟨e, e2⟩ | ⟨g, cap', cur, e, hg', hb, hr⟩⟩ := hv4.1
          · exact ⟨k1, Or.inl ⟨e, e2⟩⟩
          · exact ⟨k1, Or.inr ⟨g, cap', cur, e, Nat.le_trans hG3.size hg', hb, hr⟩⟩, hv4.2⟩, grown_trans hG3 hg4⟩)
      obtain ⟨s5, c5, rfl, _⟩ := hv4.shape
      clear hv4 hg4 hG3
      go_wp2_with fail
      go_ret2
      exact hF.out
end Go.Proofs.Ytcioefmldcmhgaa
