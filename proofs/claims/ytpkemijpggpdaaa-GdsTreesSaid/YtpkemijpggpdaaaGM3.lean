/- Streams as trees: the mathematics of cut streams and of what stands behind them. -/
import Derived.Test.YtpkemijpggpdaaaGO
namespace Go.Proofs.Ytpkemijpggpdaaa
open Go.RowKit
set_option maxRecDepth 100000
set_option linter.unusedVariables false
set_option linter.unusedSimpArgs false

/-- No ENDLIB among these. -/
def No4 (l : List KRec) : Prop := ∀ r ∈ l, r.1 ≠ 4
def no4 : Ru → Bool
  | .nop => true
  | .bad => true
  | .one k => k != 4
  | .opt k => k != 4
  | .seq a b => no4 a && no4 b
  | .tk k y n => k != 4 && no4 y && no4 n
  | .many k => k != 4
  | .props => true
theorem many_no4 {k : Nat} (hk : k ≠ 4) : ∀ {l : List KRec}, manyR k l = some [] → No4 l := by
  intro l
  induction l with
  | nil => intro _ r h; simp at h
  | cons x t ih =>
    intro h
    simp only [manyR] at h
    split at h
    · split at h
      · rename_i h1 h2
        intro r hr
        rcases List.mem_cons.1 hr with rfl | hr
        · rw [h1]; exact hk
        · exact ih h r hr
      · cases h
    · cases h
theorem props_no4 : ∀ (n : Nat) {l : List KRec}, l.length ≤ n → propsR l = some [] → No4 l := by
  intro n
  induction n with
  | zero =>
    intro l hn h
    have : l = [] := List.length_eq_zero_iff.1 (by omega)
    subst this
    intro r h; simp at h
  | succ n ih =>
    intro l hn h
    match l, hn, h with
    | [], _, _ => intro r h; simp at h
    | [x], _, h =>
      simp only [propsR] at h
      split at h <;> cases h
    | x :: y :: t, hn, h =>
      simp only [propsR] at h
      split at h
      · split at h
        · rename_i h1 h2
          intro r hr
          rcases List.mem_cons.1 hr with rfl | hr
          · omega
          · rcases List.mem_cons.1 hr with rfl | hr
            · have := h2.2.1; omega
            · exact ih (by simp at hn; omega) h r hr
        · cases h
      · cases h
theorem run_no4 (a : Ru) : no4 a = true → ∀ {p m : List KRec}, run a (p ++ m) = some m → run a p = some [] → No4 p := by
  induction a with
  | nop => intro _ p m _ h; simp [run] at h; subst h; intro r h; simp at h
  | bad => intro _ p m _ h; simp [run] at h
  | one k =>
    intro hk p m _ h
    simp only [no4, bne_iff_ne] at hk
    simp only [run] at h
    split at h
    · rename_i t ht
      obtain ⟨r, rfl, h1, h2⟩ := tk_some ht
      cases h
      intro x hx; simp at hx; subst hx; rw [h1]; exact hk
    · cases h
  | opt k =>
    intro hk p m _ h
    simp only [no4, bne_iff_ne] at hk
    simp only [run] at h
    split at h
    · rename_i t ht
      obtain ⟨r, rfl, h1, h2⟩ := tk_some ht
      cases h
      intro x hx; simp at hx; subst hx; rw [h1]; exact hk
    · cases h; intro r h; simp at h
    · cases h
  | seq a b iha ihb =>
    intro hk p m _ h
    simp only [no4, Bool.and_eq_true] at hk
    simp only [run] at h
    split at h
    · rename_i t ht
      obtain ⟨q, rfl, hq⟩ := run_pre ht
      intro r hr
      rcases List.mem_append.1 hr with hr | hr
      · exact iha hk.1 (m := t) ht hq r hr
      · exact ihb hk.2 (m := []) (by simpa using h) h r hr
    · cases h
  | tk k y n ihy ihn =>
    intro hk p m _ h
    simp only [no4, Bool.and_eq_true, bne_iff_ne] at hk
    simp only [run] at h
    split at h
    · rename_i t ht
      obtain ⟨r, rfl, h1, h2⟩ := tk_some ht
      intro x hx
      rcases List.mem_cons.1 hx with rfl | hx
      · rw [h1]; exact hk.1.1
      · exact ihy hk.1.2 (m := []) (by simpa using h) h x hx
    · exact ihn hk.2 (m := []) (by simpa using h) h
    · cases h
  | many k => intro hk p m _ h; simp only [no4, bne_iff_ne] at hk; exact many_no4 hk h
  | props => intro _ p m _ h; exact props_no4 _ (Nat.le_refl _) h
theorem fit_no4 {a : Ru} {p : List KRec} (hk : no4 a = true) (h : run a p = some []) : No4 p := run_no4 a hk (m := []) (by simpa using h) h
theorem recI_no4 {x : KItem} (h : IsItem x) : No4 (recI x) := by
  intro r hr
  unfold recI at hr
  rcases List.mem_append.1 hr with hr | hr
  · exact fit_no4 (by decide) h.1 r hr
  · rcases List.mem_append.1 hr with hr | hr
    · exact fit_no4 (by decide) h.2 r hr
    · simp at hr; subst hr; decide
theorem recC_no4 {c : KCell} (h : IsCell c) : No4 (recC c) := by
  intro r hr
  unfold recC at hr
  rcases List.mem_append.1 hr with hr | hr
  · exact fit_no4 (by decide) h.1 r hr
  · rcases List.mem_append.1 hr with hr | hr
    · obtain ⟨x, hx, hr⟩ := List.mem_flatMap.1 hr
      exact recI_no4 (h.2 x hx) r hr
    · simp at hr; subst hr; decide
/-- All rows of a tree but the last. -/
def recM (t : KLib) : List KRec := t.1 ++ t.2.flatMap recC
theorem recT_m (t : KLib) : recT t = recM t ++ [(4, 0, [])] := by unfold recT recM endE; rw [List.append_assoc]
theorem recM_no4 {t : KLib} (h : IsLib t) : No4 (recM t) := by
  intro r hr
  unfold recM at hr
  rcases List.mem_append.1 hr with hr | hr
  · exact fit_no4 (by decide) h.1 r hr
  · obtain ⟨x, hx, hr⟩ := List.mem_flatMap.1 hr
    exact recC_no4 (h.2 x hx) r hr
theorem recM_ok {t : KLib} (h : IsLib t) : ∀ r ∈ recM t, okR r := fun r hr => rt_okR (recT_rt h r (by rw [recT_m]; exact List.mem_append_left _ hr))
theorem tree_len (t : KLib) : 4 ≤ (joinB (recT t)).length := by
  have := joinB_len4 (recT t)
  rw [recT_m, List.length_append] at this
  rw [recT_m]
  simp at this
  omega
/-- Noughts behind a tree's bytes. -/
theorem parse_zeros {t : KLib} (h : okL t = true) (z : Nat) : parseD (joinB (recT t) ++ List.replicate z 0) = (0, t, (joinB (recT t)).length) := by
  have hk := (okL_iff t).1 h
  have e : splitD (joinB (recT t) ++ List.replicate z 0) = (0, recT t, (joinB (recT t)).length) := by
    rw [recT_m]; exact split_join _ (recM_ok hk) (recM_no4 hk) z
  have e2 : libR (recT t) = some (t, []) := by have := is_libR hk []; rwa [List.append_nil] at this
  unfold parseD
  rw [e]
  dsimp only
  rw [if_pos rfl, e2]
/-- Anything else behind them. -/
theorem parse_more {t : KLib} (h : okL t = true) (x : List Nat) (hx : ¬ ∀ y ∈ x, y = 0) : parseD (joinB (recT t) ++ x) = (20, ([], []), 0) := by
  have hk := (okL_iff t).1 h
  have e : splitD (joinB (recT t) ++ x) = (4, [], 0) := by
    have e2 := sp_join _ (recM_ok hk) (recM_no4 hk) x ((joinB (recT t) ++ x).length + 1) (by
      rw [List.length_append]; have := joinB_len4 (recT t); rw [recT_m, List.length_append] at this; rw [recT_m]; omega)
    rw [← recT_m] at e2
    unfold splitD
    rw [e2, if_neg (by simp), if_neg]
    dsimp only
    rw [List.drop_left]
    exact hx
  unfold parseD
  rw [e]
  rfl
theorem first_mono {l x : List Nat} (h : (firstR l).1 = 0) : firstR (l ++ x) = firstR l := by
  rcases Nat.lt_or_ge l.length 2 with h2 | h2
  · rw [first_short h2] at h; cases h
  have hL : lenR (l ++ x) = lenR l := by
    unfold lenR
    simp only [List.getD_eq_getElem?_getD]
    rw [List.getElem?_append_left (by omega), List.getElem?_append_left (by omega)]
  by_cases hk : lenR l < 4 ∨ lenR l % 2 = 1
  · rw [first_form h2 hk] at h; cases h
  rcases Nat.lt_or_ge l.length (lenR l) with hm | hm
  · rw [first_less h2 hk hm] at h; cases h
  rw [first_ok h2 hk hm, first_ok (by rw [List.length_append]; omega) (by rw [hL]; exact hk) (by rw [hL, List.length_append]; omega), hL]
  have h4 : 4 ≤ lenR l := by omega
  simp only [List.getD_eq_getElem?_getD]
  rw [List.getElem?_append_left (by omega), List.getElem?_append_left (by omega), List.drop_append_of_le_length (by omega), List.take_append_of_le_length (by rw [List.length_drop]; omega)]
theorem sp_mono (f : Nat) : ∀ {l : List Nat} (x : List Nat) (g : Nat), f ≤ g → (spR f l).1 = 0 → spR g (l ++ x) = spR f l := by
  induction f with
  | zero => intro l x g _ h; cases h
  | succ f ih =>
    intro l x g hg h
    obtain ⟨g, rfl⟩ : ∃ k, g = k + 1 := ⟨g - 1, by omega⟩
    unfold spR at h
    conv => rhs; unfold spR
    conv => lhs; unfold spR
    by_cases h0 : (firstR l).1 = 0
    · have hn : ¬ (firstR l).1 ≠ 0 := by simpa using h0
      rw [first_mono h0, if_neg hn, if_neg hn]
      rw [if_neg hn] at h
      by_cases h4 : (firstR l).2.1.1 = 4
      · rw [if_pos h4, if_pos h4]
      · rw [if_neg h4] at h
        rw [if_neg h4, if_neg h4]
        have h1 : (spR f (l.drop (firstR l).2.2)).1 = 0 := by
          unfold catS at h
          split at h
          · rename_i h1; exact h1
          · rename_i h1; exact absurd h h1
        rw [List.drop_append_of_le_length (first_len l), ih x g (by omega) h1]
    · rw [if_pos h0] at h; exact absurd h h0
/-- A tree's bytes, cut off anywhere. -/
theorem parse_cut {t : KLib} (h : okL t = true) (c : Nat) (hc : c < (joinB (recT t)).length) : parseD ((joinB (recT t)).take c) = (20, ([], []), 0) := by
  have hk := (okL_iff t).1 h
  obtain ⟨L, hL⟩ : ∃ L, joinB (recT t) = L := ⟨_, rfl⟩
  rw [hL] at hc ⊢
  have e2 := sp_join _ (recM_ok hk) (recM_no4 hk) [] (L.length + 1) (by
      have := joinB_len4 (recT t); rw [hL, recT_m, List.length_append] at this; omega)
  rw [← recT_m, List.append_nil, hL] at e2
  have hle : (L.take c).length = c := by rw [List.length_take]; omega
  have hne : (splitD (L.take c)).1 ≠ 0 := by
    intro h0
    have h1 : (spR ((L.take c).length + 1) (L.take c)).1 = 0 := by
      unfold splitD at h0
      split at h0
      · exact h0
      · rename_i hn
        simpa using hn
    have h2 := sp_mono _ (L.drop c) (L.length + 1) (by omega) h1
    rw [List.take_append_drop, e2] at h2
    have h3 := sp_len ((L.take c).length + 1) (L.take c)
    rw [← h2] at h3
    dsimp only at h3
    omega
  unfold parseD
  rw [if_neg hne]
end Go.Proofs.Ytpkemijpggpdaaa
