/- Streams as trees: the mathematics: libraries. -/
import Derived.Test.YtcioefmldcmhgaaGM
namespace Go.Proofs.Ytcioefmldcmhgaa
open Go.RowKit
set_option maxRecDepth 100000
set_option linter.unusedVariables false
set_option linter.unusedSimpArgs false

abbrev KItem := List KRec × List KRec
abbrev KCell := List KRec × List KItem
abbrev KLib := List KRec × List KCell
def musts : List Nat → Ru
  | [] => .nop
  | k :: ks => .seq (.one k) (musts ks)
def mays : List Nat → Ru
  | [] => .nop
  | k :: ks => .seq (.opt k) (mays ks)
def transRu : Ru := .tk 26 (mays [27, 28]) .nop
def drawnRu (k : Nat) : Ru := .seq (mays [38, 47]) (musts [13, k])
def referredRu : Ru := .seq (mays [38, 47]) (.seq (musts [18]) transRu)
def headRu : Ru := .seq (musts [0, 1]) (.seq (mays [57, 58, 59]) (.seq (musts [2]) (.seq (mays [31, 32, 35, 34]) (.seq (.tk 54 (.tk 55 (.seq (.many 55) (musts [56])) .nop) .nop) (musts [3])))))
def titleRu : Ru := .seq (musts [5, 6]) (mays [52])
def elementRu : Ru :=
  .tk 8 (.seq (drawnRu 14) (musts [16]))
  (.tk 9 (.seq (drawnRu 14) (.seq (mays [33, 15, 48, 49]) (musts [16])))
  (.tk 10 (.seq referredRu (musts [16]))
  (.tk 11 (.seq referredRu (musts [19, 16]))
  (.tk 12 (.seq (drawnRu 22) (.seq (mays [23, 33, 15]) (.seq transRu (musts [16, 25]))))
  (.tk 21 (.seq (drawnRu 42) (musts [16]))
  (.tk 45 (.seq (drawnRu 46) (musts [16])) .bad))))))
def cutL (l m : List KRec) : List KRec := l.take (l.length - m.length)
theorem cutL_app (p m : List KRec) : cutL (p ++ m) m = p := by unfold cutL; rw [List.length_append, Nat.add_sub_cancel, List.take_left]
def endE (k : Nat) : KRec := (k, 0, [])
theorem end_eq {r : KRec} (hk : r.1 = 17 ∨ r.1 = 7 ∨ r.1 = 4) (h : rt r = true) : r = endE r.1 := by
  obtain ⟨k, d, b⟩ := r
  dsimp only at hk
  have hf : frm k = some (0, 0, 0, 0) := by rcases hk with rfl | rfl | rfl <;> rfl
  unfold rt at h
  rw [frm_some hf] at h
  simp [fitsB] at h
  obtain ⟨rfl, rfl, _⟩ := h
  rfl
theorem rt_end {k : Nat} (hk : k = 17 ∨ k = 7 ∨ k = 4) : rt (endE k) = true := by rcases hk with rfl | rfl | rfl <;> decide +kernel
theorem one_end {k : Nat} (hk : k = 17 ∨ k = 7 ∨ k = 4) {l m : List KRec} (h : run (.one k) l = some m) : l = endE k :: m := by
  simp only [run] at h
  split at h
  · rename_i t ht
    obtain ⟨r, rfl, rfl, h2⟩ := tk_some ht
    cases h
    conv => lhs; rw [end_eq hk h2]
  · cases h
theorem end_one {k : Nat} (hk : k = 17 ∨ k = 7 ∨ k = 4) (m : List KRec) : run (.one k) (endE k :: m) = some m := by
  have h : tkR k (endE k :: m) = some (some m) := tk_yes (r := endE k) (t := m) (rt_end hk)
  simp only [run, h]
def itemR (l : List KRec) : Option (KItem × List KRec) :=
  match run elementRu l with
  | none => none
  | some l1 => match run .props l1 with
    | none => none
    | some l2 => match run (.one 17) l2 with
      | none => none
      | some l3 => some ((cutL l l1, cutL l1 l2), l3)
def itemsR : Nat → List KRec → Option (List KItem × List KRec)
  | 0, _ => none
  | f + 1, l => match tkR 7 l with
    | none => none
    | some (some t) => some ([], t)
    | some none => match itemR l with
      | none => none
      | some (x, m) => match itemsR f m with
        | none => none
        | some (xs, o) => some (x :: xs, o)
def cellR (f : Nat) (l : List KRec) : Option (KCell × List KRec) :=
  match run titleRu l with
  | none => none
  | some l1 => match itemsR f l1 with
    | none => none
    | some (xs, l2) => some ((cutL l l1, xs), l2)
def sees (k : Nat) (l : List KRec) : Bool := match l with | [] => false | r :: _ => decide (r.1 = k)
def cellsR (F : Nat) : Nat → List KRec → Option (List KCell × List KRec)
  | 0, _ => none
  | f + 1, l => if sees 5 l = true then (match cellR F l with
      | none => none
      | some (x, m) => match cellsR F f m with
        | none => none
        | some (xs, o) => some (x :: xs, o))
    else some ([], l)
def libF (F : Nat) (l : List KRec) : Option (KLib × List KRec) :=
  match run headRu l with
  | none => none
  | some l1 => match cellsR F F l1 with
    | none => none
    | some (xs, l2) => match run (.one 4) l2 with
      | none => none
      | some l3 => some ((cutL l l1, xs), l3)
def libR (l : List KRec) : Option (KLib × List KRec) := libF (l.length + 1) l
def IsItem (x : KItem) : Prop := run elementRu x.1 = some [] ∧ run .props x.2 = some []
def IsCell (c : KCell) : Prop := run titleRu c.1 = some [] ∧ ∀ x ∈ c.2, IsItem x
def IsLib (t : KLib) : Prop := run headRu t.1 = some [] ∧ ∀ c ∈ t.2, IsCell c
def recI (x : KItem) : List KRec := x.1 ++ (x.2 ++ [endE 17])
def recC (c : KCell) : List KRec := c.1 ++ (c.2.flatMap recI ++ [endE 7])
def recT (t : KLib) : List KRec := t.1 ++ (t.2.flatMap recC ++ [endE 4])
theorem item_is {l m : List KRec} {x : KItem} (h : itemR l = some (x, m)) : IsItem x ∧ l = recI x ++ m := by
  unfold itemR at h
  split at h
  · cases h
  rename_i l1 h1
  split at h
  · cases h
  rename_i l2 h2
  split at h
  · cases h
  rename_i l3 h3
  cases h
  obtain ⟨p, rfl, hp⟩ := run_pre h1
  obtain ⟨q, rfl, hq⟩ := run_pre h2
  have := one_end (Or.inl rfl) h3
  subst this
  rw [cutL_app, cutL_app]
  exact ⟨⟨hp, hq⟩, by simp [recI]⟩
theorem off_end {k : Nat} {ks : List Nat} (h : k ∉ ks) (m : List KRec) : Off ks (endE k :: m) := fun r t e => by cases e; exact h
theorem props_first {l m : List KRec} (h : run .props l = some m) : Off [43] m := by
  have key : ∀ (n : Nat) (l m : List KRec), l.length ≤ n → propsR l = some m → Off [43] m := by
    intro n
    induction n with
    | zero =>
      intro l m hn h
      have : l = [] := List.length_eq_zero_iff.1 (by omega)
      subst this
      simp [propsR] at h; subst h; exact Off.nil _
    | succ n ih =>
      intro l m hn h
      match l, hn, h with
      | [], _, h => simp [propsR] at h; subst h; exact Off.nil _
      | [r], _, h =>
        simp only [propsR] at h
        split at h
        · cases h
        · cases h; rename_i h1; intro r' t e hm; cases e; simp at hm; exact h1 hm
      | r :: v :: t, hn, h =>
        simp only [propsR] at h
        split at h
        · split at h
          · exact ih t m (by simp at hn; omega) h
          · cases h
        · cases h; rename_i h1; intro r' t e hm; cases e; simp at hm; exact h1 hm
  exact key _ l m (Nat.le_refl _) h
theorem props_off {p : List KRec} (h : run .props p = some []) {ks : List Nat} (h43 : 43 ∉ ks) {x : List KRec} (hx : Off ks x) : Off ks (p ++ x) := by
  match p, h with
  | [], _ => exact hx
  | [r], h =>
    simp only [run, propsR] at h
    split at h <;> cases h
  | r :: v :: t, h =>
    simp only [run, propsR] at h
    split at h
    · rename_i h1
      intro r' t e hm; cases e; rw [h1] at hm; exact h43 hm
    · cases h
theorem is_item {x : KItem} (h : IsItem x) (m : List KRec) : itemR (recI x ++ m) = some (x, m) := by
  obtain ⟨h1, h2⟩ := h
  have e : recI x ++ m = x.1 ++ (x.2 ++ endE 17 :: m) := by simp [recI]
  have a1 : run elementRu (x.1 ++ (x.2 ++ endE 17 :: m)) = some (x.2 ++ endE 17 :: m) := run_app _ h1 (props_off h2 (by decide) (off_end (by decide) m))
  have a2 : run .props (x.2 ++ endE 17 :: m) = some (endE 17 :: m) := run_app _ h2 (off_end (by decide) m)
  unfold itemR
  rw [e, a1]
  simp only [a2, end_one (Or.inl rfl), cutL_app]
theorem tk_end {k : Nat} (hk : k = 17 ∨ k = 7 ∨ k = 4) {l m : List KRec} (h : tkR k l = some (some m)) : l = endE k :: m := one_end hk (by simp [run, h])
theorem items_is : ∀ (f : Nat) {l m : List KRec} {xs : List KItem}, itemsR f l = some (xs, m) → (∀ x ∈ xs, IsItem x) ∧ l = xs.flatMap recI ++ endE 7 :: m := by
  intro f
  induction f with
  | zero => intro l m xs h; cases h
  | succ f ih =>
    intro l m xs h
    simp only [itemsR] at h
    split at h
    · cases h
    · rename_i t ht
      cases h
      exact ⟨fun x hx => by simp at hx, tk_end (Or.inr (Or.inl rfl)) ht⟩
    · rename_i ht
      split at h
      · cases h
      rename_i x m1 hx
      split at h
      · cases h
      rename_i ys o hys
      cases h
      obtain ⟨h1, rfl⟩ := item_is hx
      obtain ⟨h2, rfl⟩ := ih hys
      exact ⟨fun y hy => by rcases List.mem_cons.1 hy with rfl | hy; exact h1; exact h2 y hy, by simp⟩
theorem tk_off {k : Nat} {l : List KRec} (h : Off [k] l) : tkR k l = some none := by
  cases l with
  | nil => rfl
  | cons r t => have := h r t rfl; simp at this; simp [tkR, this]
theorem element_first {p : List KRec} (h : run elementRu p = some []) : ∃ r t, p = r :: t ∧ (r.1 = 8 ∨ r.1 = 9 ∨ r.1 = 10 ∨ r.1 = 11 ∨ r.1 = 12 ∨ r.1 = 21 ∨ r.1 = 45) := by
  cases p with
  | nil => simp [elementRu, run, tkR] at h
  | cons r t =>
    refine ⟨r, t, rfl, ?_⟩
    simp only [elementRu, run, tkR] at h
    by_cases h8 : r.1 = 8
    · omega
    by_cases h9 : r.1 = 9
    · omega
    by_cases h10 : r.1 = 10
    · omega
    by_cases h11 : r.1 = 11
    · omega
    by_cases h12 : r.1 = 12
    · omega
    by_cases h21 : r.1 = 21
    · omega
    by_cases h45 : r.1 = 45
    · omega
    simp [h8, h9, h10, h11, h12, h21, h45] at h
theorem item_off {x : KItem} (h : IsItem x) {ks : List Nat} (hk : ∀ k ∈ [8, 9, 10, 11, 12, 21, 45], k ∉ ks) (m : List KRec) : Off ks (recI x ++ m) := by
  obtain ⟨r, t, e, hr⟩ := element_first h.1
  intro r' t' e' hm
  rw [recI, e] at e'
  cases e'
  exact hk r.1 (by simp; omega) hm
theorem is_items {xs : List KItem} (h : ∀ x ∈ xs, IsItem x) (m : List KRec) : ∀ f, xs.length < f → itemsR f (xs.flatMap recI ++ endE 7 :: m) = some (xs, m) := by
  induction xs with
  | nil =>
    intro f hf
    obtain ⟨f, rfl⟩ : ∃ g, f = g + 1 := ⟨f - 1, by simp at hf; omega⟩
    have : tkR 7 (endE 7 :: m) = some (some m) := tk_yes (rt_end (Or.inr (Or.inl rfl)))
    simp [itemsR, this]
  | cons x xs ih =>
    intro f hf
    obtain ⟨f, rfl⟩ : ∃ g, f = g + 1 := ⟨f - 1, by simp at hf; omega⟩
    have hx := h x (by simp)
    have e : (x :: xs).flatMap recI ++ endE 7 :: m = recI x ++ (xs.flatMap recI ++ endE 7 :: m) := by simp
    rw [e]
    simp only [itemsR, tk_off (item_off hx (ks := [7]) (by decide) _), is_item hx, ih (fun y hy => h y (by simp [hy])) f (by simp at hf; omega)]
theorem cell_is {f : Nat} {l m : List KRec} {c : KCell} (h : cellR f l = some (c, m)) : IsCell c ∧ l = recC c ++ m := by
  unfold cellR at h
  split at h
  · cases h
  rename_i l1 h1
  split at h
  · cases h
  rename_i xs l2 h2
  cases h
  obtain ⟨p, rfl, hp⟩ := run_pre h1
  obtain ⟨h3, rfl⟩ := items_is _ h2
  rw [cutL_app]
  exact ⟨⟨hp, h3⟩, by simp [recC]⟩
theorem items_off {xs : List KItem} (h : ∀ x ∈ xs, IsItem x) {ks : List Nat} (hk : ∀ k ∈ [8, 9, 10, 11, 12, 21, 45], k ∉ ks) (h7 : 7 ∉ ks) (m : List KRec) : Off ks (xs.flatMap recI ++ endE 7 :: m) := by
  cases xs with
  | nil => exact off_end h7 m
  | cons x xs =>
    have e : (x :: xs).flatMap recI ++ endE 7 :: m = recI x ++ (xs.flatMap recI ++ endE 7 :: m) := by simp
    rw [e]
    exact item_off (h x (by simp)) hk _
theorem is_cell {c : KCell} (h : IsCell c) (m : List KRec) (f : Nat) (hf : c.2.length < f) : cellR f (recC c ++ m) = some (c, m) := by
  obtain ⟨h1, h2⟩ := h
  have e : recC c ++ m = c.1 ++ (c.2.flatMap recI ++ endE 7 :: m) := by simp [recC]
  have a1 : run titleRu (c.1 ++ (c.2.flatMap recI ++ endE 7 :: m)) = some (c.2.flatMap recI ++ endE 7 :: m) := run_app _ h1 (items_off h2 (by decide) (by decide) m)
  unfold cellR
  rw [e, a1]
  simp only [is_items h2 m f hf, cutL_app]
theorem title_first {p : List KRec} (h : run titleRu p = some []) : ∃ r t, p = r :: t ∧ r.1 = 5 := by
  cases p with
  | nil => simp [titleRu, musts, run, tkR] at h
  | cons r t =>
    refine ⟨r, t, rfl, ?_⟩
    simp only [titleRu, musts, run, tkR] at h
    by_cases h5 : r.1 = 5
    · exact h5
    simp [h5] at h
theorem cells_is {F : Nat} : ∀ (f : Nat) {l m : List KRec} {xs : List KCell}, cellsR F f l = some (xs, m) → (∀ x ∈ xs, IsCell x) ∧ l = xs.flatMap recC ++ m := by
  intro f
  induction f with
  | zero => intro l m xs h; cases h
  | succ f ih =>
    intro l m xs h
    simp only [cellsR] at h
    split at h
    · split at h
      · cases h
      rename_i x m1 hx
      split at h
      · cases h
      rename_i ys o hys
      cases h
      obtain ⟨h1, rfl⟩ := cell_is hx
      obtain ⟨h2, rfl⟩ := ih hys
      exact ⟨fun y hy => by rcases List.mem_cons.1 hy with rfl | hy; exact h1; exact h2 y hy, by simp⟩
    · cases h
      exact ⟨fun x hx => by simp at hx, rfl⟩
theorem is_cells {F : Nat} {xs : List KCell} (h : ∀ x ∈ xs, IsCell x) (hF : ∀ x ∈ xs, x.2.length < F) (m : List KRec) (hm : sees 5 m = false) : ∀ f, xs.length < f → cellsR F f (xs.flatMap recC ++ m) = some (xs, m) := by
  induction xs with
  | nil =>
    intro f hf
    obtain ⟨f, rfl⟩ : ∃ g, f = g + 1 := ⟨f - 1, by simp at hf; omega⟩
    simp [cellsR, hm]
  | cons x xs ih =>
    intro f hf
    obtain ⟨f, rfl⟩ : ∃ g, f = g + 1 := ⟨f - 1, by simp at hf; omega⟩
    have hx := h x (by simp)
    have e : (x :: xs).flatMap recC ++ m = recC x ++ (xs.flatMap recC ++ m) := by simp
    have hs : sees 5 (recC x ++ (xs.flatMap recC ++ m)) = true := by
      obtain ⟨r, t, e, hr⟩ := title_first hx.1
      rw [recC, e]; simp [sees, hr]
    rw [e]
    simp only [cellsR, hs, if_true, is_cell hx _ F (hF x (by simp)), ih (fun y hy => h y (by simp [hy])) (fun y hy => hF y (by simp [hy])) f (by simp at hf; omega)]
theorem lib_is {F : Nat} {l m : List KRec} {t : KLib} (h : libF F l = some (t, m)) : IsLib t ∧ l = recT t ++ m := by
  unfold libF at h
  split at h
  · cases h
  rename_i l1 h1
  split at h
  · cases h
  rename_i xs l2 h2
  split at h
  · cases h
  rename_i l3 h3
  cases h
  obtain ⟨p, rfl, hp⟩ := run_pre h1
  obtain ⟨h4, rfl⟩ := cells_is _ h2
  have := one_end (Or.inr (Or.inr rfl)) h3
  subst this
  rw [cutL_app]
  exact ⟨⟨hp, h4⟩, by simp [recT]⟩
theorem flat_len {α : Type} {f : α → List KRec} (h : ∀ x, 1 ≤ (f x).length) (xs : List α) : xs.length ≤ (xs.flatMap f).length := by
  induction xs with
  | nil => simp
  | cons x xs ih => have := h x; rw [List.flatMap_cons, List.length_append, List.length_cons]; omega
theorem flat_mem {α : Type} {f : α → List KRec} {xs : List α} {x : α} (h : x ∈ xs) : (f x).length ≤ (xs.flatMap f).length := by
  induction xs with
  | nil => cases h
  | cons y xs ih =>
    rcases List.mem_cons.1 h with rfl | h
    · rw [List.flatMap_cons, List.length_append]; omega
    · have := ih h; rw [List.flatMap_cons, List.length_append]; omega
theorem recI_len (x : KItem) : 1 ≤ (recI x).length := by simp [recI]; omega
theorem recC_len (x : KCell) : x.2.length + 1 ≤ (recC x).length := by
  have := flat_len recI_len x.2
  simp [recC] at *; omega
theorem is_lib {F : Nat} {t : KLib} (h : IsLib t) (m : List KRec) (hF : (recT t).length < F) : libF F (recT t ++ m) = some (t, m) := by
  obtain ⟨h1, h2⟩ := h
  have e : recT t ++ m = t.1 ++ (t.2.flatMap recC ++ endE 4 :: m) := by simp [recT]
  have ho : Off (ends headRu) (t.2.flatMap recC ++ endE 4 :: m) := by
    cases ht : t.2 with
    | nil => exact off_end (by decide) m
    | cons c cs =>
      obtain ⟨r, s, e, hr⟩ := title_first (h2 c (by simp [ht])).1
      intro r' t' e' hm
      simp [recC, e] at e'
      rw [← e'.1, hr] at hm
      exact absurd hm (by decide)
  have hl : (recT t).length = t.1.length + (t.2.flatMap recC).length + 1 := by simp [recT]; omega
  have hc := flat_len (f := recC) (fun x => by have := recC_len x; omega) t.2
  have a1 := run_app _ h1 ho
  have a2 := is_cells (F := F) h2 (fun x hx => by have := recC_len x; have := flat_mem (f := recC) hx; omega) (endE 4 :: m) rfl F (by omega)
  unfold libF
  rw [e]
  simp only [List.nil_append] at a1
  simp only [a1, a2, end_one (Or.inr (Or.inr rfl)), cutL_app]
theorem libR_is {l m : List KRec} {t : KLib} (h : libR l = some (t, m)) : IsLib t ∧ l = recT t ++ m := lib_is h
theorem is_libR {t : KLib} (h : IsLib t) (m : List KRec) : libR (recT t ++ m) = some (t, m) := is_lib h m (by rw [List.length_append]; omega)
end Go.Proofs.Ytcioefmldcmhgaa
