/- Streams as trees: rows of pairs (items, cells); cells. -/
import Derived.Test.YtcioefmldcmhgaaGI
namespace Go.Proofs.Ytcioefmldcmhgaa
open Go.RowKit
set_option maxRecDepth 100000
set_option linter.unusedVariables false
set_option linter.unusedSimpArgs false

section
variable {α β : Type}
/-- A row of pairs: none, or a block of them. -/
def RowP (te : TypeId) (A : World → Value → α → Prop) (B : World → Value → β → Prop) (W : World) (v : Value) (xs : List (α × β)) : Prop :=
  (xs = [] ∧ v = .slice none 0 0) ∨ ∃ g cap cur, v = .slice (some ⟨g, 0, none⟩) xs.length cap ∧ W.heap[g]? = some (.cells cur te (0, 0)) ∧ xs.length ≤ cap ∧ cap ≤ 9223372036854775807 ∧
    ∀ i (h : i < xs.length), ∃ a b, cur[i * 2]? = some a ∧ cur[i * 2 + 1]? = some b ∧ A W a xs[i].1 ∧ B W b xs[i].2
/-- A row of pairs of the call's own. -/
def OwnP (te : TypeId) (A : World → Value → α → Prop) (B : World → Value → β → Prop) (W : World) (base : Nat) (v : Value) (xs : List (α × β)) : Prop :=
  ∃ ys : List Value, W.ownsRow base te 2 v xs.length ys ∧ (∀ u ∈ ys, u.oneCell' = true) ∧ ∀ i (h : i < xs.length), ∃ a b, ys[i * 2]? = some a ∧ ys[i * 2 + 1]? = some b ∧ A W a xs[i].1 ∧ B W b xs[i].2
variable {te : TypeId} {A : World → Value → α → Prop} {B : World → Value → β → Prop}
theorem OwnP.nil (W : World) (base : Nat) : OwnP te A B W base (.slice none 0 0) [] := ⟨[], ⟨by simp, Or.inl ⟨rfl, rfl⟩⟩, by simp, fun i h => by simp at h⟩
theorem OwnP.shape {W : World} {base : Nat} {v : Value} {xs : List (α × β)} (h : OwnP te A B W base v xs) : ∃ s c, v = .slice s xs.length c := by
  obtain ⟨ys, ⟨_, ⟨e, hn⟩ | ⟨g, cap, cur, rfl, _⟩⟩, _⟩ := h
  · exact ⟨none, 0, by rw [e, hn]⟩
  · exact ⟨_, _, rfl⟩
/-- It stands where nothing that it says has changed. -/
theorem OwnP.move {W W' : World} {base : Nat} {v : Value} {xs : List (α × β)} (h : OwnP te A B W base v xs) (ho : ∀ ys, W.ownsRow base te 2 v xs.length ys → W'.ownsRow base te 2 v xs.length ys) (hA : ∀ u x, A W u x → A W' u x) (hB : ∀ u x, B W u x → B W' u x) : OwnP te A B W' base v xs := by
  obtain ⟨ys, h1, h2, h3⟩ := h
  exact ⟨ys, ho ys h1, h2, fun i hi => by
    obtain ⟨a, b, e1, e2, e3, e4⟩ := h3 i hi
    exact ⟨a, b, e1, e2, hA _ _ e3, hB _ _ e4⟩⟩
theorem RowP.move {W W' : World} {v : Value} {xs : List (α × β)} (h : RowP te A B W v xs) (ho : ∀ (g : Nat) (cur : Array Value), W.heap[g]? = some (Obj.cells cur te (0, 0)) → W'.heap[g]? = some (Obj.cells cur te (0, 0))) (hA : ∀ u x, A W u x → A W' u x) (hB : ∀ u x, B W u x → B W' u x) : RowP te A B W' v xs :=
  h.imp id fun ⟨g, cap, cur, e, h1, h2, h3, h4⟩ => ⟨g, cap, cur, e, ho g cur h1, h2, h3, fun i hi => by
    obtain ⟨a, b, e1, e2, e3, e4⟩ := h4 i hi
    exact ⟨a, b, e1, e2, hA _ _ e3, hB _ _ e4⟩⟩
theorem RowP.shape {W : World} {v : Value} {xs : List (α × β)} (h : RowP te A B W v xs) : ∃ s c, v = .slice s xs.length c ∧ (s = none → xs.length = 0 ∧ c = 0) ∧ xs.length ≤ c ∧ c ≤ 9223372036854775807 := by
  rcases h with ⟨rfl, rfl⟩ | ⟨g, cap, cur, rfl, _, h1, h2, _⟩
  · exact ⟨_, _, rfl, fun _ => ⟨rfl, rfl⟩, Nat.le_refl _, by omega⟩
  · exact ⟨_, _, rfl, (fun e => by cases e), h1, h2⟩
theorem OwnP.row {W : World} {base : Nat} {v : Value} {xs : List (α × β)} (h : OwnP te A B W base v xs) : RowP te A B W v xs := by
  obtain ⟨ys, ⟨h0, ⟨e, hn⟩ | ⟨g, cap, cur, e, hg', hb, hc1, hc2, hsz, htk⟩⟩, h2, h3⟩ := h
  · exact Or.inl ⟨List.length_eq_zero_iff.1 hn, e⟩
  · refine Or.inr ⟨g, cap, cur, e, hb, hc1, by unfold maxLen at hc2; omega, fun i hi => ?_⟩
    obtain ⟨a, b, e1, e2, e3⟩ := h3 i hi
    have up : ∀ j u, ys[j]? = some u → cur[j]? = some u := fun j u hj => by
      rw [← htk, List.getElem?_take] at hj
      split at hj
      · simpa using hj
      · cases hj
    exact ⟨a, b, up _ _ e1, up _ _ e2, e3⟩
/-- One pair more. -/
theorem OwnP.snoc {W W' : World} {base n : Nat} {v' : Value} {ys : List Value} {xs : List (α × β)} {x : α} {y : β} {a b : Value} (hys : ys.length = xs.length * 2) (h1 : ∀ u ∈ ys, u.oneCell' = true) (ha : a.oneCell' = true) (hb : b.oneCell' = true)
    (h3 : ∀ i (h : i < xs.length), ∃ a b, ys[i * 2]? = some a ∧ ys[i * 2 + 1]? = some b ∧ A W a xs[i].1 ∧ B W b xs[i].2) (hn : xs.length + 1 = n)
    (hown : W'.ownsRow base te 2 v' n (ys ++ [a, b])) (hA : ∀ u x, A W u x → A W' u x) (hB : ∀ u x, B W u x → B W' u x) (hx : A W a x) (hy : B W b y) : OwnP te A B W' base v' (xs ++ [(x, y)]) := by
  refine ⟨ys ++ [a, b], by rw [List.length_append]; subst hn; exact hown, ?_, fun i hi => ?_⟩
  · intro u hu
    rcases List.mem_append.1 hu with hu | hu
    · exact h1 u hu
    · simp at hu
      rcases hu with rfl | rfl
      · exact ha
      · exact hb
  · rw [List.length_append] at hi
    simp at hi
    rcases Nat.lt_or_ge i xs.length with hlt | hge
    · obtain ⟨c, d, e1, e2, e3, e4⟩ := h3 i hlt
      rw [List.getElem_append_left hlt]
      exact ⟨c, d, by rw [List.getElem?_append_left (by omega)]; exact e1, by rw [List.getElem?_append_left (by omega)]; exact e2, hA _ _ e3, hB _ _ e4⟩
    · obtain rfl : i = xs.length := by omega
      refine ⟨a, b, by rw [List.getElem?_append_right (by omega), hys]; simp, by rw [List.getElem?_append_right (by omega), hys]; simp, ?_, ?_⟩
      · simpa using hA _ _ hx
      · simpa using hB _ _ hy
end
theorem own_offT {W W' : World} {base n size q : Nat} {e : TypeId} {v : Value} {xs : List Value} {cs : Array Value} {t : TypeId} {fz : Nat × Nat} (h : W.ownsRow base e size v n xs) (hg : W.grownBy W' (some q)) (hq : W.heap[q]? = some (.cells cs t fz)) (ht : t ≠ e) : W'.ownsRow base e size v n xs := by
  obtain ⟨h1, h2 | ⟨g, cap', cur, e', hg', hb, hr⟩⟩ := h
  · exact ⟨h1, Or.inl h2⟩
  · exact ⟨h1, Or.inr ⟨g, cap', cur, e', hg', heap_off hg hb (fun e => by cases e; rw [hb] at hq; cases hq; exact ht rfl), hr⟩⟩
/-- A row of records where a row of another type was written. -/
theorem RowT.own {w0 W W' : World} {base n size : Nat} {e : TypeId} {v u : Value} {xs : List Value} {rs : List KRec} (h : RowT w0 W u rs) (ho : W.ownsRow base e size v n xs) (hg : W.grownBy W' v.ownBlock) (h1 : e ≠ 5) (h2 : e ≠ 45) : RowT w0 W' u rs := by
  obtain ⟨_, ⟨e', _⟩ | ⟨g, cap', cur, e', hg', hb, hr⟩⟩ := ho
  · subst e'; exact h.kept hg
  · subst e'; exact h.off hg hb h1 h2
abbrev ItemsT (w0 : World) : World → Value → List KItem → Prop := RowP 55 (RowT w0) (RowT w0)
abbrev OwnIt (w0 : World) : World → Nat → Value → List KItem → Prop := OwnP 55 (RowT w0) (RowT w0)
theorem info_partsI : ∃ i, Try.prog.info? 55 = some i ∧ i.zero = some (.agg #[.slice none 0 0, .slice none 0 0]) ∧ i.size = 2 ∧ i.bytes = 48 := by
  have h : (Try.prog.info? 55).map (fun i => (i.zero, i.size, i.bytes)) = some (some (.agg #[.slice none 0 0, .slice none 0 0]), 2, 48) := by kernel_rfl
  obtain ⟨i, hi, he⟩ := Option.map_eq_some_iff.1 h
  exact ⟨i, hi, congrArg Prod.fst he, congrArg (fun x => x.2.1) he, congrArg (fun x => x.2.2) he⟩
theorem info_partsC : ∃ i, Try.prog.info? 50 = some i ∧ i.zero = some (.agg #[.slice none 0 0, .slice none 0 0]) ∧ i.size = 2 ∧ i.bytes = 48 := by
  have h : (Try.prog.info? 50).map (fun i => (i.zero, i.size, i.bytes)) = some (some (.agg #[.slice none 0 0, .slice none 0 0]), 2, 48) := by kernel_rfl
  obtain ⟨i, hi, he⟩ := Option.map_eq_some_iff.1 h
  exact ⟨i, hi, congrArg Prod.fst he, congrArg (fun x => x.2.1) he, congrArg (fun x => x.2.2) he⟩
/-- Items behind items. -/
def catI {α : Type} (xs : List α) (o : Option (List α × List KRec)) : Option (List α × List KRec) := o.map fun y => (xs ++ y.1, y.2)
theorem catI_nil {α : Type} (o : Option (List α × List KRec)) : catI [] o = o := by cases o <;> rfl
theorem items_stop {f : Nat} {m t : List KRec} (h : tkR 7 m = some (some t)) : itemsR (f + 1) m = some ([], t) := by simp [itemsR, h]
theorem items_misfit {f : Nat} {m : List KRec} (h : tkR 7 m = none) : itemsR (f + 1) m = none := by simp [itemsR, h]
theorem items_bad {f : Nat} {m : List KRec} (h : tkR 7 m = some none) (h2 : itemR m = none) : itemsR (f + 1) m = none := by simp [itemsR, h, h2]
theorem items_more {f : Nat} {m t : List KRec} {x : KItem} (xs : List KItem) (h : tkR 7 m = some none) (h2 : itemR m = some (x, t)) : catI xs (itemsR (f + 1) m) = catI (xs ++ [x]) (itemsR f t) := by
  simp only [itemsR, h, h2]
  cases itemsR f t with
  | none => rfl
  | some y => simp [catI]
theorem item_len {m t : List KRec} {x : KItem} (h : itemR m = some (x, t)) : t.length < m.length := by
  obtain ⟨_, rfl⟩ := item_is h
  have := recI_len x
  rw [List.length_append]; omega
/-- What cell answers. -/
def RetCell (c : Lst) (g : Nat) (w : World) (x : Option (KCell × List KRec)) (e : Ending) (w' : World) : Prop :=
  (x = none ∧ e = mis ∧ w.grownBy w' (some g)) ∨ (∃ y t a b, x = some (y, t) ∧ e = .returned (.agg #[a, b]) ∧ RowT c.w0 w' a y.1 ∧ ItemsT c.w0 w' b y.2 ∧ w.grownBy w' (some g) ∧ Ps c g w' t)
theorem cell_1 {F : Nat} {l : List KRec} (h : run titleRu l = none) : cellR F l = none := by unfold cellR; rw [h]
theorem cell_2 {F : Nat} {l t : List KRec} (h : run titleRu l = some t) : cellR F l = (itemsR F t).map fun y => ((cutL l t, y.1), y.2) := by
  unfold cellR; simp only [h]
  cases itemsR F t <;> rfl
end Go.Proofs.Ytcioefmldcmhgaa
