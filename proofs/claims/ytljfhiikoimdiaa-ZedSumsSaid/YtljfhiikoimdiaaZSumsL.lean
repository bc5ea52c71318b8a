/- ZedSums: the sum of any number of parts is the document's. -/
import Derived.Test.YtljfhiikoimdiaaZLaw
import Derived.Test.YtljfhiikoimdiaaZSum
import Derived.Deep.RegionHeld3
import Derived.Deep.LoopGhost
import Derived.Deep.CutRange
import Derived.Deep.AppendLies
import Derived.Laws.AppendOwnNone
import Derived.BigRegion
namespace Go.Proofs.Ytljfhiikoimdiaa
open Go.RowKit Mat
set_option maxRecDepth 100000
set_option linter.unusedVariables false
set_option linter.unusedSimpArgs false

theorem info_partsZ : ∃ i, Try.prog.info? 26 = some i ∧ i.zero = some (.agg #[.slice none 0 0, .bool false]) ∧ i.size = 2 ∧ i.bytes = 32 := by
  have h : (Try.prog.info? 26).map (fun i => (i.zero, i.size, i.bytes)) = some (some (.agg #[.slice none 0 0, .bool false]), 2, 32) := by kernel_rfl
  obtain ⟨i, hi, he⟩ := Option.map_eq_some_iff.1 h
  exact ⟨i, hi, congrArg Prod.fst he, congrArg (fun x => x.2.1) he, congrArg (fun x => x.2.2) he⟩
theorem ownsZ_kept {W W' : World} {base : Nat} {v : Value} {n : Nat} {xs : List Value} (h : W.ownsRow base 26 2 v n xs) (hg : W.grownBy W' none) : W'.ownsRow base 26 2 v n xs := by
  obtain ⟨h1, h2 | ⟨g, cap', cur, e, hg', hb, hr⟩⟩ := h
  · exact ⟨h1, Or.inl h2⟩
  · exact ⟨h1, Or.inr ⟨g, cap', cur, e, hg', heap_kept hg hb, hr⟩⟩
/-- A block of another type, or another block, is as it was where a row of the call's own has grown. -/
theorem heap_own {W W' : World} {base n : Nat} {v : Value} {xs : List Value} (h : W.ownsRow base 26 2 v n xs) (hg : W.grownBy W' v.ownBlock) {k : Nat} {o : Obj} (hk : W.heap[k]? = some o) (hn : v.ownBlock ≠ some k) : W'.heap[k]? = some o := by
  obtain ⟨h1, ⟨e, _⟩ | ⟨g, cap', cur, e, hg', hb, hr⟩⟩ := h
  · subst e; exact heap_kept hg hk
  · subst e; exact heap_row (g := g) hg hk (fun e => hn (by rw [e]; rfl))
theorem own_type {W : World} {base n k : Nat} {v : Value} {xs : List Value} {cs : Array Value} {t : TypeId} {fz : Nat × Nat} (h : W.ownsRow base 26 2 v n xs) (hk : W.heap[k]? = some (.cells cs t fz)) (ht : t ≠ 26) : v.ownBlock ≠ some k := by
  obtain ⟨h1, ⟨e, _⟩ | ⟨g, cap', cur, e, hg', hb, hr⟩⟩ := h
  · subst e; intro e; cases e
  · subst e; intro e
    have e2 : g = k := Option.some.inj e
    subst e2
    rw [hb] at hk; cases hk; exact ht rfl
theorem IntV.own {W W' : World} {base n : Nat} {v u : Value} {z : Int} {xs : List Value} (h : IntV W u z) (ho : W.ownsRow base 26 2 v n xs) (hg : W.grownBy W' v.ownBlock) : IntV W' u z := by
  obtain ⟨s, ys, b, e, hl, h2⟩ := h
  refine ⟨s, ys, b, e, ⟨?_, hl.nil, hl.top, hl.dig⟩, h2⟩
  rcases hl.rd with h | ⟨c, off, cs, e, hb, ha⟩
  · exact Or.inl h
  · exact Or.inr ⟨c, off, cs, e, heap_own ho hg hb (own_type ho hb (by decide)), ha⟩
theorem RIntV.own {W W' : World} {base n : Nat} {v u : Value} {z : Int} {xs : List Value} (h : RIntV W u z) (ho : W.ownsRow base 26 2 v n xs) (hg : W.grownBy W' v.ownBlock) : RIntV W' u z := by
  obtain ⟨g, s, l, c, e, h1, h2⟩ := h
  refine ⟨g, s, l, c, e, h1, ?_⟩
  obtain ⟨s', k, cap, ys, e, a1, a2, a3, a4⟩ := h2
  refine ⟨s', k, cap, ys, e, a1, a2, ?_, a4⟩
  rcases a3 with h | ⟨b, off, cs, e, hb, ha⟩
  · exact Or.inl h
  · exact Or.inr ⟨b, off, cs, e, heap_own ho hg hb (own_type ho hb (by decide)), ha⟩
theorem grown_own {w W W' : World} {base n : Nat} {v : Value} {xs : List Value} (hw : w.grownBy W none) (ho : W.ownsRow base 26 2 v n xs) (hg : W.grownBy W' v.ownBlock) (hb : w.heap.size ≤ base) : w.grownBy W' none := by
  obtain ⟨h1, ⟨e, _⟩ | ⟨g, cap', cur, e, hg', hb', hr⟩⟩ := ho
  · subst e; exact grown_trans hw hg
  · subst e; exact grown_new (g := g) hw hg (by omega)
/-- A row of the call's own that reads as these numbers. -/
def OwnI (W : World) (base : Nat) (v : Value) (n : Nat) (zs : List Int) : Prop :=
  ∃ xs : List Value, W.ownsRow base 26 2 v n xs ∧ zs.length = n ∧ (∀ u ∈ xs, u.oneCell' = true) ∧ ∀ i (h : i < zs.length), ∃ u0 u1, xs[i * 2]? = some u0 ∧ xs[i * 2 + 1]? = some u1 ∧ IntV W (.agg #[u0, u1]) zs[i]
theorem OwnI.kept {W W' : World} {base n : Nat} {v : Value} {zs : List Int} (h : OwnI W base v n zs) (hg : W.grownBy W' none) : OwnI W' base v n zs := by
  obtain ⟨xs, h1, h2, h3, h4⟩ := h
  refine ⟨xs, ownsZ_kept h1 hg, h2, h3, fun i h => ?_⟩
  obtain ⟨u0, u1, a1, a2, a3⟩ := h4 i h
  exact ⟨u0, u1, a1, a2, a3.kept hg⟩
theorem OwnI.nil (W : World) (base : Nat) : OwnI W base (.slice none 0 0) 0 [] := ⟨[], ⟨rfl, Or.inl ⟨rfl, rfl⟩⟩, rfl, by intro u h; simp at h, fun i h => by simp at h⟩
theorem OwnI.isl {W : World} {base n cap : Nat} {s : Option Addr} {zs : List Int} (h : OwnI W base (.slice s n cap) n zs) : ISl W s n zs := by
  obtain ⟨xs, ⟨h0, h1⟩, h2, h3, h4⟩ := h
  refine ⟨h2, ?_⟩
  rcases h1 with ⟨e, e2⟩ | ⟨g, cap', cur, e, hg, hb, hc, hm, hs, ht⟩
  · exact Or.inl e2
  · cases e
    refine Or.inr ⟨g, cur, rfl, hb, fun i h => ?_⟩
    obtain ⟨u0, u1, a1, a2, a3⟩ := h4 i h
    have f : ∀ j, j < n * 2 → cur[j]? = xs[j]? := fun j hj => by rw [← ht, List.getElem?_take, if_pos hj, Array.getElem?_toList]
    exact ⟨u0, u1, by rw [f _ (by omega)]; exact a1, by rw [f _ (by omega)]; exact a2, a3⟩
theorem OwnI.own {W W' : World} {base b2 n m : Nat} {v u : Value} {zs : List Int} {xs : List Value} (h : OwnI W base v n zs) (ho : W.ownsRow b2 26 2 u m xs) (hg : W.grownBy W' u.ownBlock) (ha : ∀ g, v.ownBlock = some g → u.ownBlock ≠ some g) : OwnI W' base v n zs := by
  obtain ⟨ys, ⟨h0, h1⟩, h2, h3, h4⟩ := h
  refine ⟨ys, ⟨h0, ?_⟩, h2, h3, fun i h => ?_⟩
  · rcases h1 with e | ⟨g, cap', cur, e, hg', hb, hr⟩
    · exact Or.inl e
    · exact Or.inr ⟨g, cap', cur, e, hg', heap_own ho hg hb (ha g (by rw [e]; rfl)), hr⟩
  · obtain ⟨u0, u1, a1, a2, a3⟩ := h4 i h
    exact ⟨u0, u1, a1, a2, a3.own ho hg⟩
theorem OwnI.mk {W : World} {base n : Nat} {v : Value} {xs ys : List Value} {zs ws : List Int} (hown : W.ownsRow base 26 2 v n (xs ++ ys)) (hx : xs.length = zs.length * 2) (hn : zs.length + ws.length = n) (h1 : ∀ u ∈ xs, u.oneCell' = true) (h2 : ∀ u ∈ ys, u.oneCell' = true)
    (h3 : ∀ i (h : i < zs.length), ∃ u0 u1, xs[i * 2]? = some u0 ∧ xs[i * 2 + 1]? = some u1 ∧ IntV W (.agg #[u0, u1]) zs[i]) (h4 : ∀ i (h : i < ws.length), ∃ u0 u1, ys[i * 2]? = some u0 ∧ ys[i * 2 + 1]? = some u1 ∧ IntV W (.agg #[u0, u1]) ws[i]) : OwnI W base v n (zs ++ ws) := by
  refine ⟨xs ++ ys, hown, by rw [List.length_append]; exact hn, fun u hu => ?_, fun i h => ?_⟩
  · rcases List.mem_append.1 hu with h | h
    · exact h1 u h
    · exact h2 u h
  · rw [List.length_append] at h
    by_cases hi : i < zs.length
    · obtain ⟨u0, u1, a1, a2, a3⟩ := h3 i hi
      refine ⟨u0, u1, ?_, ?_, ?_⟩
      · rw [List.getElem?_append_left (by omega)]; exact a1
      · rw [List.getElem?_append_left (by omega)]; exact a2
      · rw [List.getElem_append_left hi]; exact a3
    · obtain ⟨u0, u1, a1, a2, a3⟩ := h4 (i - zs.length) (by omega)
      refine ⟨u0, u1, ?_, ?_, ?_⟩
      · rw [List.getElem?_append_right (by omega), show i * 2 - xs.length = (i - zs.length) * 2 by omega]; exact a1
      · rw [List.getElem?_append_right (by omega), show i * 2 + 1 - xs.length = (i - zs.length) * 2 + 1 by omega]; exact a2
      · rw [List.getElem_append_right (by omega)]; exact a3
theorem one_row {W : World} {u0 u1 : Value} {z : Int} (h : IntV W (.agg #[u0, u1]) z) : (∀ u ∈ ([u0, u1] : List Value), u.oneCell' = true) ∧ ∀ i (hi : i < [z].length), ∃ a0 a1, ([u0, u1] : List Value)[i * 2]? = some a0 ∧ ([u0, u1] : List Value)[i * 2 + 1]? = some a1 ∧ IntV W (.agg #[a0, a1]) [z][i] := by
  refine ⟨fun u hu => ?_, fun i hi => ?_⟩
  · obtain ⟨s, xs, b, e, _⟩ := h
    cases e
    simp at hu
    rcases hu with rfl | rfl <;> rfl
  · simp at hi
    subst hi
    exact ⟨u0, u1, rfl, rfl, h⟩
theorem own_oneZ {W : World} {H base : Nat} {u0 u1 : Value} (hH : W.heap.size = H) (hb : base ≤ H) : (W.alloc (.cells #[u0, u1] 26)).ownsRow base 26 2 (.slice (some ⟨H, 0, none⟩) 1 1) 1 [u0, u1] :=
  ⟨rfl, Or.inr ⟨H, 1, #[u0, u1], rfl, hb, heap_new W _ H hH.symm, Nat.le_refl _, by unfold maxLen; omega, rfl, rfl⟩⟩
theorem isum_cons_rev (zs : List Int) : isum zs.reverse = isum zs := by
  have h : ∀ (l : List Int) (a : Int), l.foldl (· + ·) a = a + isum l := by
    intro l
    induction l with
    | nil => intro a; simp [isum]
    | cons x t ih => intro a; unfold isum at ih ⊢; rw [List.foldl_cons, List.foldl_cons, ih, ih (0 + x)]; omega
  induction zs with
  | nil => rfl
  | cons x t ih =>
    rw [List.reverse_cons]
    have e1 : isum (t.reverse ++ [x]) = isum t.reverse + x := by unfold isum; rw [List.foldl_append]; rfl
    have e2 : isum (x :: t) = x + isum t := by
      have := h t (0 + x)
      unfold isum at this ⊢
      rw [List.foldl_cons, this]; omega
    rw [e1, e2, ih]; omega
theorem isum_app (zs : List Int) (x : Int) : isum (zs ++ [x]) = isum zs + x := by unfold isum; rw [List.foldl_append]; rfl
end Go.Proofs.Ytljfhiikoimdiaa
