/- FracEnds: a row of the call's own that reads as quotients; the outmost of a list. -/
import Derived.Deep.RegionHeld3
import Derived.Deep.LoopGhost
import Derived.Deep.CutRange
import Derived.Deep.AppendLies
import Derived.Laws.AppendOwnNone
import Derived.BigRegion
import Derived.Test.YtgbbdgioohaknaaGreatDoorPb1
import Derived.Test.YtgbbdgioohaknaaGreatDoorPb10
import Derived.Test.YtgbbdgioohaknaaGreatDoorPb11
import Derived.Test.YtgbbdgioohaknaaGreatDoorPb12
import Derived.Test.YtgbbdgioohaknaaGreatDoorPb14
import Derived.Test.YtgbbdgioohaknaaGreatDoorPb17
import Derived.Test.YtgbbdgioohaknaaGreatDoorPb2
import Derived.Test.YtgbbdgioohaknaaGreatDoorPb3
import Derived.Test.YtgbbdgioohaknaaGreatDoorPb31
import Derived.Test.YtgbbdgioohaknaaGreatDoorPb34
import Derived.Test.YtgbbdgioohaknaaGreatDoorPb4
import Derived.Test.YtgbbdgioohaknaaGreatDoorPb40
import Derived.Test.YtgbbdgioohaknaaGreatDoorPb42
import Derived.Test.YtgbbdgioohaknaaGreatDoorPb7
import Derived.Test.YtgbbdgioohaknaaGreatDoorPb9
import Derived.Test.YtgbbdgioohaknaaGreatDoorEbFrac9b
namespace Go.Proofs.YtgbbdgioohaknaaGreatDoor
open Go.RowKit Mat
set_option maxRecDepth 100000
set_option linter.unusedVariables false
set_option linter.unusedSimpArgs false

theorem low_all : ∀ (t : List Rat) (b : Rat), t.foldl (fun b a => if bT_ a b = -1 then a else b) b ≤ b ∧ ∀ x ∈ t, t.foldl (fun b a => if bT_ a b = -1 then a else b) b ≤ x := by
  intro t
  induction t with
  | nil => intro b; exact ⟨Rat.le_refl, fun x h => by cases h⟩
  | cons a t ih =>
    intro b
    rw [List.foldl_cons]
    have hb : (if bT_ a b = -1 then a else b) ≤ b ∧ (if bT_ a b = -1 then a else b) ≤ a := by
      split
      · next h => have := rcmp_lt.1 h; grind
      · next h => have : ¬ a < b := fun e => h (rcmp_lt.2 e); grind
    obtain ⟨h1, h2⟩ := ih (if bT_ a b = -1 then a else b)
    refine ⟨by grind, fun x hx => ?_⟩
    rcases List.mem_cons.1 hx with rfl | hx
    · grind
    · exact h2 x hx
theorem high_all : ∀ (t : List Rat) (b : Rat), b ≤ t.foldl (fun b a => if bT_ a b = 1 then a else b) b ∧ ∀ x ∈ t, x ≤ t.foldl (fun b a => if bT_ a b = 1 then a else b) b := by
  intro t
  induction t with
  | nil => intro b; exact ⟨Rat.le_refl, fun x h => by cases h⟩
  | cons a t ih =>
    intro b
    rw [List.foldl_cons]
    have hb : b ≤ (if bT_ a b = 1 then a else b) ∧ a ≤ (if bT_ a b = 1 then a else b) := by
      split
      · next h => have := rcmp_gt.1 h; grind
      · next h => have : ¬ b < a := fun e => h (rcmp_gt.2 e); grind
    obtain ⟨h1, h2⟩ := ih (if bT_ a b = 1 then a else b)
    refine ⟨by grind, fun x hx => ?_⟩
    rcases List.mem_cons.1 hx with rfl | hx
    · grind
    · exact h2 x hx
theorem rout_low (rs : List Rat) (i : Nat) (h : i < rs.length) : 0 ≤ bT_ rs[i] (cv_ (-1) rs) := by
  have hle : cv_ (-1) rs ≤ rs[i] := by
    cases rs with
    | nil => simp at h
    | cons r t =>
      have h2 := low_all t r
      unfold cv_
      simp only [List.tail_cons, List.headD_cons]
      rcases List.mem_cons.1 (List.getElem_mem h) with e | e
      · rw [e]; exact h2.1
      · exact h2.2 _ e
  rcases dh_ rs[i] (cv_ (-1) rs) with e | e | e
  · have := rcmp_lt.1 e; grind
  · rw [e]; exact Int.le_refl _
  · rw [e]; decide
theorem rout_high (rs : List Rat) (i : Nat) (h : i < rs.length) : bT_ rs[i] (cv_ 1 rs) ≤ 0 := by
  have hle : rs[i] ≤ cv_ 1 rs := by
    cases rs with
    | nil => simp at h
    | cons r t =>
      have h2 := high_all t r
      unfold cv_
      simp only [List.tail_cons, List.headD_cons]
      rcases List.mem_cons.1 (List.getElem_mem h) with e | e
      · rw [e]; exact h2.1
      · exact h2.2 _ e
  rcases dh_ rs[i] (cv_ 1 rs) with e | e | e
  · rw [e]; decide
  · rw [e]; exact Int.le_refl _
  · have := rcmp_gt.1 e; grind
theorem rout_in (side : Int) (rs : List Rat) (h : 0 < rs.length) : cv_ side rs ∈ rs := by
  have h1 := jK_ side rs (rs.length - 1) (by omega)
  rw [show rs.length - 1 + 1 = rs.length by omega, jL_] at h1; exact h1
theorem rout_any (side : Int) (rs : List Rat) (h : 0 < rs.length) : ∃ i, ∃ h : i < rs.length, bT_ rs[i] (cv_ side rs) = 0 := by
  obtain ⟨i, hi, e⟩ := List.getElem_of_mem (rout_in side rs h)
  exact ⟨i, hi, by rw [e]; exact bG_ _⟩
def Small5 (rs : List Rat) : Prop := ∀ r ∈ rs, r.num.natAbs < B ^ 5 ∧ r.den < B ^ 5
theorem Small5.snoc {rs : List Rat} {r : Rat} (h : Small5 rs) (hr : r.num.natAbs < B ^ 5 ∧ r.den < B ^ 5) : Small5 (rs ++ [r]) := by
  intro x hx
  rcases List.mem_append.1 hx with h1 | h1
  · exact h x h1
  · simp at h1; subst h1; exact hr
theorem Small5.out {rs : List Rat} (h : Small5 rs) (side : Int) : (cv_ side rs).num.natAbs < B ^ 5 ∧ (cv_ side rs).den < B ^ 5 := by
  rcases Nat.eq_zero_or_pos rs.length with h0 | h0
  · obtain rfl : rs = [] := List.length_eq_zero_iff.1 h0
    exact ⟨Nat.pow_pos T_, Nat.lt_of_lt_of_le (show 1 < B ^ 1 by unfold B; omega) (Nat.pow_le_pow_right T_ (by decide))⟩
  · exact h _ (rout_in side rs h0)

theorem info_partsQ : ∃ i, Tryz.prog.info? 28 = some i ∧ i.zero = some (.agg #[.slice none 0 0, .bool false, .slice none 0 0, .bool false]) ∧ i.size = 4 ∧ i.bytes = 64 := by
  have h : (Tryz.prog.info? 28).map (fun i => (i.zero, i.size, i.bytes)) = some (some (.agg #[.slice none 0 0, .bool false, .slice none 0 0, .bool false]), 4, 64) := by kernel_rfl
  obtain ⟨i, hi, he⟩ := Option.map_eq_some_iff.1 h
  exact ⟨i, hi, congrArg Prod.fst he, congrArg (fun x => x.2.1) he, congrArg (fun x => x.2.2) he⟩
theorem ownsQ_kept {W W' : World} {base : Nat} {v : Value} {n : Nat} {xs : List Value} (h : W.ownsRow base 28 4 v n xs) (hg : W.grownBy W' none) : W'.ownsRow base 28 4 v n xs := by
  obtain ⟨h1, h2 | ⟨g, cap', cur, e, hg', hb, hr⟩⟩ := h
  · exact ⟨h1, Or.inl h2⟩
  · exact ⟨h1, Or.inr ⟨g, cap', cur, e, hg', a_ hg hb, hr⟩⟩
theorem heap_ownQ {W W' : World} {base n : Nat} {v : Value} {xs : List Value} (h : W.ownsRow base 28 4 v n xs) (hg : W.grownBy W' v.ownBlock) {k : Nat} {o : Obj} (hk : W.heap[k]? = some o) (hn : v.ownBlock ≠ some k) : W'.heap[k]? = some o := by
  obtain ⟨h1, ⟨e, _⟩ | ⟨g, cap', cur, e, hg', hb, hr⟩⟩ := h
  · subst e; exact a_ hg hk
  · subst e; exact aN_ (g := g) hg hk (fun e => hn (by rw [e]; rfl))
theorem own_typeQ {W : World} {base n k : Nat} {v : Value} {xs : List Value} {cs : Array Value} {t : TypeId} {fz : Nat × Nat} (h : W.ownsRow base 28 4 v n xs) (hk : W.heap[k]? = some (.cells cs t fz)) (ht : t ≠ 28) : v.ownBlock ≠ some k := by
  obtain ⟨h1, ⟨e, _⟩ | ⟨g, cap', cur, e, hg', hb, hr⟩⟩ := h
  · subst e; intro e; cases e
  · subst e; intro e
    have e2 : g = k := Option.some.inj e
    subst e2
    rw [hb] at hk; cases hk; exact ht rfl
theorem IntV.ownQ {W W' : World} {base n : Nat} {v u : Value} {z : Int} {xs : List Value} (h : IntV W u z) (ho : W.ownsRow base 28 4 v n xs) (hg : W.grownBy W' v.ownBlock) : IntV W' u z := by
  obtain ⟨s, ys, b, e, hl, h2⟩ := h
  refine ⟨s, ys, b, e, ⟨?_, hl.nil, hl.top, hl.dig⟩, h2⟩
  rcases hl.rd with h | ⟨c, off, cs, e, hb, ha⟩
  · exact Or.inl h
  · exact Or.inr ⟨c, off, cs, e, heap_ownQ ho hg hb (own_typeQ ho hb (by decide)), ha⟩
theorem RatV.ownQ {W W' : World} {base n : Nat} {v u : Value} {r : Rat} {xs : List Value} (h : RatV W u r) (ho : W.ownsRow base 28 4 v n xs) (hg : W.grownBy W' v.ownBlock) : RatV W' u r := by
  obtain ⟨s, ys, b, s', ys', b', e, h1, h2⟩ := h
  exact ⟨s, ys, b, s', ys', b', e, h1.ownQ ho hg, h2.ownQ ho hg⟩
theorem grown_ownQ {w W W' : World} {base n : Nat} {v : Value} {xs : List Value} (hw : w.grownBy W none) (ho : W.ownsRow base 28 4 v n xs) (hg : W.grownBy W' v.ownBlock) (hb : w.heap.size ≤ base) : w.grownBy W' none := by
  obtain ⟨h1, ⟨e, _⟩ | ⟨g, cap', cur, e, hg', hb', hr⟩⟩ := ho
  · subst e; exact d_ hw hg
  · subst e; exact s_ (g := g) hw hg (by omega)
/-- A row of the call's own that reads as these quotients. -/
def OwnQ (W : World) (base : Nat) (v : Value) (n : Nat) (rs : List Rat) : Prop :=
  ∃ xs : List Value, W.ownsRow base 28 4 v n xs ∧ rs.length = n ∧ (∀ u ∈ xs, u.oneCell' = true) ∧ ∀ i (h : i < rs.length), ∃ u0 u1 u2 u3, xs[i * 4]? = some u0 ∧ xs[i * 4 + 1]? = some u1 ∧ xs[i * 4 + 2]? = some u2 ∧ xs[i * 4 + 3]? = some u3 ∧ RatV W (.agg #[u0, u1, u2, u3]) rs[i]
theorem OwnQ.kept {W W' : World} {base n : Nat} {v : Value} {rs : List Rat} (h : OwnQ W base v n rs) (hg : W.grownBy W' none) : OwnQ W' base v n rs := by
  obtain ⟨xs, h1, h2, h3, h4⟩ := h
  refine ⟨xs, ownsQ_kept h1 hg, h2, h3, fun i h => ?_⟩
  obtain ⟨u0, u1, u2, u3, a1, a2, a3, a4, a5⟩ := h4 i h
  exact ⟨u0, u1, u2, u3, a1, a2, a3, a4, a5.kept hg⟩
theorem OwnQ.nil (W : World) (base : Nat) : OwnQ W base (.slice none 0 0) 0 [] := ⟨[], ⟨rfl, Or.inl ⟨rfl, rfl⟩⟩, rfl, by intro u h; simp at h, fun i h => by simp at h⟩
theorem OwnQ.shape {W : World} {base n : Nat} {v : Value} {rs : List Rat} (h : OwnQ W base v n rs) : ∃ s c, v = .slice s n c ∧ n ≤ c ∧ QSl W s n rs := by
  obtain ⟨xs, ⟨h0, h1⟩, h2, h3, h4⟩ := h
  rcases h1 with ⟨e, e2⟩ | ⟨g, cap', cur, e, hg, hb, hc, hm, hs, ht⟩
  · subst e2; exact ⟨_, _, e, Nat.zero_le _, h2, Or.inl rfl⟩
  · refine ⟨_, _, e, hc, h2, Or.inr ⟨g, cur, rfl, hb, fun i h => ?_⟩⟩
    obtain ⟨u0, u1, u2, u3, a1, a2, a3, a4, a5⟩ := h4 i h
    have f : ∀ j, j < n * 4 → cur[j]? = xs[j]? := fun j hj => by rw [← ht, List.getElem?_take, if_pos hj, Array.getElem?_toList]
    exact ⟨u0, u1, u2, u3, by rw [f _ (by omega)]; exact a1, by rw [f _ (by omega)]; exact a2, by rw [f _ (by omega)]; exact a3, by rw [f _ (by omega)]; exact a4, a5⟩
theorem OwnQ.snoc {W : World} {base n : Nat} {v y0 y1 y2 y3 : Value} {xs : List Value} {rs : List Rat} {r : Rat} (hown : W.ownsRow base 28 4 v (n + 1) (xs ++ [y0, y1, y2, y3])) (hx : xs.length = rs.length * 4) (hn : rs.length = n) (h1 : ∀ u ∈ xs, u.oneCell' = true) (h2 : ∀ u ∈ ([y0, y1, y2, y3] : List Value), u.oneCell' = true)
    (h3 : ∀ i (h : i < rs.length), ∃ u0 u1 u2 u3, xs[i * 4]? = some u0 ∧ xs[i * 4 + 1]? = some u1 ∧ xs[i * 4 + 2]? = some u2 ∧ xs[i * 4 + 3]? = some u3 ∧ RatV W (.agg #[u0, u1, u2, u3]) rs[i]) (h4 : RatV W (.agg #[y0, y1, y2, y3]) r) : OwnQ W base v (n + 1) (rs ++ [r]) := by
  refine ⟨xs ++ [y0, y1, y2, y3], hown, by rw [List.length_append, hn]; rfl, fun u hu => ?_, fun i h => ?_⟩
  · rcases List.mem_append.1 hu with h | h
    · exact h1 u h
    · exact h2 u h
  · rw [List.length_append] at h
    by_cases hi : i < rs.length
    · obtain ⟨u0, u1, u2, u3, a1, a2, a3, a4, a5⟩ := h3 i hi
      refine ⟨u0, u1, u2, u3, ?_, ?_, ?_, ?_, ?_⟩
      · rw [List.getElem?_append_left (by omega)]; exact a1
      · rw [List.getElem?_append_left (by omega)]; exact a2
      · rw [List.getElem?_append_left (by omega)]; exact a3
      · rw [List.getElem?_append_left (by omega)]; exact a4
      · rw [List.getElem_append_left hi]; exact a5
    · have hi2 : i = rs.length := by simp at h; omega
      subst hi2
      refine ⟨y0, y1, y2, y3, ?_, ?_, ?_, ?_, ?_⟩
      · rw [List.getElem?_append_right (by omega), show rs.length * 4 - xs.length = 0 by omega]; rfl
      · rw [List.getElem?_append_right (by omega), show rs.length * 4 + 1 - xs.length = 1 by omega]; rfl
      · rw [List.getElem?_append_right (by omega), show rs.length * 4 + 2 - xs.length = 2 by omega]; rfl
      · rw [List.getElem?_append_right (by omega), show rs.length * 4 + 3 - xs.length = 3 by omega]; rfl
      · rw [List.getElem_append_right (by omega)]; simpa using h4
theorem one_cellsQ {W : World} {u0 u1 u2 u3 : Value} {r : Rat} (h : RatV W (.agg #[u0, u1, u2, u3]) r) : ∀ u ∈ ([u0, u1, u2, u3] : List Value), u.oneCell' = true := by
  intro u hu
  obtain ⟨s, xs, b, s', xs', b', e, _⟩ := h
  cases e
  simp at hu
  rcases hu with rfl | rfl | rfl | rfl <;> rfl
end Go.Proofs.YtgbbdgioohaknaaGreatDoor
