/- Records: rows of records. -/
import Derived.Test.YtcioefmldcmhgaaKNext
namespace Go.Proofs.Ytcioefmldcmhgaa
open Go.RowKit
set_option maxRecDepth 100000
set_option linter.unusedVariables false
set_option linter.unusedSimpArgs false

/-- A row of records of the call's own. -/
def OwnR (W : World) (base : Nat) (v : Value) (n : Nat) (rs : List KRec) : Prop :=
  ∃ xs : List Value, W.ownsRow base 45 3 v n xs ∧ rs.length = n ∧ (∀ u ∈ xs, u.oneCell' = true) ∧
    ∀ i (h : i < rs.length), ∃ g cap, xs[i * 3]? = some (.int .u8 (rs[i].1 : Int)) ∧ xs[i * 3 + 1]? = some (.int .u8 (rs[i].2.1 : Int)) ∧ xs[i * 3 + 2]? = some (.slice (some ⟨g, 0, none⟩) rs[i].2.2.length cap) ∧ base ≤ g ∧ ByBlk W g rs[i].2.2 ∧ rs[i].2.2.length ≤ cap ∧ cap ≤ 9223372036854775807
theorem ownR_kept {W W' : World} {base : Nat} {v : Value} {n : Nat} {xs : List Value} (h : W.ownsRow base 45 3 v n xs) (hg : W.grownBy W' none) : W'.ownsRow base 45 3 v n xs := by
  obtain ⟨h1, h2 | ⟨g, cap', cur, e, hg', hb, hr⟩⟩ := h
  · exact ⟨h1, Or.inl h2⟩
  · exact ⟨h1, Or.inr ⟨g, cap', cur, e, hg', heap_kept hg hb, hr⟩⟩
theorem OwnR.kept {W W' : World} {base n : Nat} {v : Value} {rs : List KRec} (h : OwnR W base v n rs) (hg : W.grownBy W' none) : OwnR W' base v n rs := by
  obtain ⟨xs, h1, h2, h3, h4⟩ := h
  refine ⟨xs, ownR_kept h1 hg, h2, h3, fun i h => ?_⟩
  obtain ⟨g, cap, a1, a2, a3, a4, a5, a6⟩ := h4 i h
  exact ⟨g, cap, a1, a2, a3, a4, a5.kept hg, a6⟩
/-- Another block of another type was written. -/
theorem OwnR.offT {W W' : World} {base n q : Nat} {v : Value} {rs : List KRec} {cs : Array Value} {t : TypeId} {fz : Nat × Nat} (h : OwnR W base v n rs) (hg : W.grownBy W' (some q)) (hq : W.heap[q]? = some (.cells cs t fz)) (h1 : t ≠ 5) (h2 : t ≠ 45) : OwnR W' base v n rs := by
  obtain ⟨xs, ⟨k0, k1⟩, k2, k3, k4⟩ := h
  refine ⟨xs, ⟨k0, ?_⟩, k2, k3, fun i h => ?_⟩
  · rcases k1 with e | ⟨g, cap', cur, e, hg', hb, hr⟩
    · exact Or.inl e
    · refine Or.inr ⟨g, cap', cur, e, hg', heap_off hg hb ?_, hr⟩
      intro e; cases e; rw [hb] at hq; cases hq; exact h2 rfl
  · obtain ⟨g, cap, a1, a2, a3, a4, a5, a6⟩ := k4 i h
    refine ⟨g, cap, a1, a2, a3, a4, a5.off hg ?_, a6⟩
    intro e; cases e
    obtain ⟨cur, hc, _⟩ := a5.1
    rw [hc] at hq; cases hq; exact h1 rfl
theorem OwnR.nil (W : World) (base : Nat) : OwnR W base (.slice none 0 0) 0 [] := ⟨[], ⟨rfl, Or.inl ⟨rfl, rfl⟩⟩, rfl, by intro u h; simp at h, fun i h => by simp at h⟩
theorem OwnR.shape {W : World} {base n : Nat} {v : Value} {rs : List KRec} (h : OwnR W base v n rs) : ∃ s c, v = .slice s n c := by
  obtain ⟨xs, ⟨_, ⟨rfl, rfl⟩ | ⟨g, cap, cur, rfl, _⟩⟩, _⟩ := h
  · exact ⟨_, _, rfl⟩
  · exact ⟨_, _, rfl⟩
theorem OwnR.len {W : World} {base n : Nat} {v : Value} {rs : List KRec} (h : OwnR W base v n rs) : rs.length = n := h.choose_spec.2.1
/-- A row's own block bears records. -/
theorem ownR_type {W : World} {base n k : Nat} {v : Value} {xs : List Value} {cs : Array Value} {t : TypeId} {fz : Nat × Nat} (h : W.ownsRow base 45 3 v n xs) (hk : W.heap[k]? = some (.cells cs t fz)) (ht : t ≠ 45) : v.ownBlock ≠ some k := by
  obtain ⟨h1, ⟨e, _⟩ | ⟨g, cap', cur, e, hg', hb, hr⟩⟩ := h
  · subst e; intro e; cases e
  · subst e; intro e
    have e2 : g = k := Option.some.inj e
    subst e2
    rw [hb] at hk; cases hk; exact ht rfl
theorem ByBlk.row {W W' : World} {base n g : Nat} {v : Value} {xs : List Value} {l : List Nat} (h : ByBlk W g l) (ho : W.ownsRow base 45 3 v n xs) (hg : W.grownBy W' v.ownBlock) : ByBlk W' g l := by
  obtain ⟨⟨cur, hc, _⟩, _⟩ := id h
  exact h.off hg (fun e => ownR_type ho hc (by decide) e.symm)
theorem grown_row {w W W' : World} {base n : Nat} {v : Value} {xs : List Value} (hw : w.grownBy W none) (ho : W.ownsRow base 45 3 v n xs) (hg : W.grownBy W' v.ownBlock) (hb : w.heap.size ≤ base) : w.grownBy W' none := by
  obtain ⟨h1, ⟨e, _⟩ | ⟨g, cap', cur, e, hg', hb', hr⟩⟩ := ho
  · subst e; exact grown_trans hw hg
  · subst e; exact grown_new (g := g) hw hg (by omega)
/-- A record behind the row. -/
theorem OwnR.mk {W W' : World} {base n : Nat} {v v' : Value} {xs : List Value} {rs : List KRec} {r : KRec} {g cap : Nat}
    (hown : W.ownsRow base 45 3 v n xs) (hg : W.grownBy W' v.ownBlock) (hown' : W'.ownsRow base 45 3 v' (n + 1) (xs ++ [.int .u8 (r.1 : Int), .int .u8 (r.2.1 : Int), .slice (some ⟨g, 0, none⟩) r.2.2.length cap])) (hl : rs.length = n) (h1 : ∀ u ∈ xs, u.oneCell' = true)
    (h4 : ∀ i (h : i < rs.length), ∃ g cap, xs[i * 3]? = some (.int .u8 (rs[i].1 : Int)) ∧ xs[i * 3 + 1]? = some (.int .u8 (rs[i].2.1 : Int)) ∧ xs[i * 3 + 2]? = some (.slice (some ⟨g, 0, none⟩) rs[i].2.2.length cap) ∧ base ≤ g ∧ ByBlk W g rs[i].2.2 ∧ rs[i].2.2.length ≤ cap ∧ cap ≤ 9223372036854775807)
    (hb : base ≤ g) (hB : ByBlk W g r.2.2) (hc : r.2.2.length ≤ cap) (hc2 : cap ≤ 9223372036854775807) : OwnR W' base v' (n + 1) (rs ++ [r]) := by
  have hx : xs.length = rs.length * 3 := by rw [hown.1, hl]
  refine ⟨_, hown', by simp [hl], ?_, fun i h => ?_⟩
  · intro u hu
    rcases List.mem_append.1 hu with hu | hu
    · exact h1 u hu
    · simp at hu
      rcases hu with rfl | rfl | rfl <;> rfl
  · rw [List.length_append] at h
    simp at h
    rcases Nat.lt_or_ge i rs.length with hi | hi
    · obtain ⟨g, cap, a1, a2, a3, a4, a5, a6⟩ := h4 i hi
      rw [List.getElem_append_left hi]
      exact ⟨g, cap, by rw [List.getElem?_append_left (by omega)]; exact a1, by rw [List.getElem?_append_left (by omega)]; exact a2, by rw [List.getElem?_append_left (by omega)]; exact a3, a4, a5.row hown hg, a6⟩
    · obtain rfl : i = rs.length := by omega
      refine ⟨g, cap, ?_, ?_, ?_, hb, ?_, ?_, hc2⟩
      · rw [List.getElem?_append_right (by omega), hx]; simp
      · rw [List.getElem?_append_right (by omega), hx]; simp
      · rw [List.getElem?_append_right (by omega), hx]; simp
      · simpa using hB.row hown hg
      · simpa using hc
theorem add_cell1 (a : Addr) (i : Nat) : a.add (i + 1) = ⟨(a.add i).block, (a.add i).off + 1, none⟩ := by rw [← Addr.add_add]; rfl
theorem add_cell2 (a : Addr) (i : Nat) : a.add (i + 2) = ⟨(a.add i).block, (a.add i).off + 2, none⟩ := by rw [← Addr.add_add]; rfl
/-- A slice of records that reads so. -/
def RcSl (W : World) (s : Option Addr) (rs : List KRec) : Prop :=
  ∀ i (h : i < rs.length), ∃ a sb cb, s = some a ∧ W.cell? (a.add (i * 3)) = some (.int .u8 (rs[i].1 : Int)) ∧ W.cell? (a.add (i * 3 + 1)) = some (.int .u8 (rs[i].2.1 : Int)) ∧ W.cell? (a.add (i * 3 + 2)) = some (.slice sb rs[i].2.2.length cb) ∧ BySl W sb rs[i].2.2 ∧ (sb = none → rs[i].2.2.length = 0 ∧ cb = 0) ∧ rs[i].2.2.length ≤ cb ∧ cb ≤ 9223372036854775807
theorem RcSl.kept {W W' : World} {s : Option Addr} {rs : List KRec} (h : RcSl W s rs) (hg : W.grownBy W' none) : RcSl W' s rs := fun i hi => by
  obtain ⟨a, sb, cb, e, a0, a1, a2, a3, a4⟩ := h i hi
  exact ⟨a, sb, cb, e, hg.cell a0 (by simp), hg.cell a1 (by simp), hg.cell a2 (by simp), a3.kept hg, a4⟩
theorem OwnR.sl {W : World} {base n cap : Nat} {s : Option Addr} {rs : List KRec} (h : OwnR W base (.slice s n cap) n rs) : RcSl W s rs := fun i hi => by
  obtain ⟨xs, h1, h2, h3, h4⟩ := h
  obtain ⟨g, cb, a1, a2, a3, a4, a5, a6, a7⟩ := h4 i hi
  have h1' := h1
  obtain ⟨h0, ⟨e, e2⟩ | ⟨k, cap', cur, e, hg', hb, hr⟩⟩ := h1'
  · omega
  · cases e
    exact ⟨_, _, cb, rfl, h1.cells rfl _ _ a1, h1.cells rfl _ _ a2, h1.cells rfl _ _ a3, a5.sl, (fun e => by cases e), a6, a7⟩
theorem RcSl.at {W : World} {s : Option Addr} {rs : List KRec} (h : RcSl W s rs) (i : Nat) (hi : i < rs.length) : ∃ (a q : Addr) (sb : Option Addr) (cb kd dt : Nat) (bd : List Nat), s = some a ∧ a.add (i * 3) = q ∧ rs[i] = (kd, dt, bd) ∧ W.cell? q = some (.int .u8 (kd : Int)) ∧ W.cell? ⟨q.block, q.off + 1, none⟩ = some (.int .u8 (dt : Int)) ∧ W.cell? ⟨q.block, q.off + 2, none⟩ = some (.slice sb bd.length cb) ∧ BySl W sb bd ∧ (sb = none → bd.length = 0 ∧ cb = 0) ∧ bd.length ≤ cb ∧ cb ≤ 9223372036854775807 := by
  obtain ⟨a, sb, cb, e, a0, a1, a2, a3, a4⟩ := h i hi
  rw [add_cell1] at a1
  rw [add_cell2] at a2
  exact ⟨a, _, sb, cb, _, _, _, e, rfl, rfl, a0, a1, a2, a3, a4⟩
theorem own_oneR {W : World} {b : Nat} {u0 u1 u2 : Value} (hb : b ≤ W.heap.size) : (W.alloc (.cells #[u0, u1, u2] 45)).ownsRow b 45 3 (.slice (some ⟨W.heap.size, 0, none⟩) 1 1) 1 [u0, u1, u2] :=
  ⟨rfl, Or.inr ⟨W.heap.size, 1, _, rfl, hb, heap_new W _ _ rfl, Nat.le_refl _, by decide, rfl, rfl⟩⟩
end Go.Proofs.Ytcioefmldcmhgaa
