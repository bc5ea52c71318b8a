/-
  What the laws on trees share: how great a tree is that came in.
-/
import Derived.Test.YtcioefmldcmhgaaGLaw
import Derived.Test.YtcioefmldcmhgaaGFew
namespace Go.Proofs.Ytcioefmldcmhgaa
open Go.ChangeShapes Go.WideShapes Go.ChangeAt Go.RowKit Go.ChangeMaps Go.Deep
set_option maxRecDepth 100000
set_option linter.unusedVariables false
set_option linter.unusedSimpArgs false

section
variable {H : Type} {enc : TypeId × Value → H} {W : World} {sp : Nat → Bool}
/-- A datum none of whose pieces is too great. -/
def WOk (t : TypeId) (d : DataW H) : Prop := ∀ m ∈ d.weights Try.prog t, m ≤ reachBytes
theorem weightsAll_mem {e : TypeId} : ∀ {l : List (DataW H)} {d : DataW H}, d ∈ l → ∀ m ∈ d.weights Try.prog e, m ∈ DataW.weightsAll Try.prog e l := by
  intro l
  induction l with
  | nil => intro d h; cases h
  | cons x l ih =>
    intro d h m hm
    rw [DataW.weightsAll]
    rcases List.mem_cons.1 h with rfl | h
    · exact List.mem_append_left _ hm
    · exact List.mem_append_right _ (ih h m hm)
theorem WOk.slice {t e : TypeId} {l r : List (DataW H)} (hu : Try.prog.underlying t = some (.slice e)) (h : WOk t (.slice l r)) : (l.length + r.length) * Try.prog.bytesOf e ≤ reachBytes ∧ ∀ d ∈ l, WOk e d := by
  unfold WOk at h
  rw [DataW.weights, hu] at h
  refine ⟨h _ (List.mem_cons_self ..), fun d hd m hm => h m ?_⟩
  exact List.mem_cons_of_mem _ (List.mem_append_left _ (weightsAll_mem hd m hm))
theorem WOk.agg2 {t : TypeId} {f0 f1 : Field} {d0 d1 : DataW H} (hu : Try.prog.underlying t = some (.struct #[f0, f1])) (h : WOk t (.agg [d0, d1])) : WOk f0.type d0 ∧ WOk f1.type d1 := by
  unfold WOk at h ⊢
  rw [DataW.weights, hu] at h
  simp [DataW.weightsEach] at h
  exact ⟨fun m hm => h m (Or.inl hm), fun m hm => h m (Or.inr hm)⟩
theorem WOk.agg3 {t : TypeId} {f0 f1 f2 : Field} {d0 d1 d2 : DataW H} (hu : Try.prog.underlying t = some (.struct #[f0, f1, f2])) (h : WOk t (.agg [d0, d1, d2])) : WOk f2.type d2 := by
  unfold WOk at h ⊢
  rw [DataW.weights, hu] at h
  simp [DataW.weightsEach] at h
  exact fun m hm => h m (Or.inr (Or.inr hm))
theorem rec_bytes : Try.prog.bytesOf 45 = 32 := by kernel_rfl
theorem u8_bytes : Try.prog.bytesOf 5 = 1 := by kernel_rfl
theorem reach_is : reachBytes = 140737488351232 := by decide
theorem sized_by {n : Nat} {s : Option Addr} {ln cp : Nat} {x : DataW H × List MemPlace} (hn : DataW.trod enc Try.prog W 0 sp true n 22 [.slice s ln cp] = some x) (hw : WOk 22 x.1) : ln ≤ 140737488351232 := by
  rcases open_slice Try.underlying22 hn with ⟨hcs, _⟩ | ⟨a, ln', cp', m, k, D, Pl, hcs, _, hl, hm, hmm, hx0, hx⟩
  · simp at hcs; omega
  · simp at hcs
    obtain ⟨_, rfl, _⟩ := hcs
    rw [hx0] at hw
    have h1 := (hw.slice Try.underlying22).1
    rw [u8_bytes, reach_is] at h1
    simp at h1
    omega
theorem sized_recs {n : Nat} {v : Value} {rs : List KRec} {x : DataW H × List MemPlace} (hn : DataW.trod enc Try.prog W 0 sp true n 24 [v] = some x) (hw : WOk 24 x.1) (hr : RecsV W v rs) : SizR rs := by
  obtain ⟨s, c, rfl, h1, h2, h3⟩ := hr
  rcases open_slice Try.underlying24 hn with ⟨hcs, _⟩ | ⟨a, ln, cp, m, k, D, Pl, hcs, _, hl, hm, hmm, hx0, hx⟩
  · simp at hcs
    have : rs = [] := List.length_eq_zero_iff.1 (by rw [hcs.2.1]; rfl)
    subst this
    exact ⟨by simp, fun r h => by simp at h⟩
  · simp at hcs
    obtain ⟨rfl, hln, rfl⟩ := hcs
    have hlm : ln ≤ m := by rw [hmm]; split <;> omega
    rw [hx0] at hw
    obtain ⟨w1, w2⟩ := hw.slice Try.underlying24
    rw [rec_bytes, reach_is] at w1
    simp at w1
    refine ⟨by omega, fun r hr => ?_⟩
    obtain ⟨i, hi, rfl⟩ := List.getElem_of_mem hr
    obtain ⟨f0, f1, f2, he, o0, o1, o2, t0, t1, t2⟩ := rec_fields
    obtain ⟨cs', q1, q2⟩ := hx i (by omega)
    rw [rec_cells] at q1
    obtain ⟨_, hlen, hcell⟩ := World.cells?_some q1
    have hwd := w2 (D i) (List.mem_map.2 ⟨i, List.mem_range.2 (by omega), rfl⟩)
    obtain ⟨ys, k', _, hxe, _, hxl, hf⟩ := DataW.trod_struct he q2
    obtain ⟨a', sb, cb, e, a0, a1, a2, _⟩ := h1 i hi
    cases e
    match ys, hxl, cs', hlen with
    | [y0, y1, y2], _, [v0, v1, v2], _ =>
      have g2 := hf 2 f2 rfl
      simp [o0, o1, o2, t0, t1, t2, byte_cells, bytes_cells] at g2
      have e2 := hcell 2 (by omega)
      rw [Go.Deep.add_add] at e2
      have hv2 : v2 = .slice sb rs[i].2.2.length cb := by
        simp at e2
        rw [a2] at e2; exact (Option.some.inj e2).symm
      rw [hv2] at g2
      have hD : D i = .agg [y0.1, y1.1, y2.1] := by simp at hxe; exact hxe.1
      rw [hD] at hwd
      have h3 := hwd.agg3 he
      rw [t2] at h3
      exact sized_by g2 h3
theorem sized_items {n : Nat} {v : Value} {xs : List KItem} {x : DataW H × List MemPlace} (hn : DataW.trod enc Try.prog W 0 sp true n 48 [v] = some x) (hw : WOk 48 x.1) (hr : ItemsV W v xs) : ∀ y ∈ xs, SizI y := by
  obtain ⟨s, c, rfl, h1, h2⟩ := hr
  rcases open_slice Try.underlying48 hn with ⟨hcs, _⟩ | ⟨a, ln, cp, m, k, D, Pl, hcs, _, hl, hm, hmm, hx0, hx⟩
  · simp at hcs
    have : xs = [] := List.length_eq_zero_iff.1 (by rw [hcs.2.1]; rfl)
    subst this
    intro y h; simp at h
  · simp at hcs
    obtain ⟨rfl, hln, rfl⟩ := hcs
    have hlm : ln ≤ m := by rw [hmm]; split <;> omega
    rw [hx0] at hw
    obtain ⟨w1, w2⟩ := hw.slice Try.underlying48
    intro y hy
    obtain ⟨i, hi, rfl⟩ := List.getElem_of_mem hy
    obtain ⟨f0, f1, he, o0, o1, t0, t1⟩ := item_fields
    obtain ⟨cs', q1, q2⟩ := hx i (by omega)
    rw [item_cells] at q1
    obtain ⟨_, hlen, hcell⟩ := World.cells?_some q1
    have hwd := w2 (D i) (List.mem_map.2 ⟨i, List.mem_range.2 (by omega), rfl⟩)
    obtain ⟨ys, k', _, hxe, _, hxl, hf⟩ := DataW.trod_struct he q2
    obtain ⟨a', u0, u1, e, a0, a1, a2, a3⟩ := h1 i hi
    cases e
    match ys, hxl, cs', hlen with
    | [y0, y1], _, [v0, v1], _ =>
      have g0 := hf 0 f0 rfl
      have g1 := hf 1 f1 rfl
      simp [o0, o1, t0, t1, recs_cells] at g0 g1
      have e0 := hcell 0 (by omega)
      have e1 := hcell 1 (by omega)
      rw [Go.Deep.add_add] at e0 e1
      have hv0 : v0 = u0 := by simp at e0; rw [a0] at e0; exact (Option.some.inj e0).symm
      have hv1 : v1 = u1 := by simp at e1; rw [a1] at e1; exact (Option.some.inj e1).symm
      rw [hv0] at g0
      rw [hv1] at g1
      have hD : D i = .agg [y0.1, y1.1] := by simp at hxe; exact hxe.1
      rw [hD] at hwd
      obtain ⟨h5, h6⟩ := hwd.agg2 he
      rw [t0] at h5
      rw [t1] at h6
      exact ⟨sized_recs g0 h5 a2, sized_recs g1 h6 a3⟩
theorem sized_cells {n : Nat} {v : Value} {xs : List KCell} {x : DataW H × List MemPlace} (hn : DataW.trod enc Try.prog W 0 sp true n 25 [v] = some x) (hw : WOk 25 x.1) (hr : CellsV W v xs) : ∀ y ∈ xs, SizC y := by
  obtain ⟨s, c, rfl, h1, h2⟩ := hr
  rcases open_slice Try.underlying25 hn with ⟨hcs, _⟩ | ⟨a, ln, cp, m, k, D, Pl, hcs, _, hl, hm, hmm, hx0, hx⟩
  · simp at hcs
    have : xs = [] := List.length_eq_zero_iff.1 (by rw [hcs.2.1]; rfl)
    subst this
    intro y h; simp at h
  · simp at hcs
    obtain ⟨rfl, hln, rfl⟩ := hcs
    have hlm : ln ≤ m := by rw [hmm]; split <;> omega
    rw [hx0] at hw
    obtain ⟨w1, w2⟩ := hw.slice Try.underlying25
    intro y hy
    obtain ⟨i, hi, rfl⟩ := List.getElem_of_mem hy
    obtain ⟨f0, f1, he, o0, o1, t0, t1⟩ := cell_fields
    obtain ⟨cs', q1, q2⟩ := hx i (by omega)
    rw [cell_cells] at q1
    obtain ⟨_, hlen, hcell⟩ := World.cells?_some q1
    have hwd := w2 (D i) (List.mem_map.2 ⟨i, List.mem_range.2 (by omega), rfl⟩)
    obtain ⟨ys, k', _, hxe, _, hxl, hf⟩ := DataW.trod_struct he q2
    obtain ⟨a', u0, u1, e, a0, a1, a2, a3⟩ := h1 i hi
    cases e
    match ys, hxl, cs', hlen with
    | [y0, y1], _, [v0, v1], _ =>
      have g0 := hf 0 f0 rfl
      have g1 := hf 1 f1 rfl
      simp [o0, o1, t0, t1, recs_cells, items_cells] at g0 g1
      have e0 := hcell 0 (by omega)
      have e1 := hcell 1 (by omega)
      rw [Go.Deep.add_add] at e0 e1
      have hv0 : v0 = u0 := by simp at e0; rw [a0] at e0; exact (Option.some.inj e0).symm
      have hv1 : v1 = u1 := by simp at e1; rw [a1] at e1; exact (Option.some.inj e1).symm
      rw [hv0] at g0
      rw [hv1] at g1
      have hD : D i = .agg [y0.1, y1.1] := by simp at hxe; exact hxe.1
      rw [hD] at hwd
      obtain ⟨h5, h6⟩ := hwd.agg2 he
      rw [t0] at h5
      rw [t1] at h6
      exact ⟨sized_recs g0 h5 a2, sized_items g1 h6 a3⟩
/-- A tree that came in, and how great it may be. -/
theorem open_libS {b0 : Nat} {r : Reach} {v : Value} {d : DataW H} {p : List MemPlace} (hval : Value.okWide Try.prog W r b0 27 v) (h : DataW.Trod enc Try.prog W 0 sp true 27 v d p) (hw : WOk 27 d) : ∃ t : KLib, LibV W v t ∧ SizL t := by
  obtain ⟨t, ht⟩ := open_lib hval h
  obtain ⟨u0, u1, rfl, h0, h1⟩ := ht
  refine ⟨t, ⟨u0, u1, rfl, h0, h1⟩, ?_⟩
  obtain ⟨n, hn⟩ := h
  obtain ⟨f0, f1, he, o0, o1, t0, t1⟩ := lib_fields
  obtain ⟨ys, k', _, hxe, _, hxl, hf⟩ := DataW.trod_struct he hn
  match ys, hxl with
  | [y0, y1], _ =>
    have g0 := hf 0 f0 rfl
    have g1 := hf 1 f1 rfl
    simp [o0, o1, t0, t1, recs_cells, cells_cells, Value.cells] at g0 g1
    have hD : d = .agg [y0.1, y1.1] := by simp at hxe; exact hxe.1
    rw [hD] at hw
    obtain ⟨h5, h6⟩ := hw.agg2 he
    rw [t0] at h5
    rw [t1] at h6
    exact ⟨sized_recs g0 h5 h0, sized_cells g1 h6 h1⟩
theorem open_cellS {b0 : Nat} {r : Reach} {v : Value} {d : DataW H} {p : List MemPlace} (hval : Value.okWide Try.prog W r b0 50 v) (h : DataW.Trod enc Try.prog W 0 sp true 50 v d p) (hw : WOk 50 d) : ∃ c : KCell, CellV W v c ∧ SizC c := by
  obtain ⟨t, ht⟩ := open_cell hval h
  obtain ⟨u0, u1, rfl, h0, h1⟩ := ht
  refine ⟨t, ⟨u0, u1, rfl, h0, h1⟩, ?_⟩
  obtain ⟨n, hn⟩ := h
  obtain ⟨f0, f1, he, o0, o1, t0, t1⟩ := cell_fields
  obtain ⟨ys, k', _, hxe, _, hxl, hf⟩ := DataW.trod_struct he hn
  match ys, hxl with
  | [y0, y1], _ =>
    have g0 := hf 0 f0 rfl
    have g1 := hf 1 f1 rfl
    simp [o0, o1, t0, t1, recs_cells, items_cells, Value.cells] at g0 g1
    have hD : d = .agg [y0.1, y1.1] := by simp at hxe; exact hxe.1
    rw [hD] at hw
    obtain ⟨h5, h6⟩ := hw.agg2 he
    rw [t0] at h5
    rw [t1] at h6
    exact ⟨sized_recs g0 h5 h0, sized_items g1 h6 h1⟩
end
end Go.Proofs.Ytcioefmldcmhgaa
