/-
  What the laws on trees share: trees and cells that came in.
-/
import Derived.Test.YtcioefmldcmhgaaKLaw2
import Derived.Test.YtcioefmldcmhgaaGU
namespace Go.Proofs.Ytcioefmldcmhgaa
open Go.ChangeShapes Go.WideShapes Go.ChangeAt Go.RowKit Go.ChangeMaps Go.Deep
set_option maxRecDepth 100000
set_option linter.unusedVariables false
set_option linter.unusedSimpArgs false

theorem recs_cells : Try.prog.cellsOf 24 = 1 := by kernel_rfl
theorem items_cells : Try.prog.cellsOf 48 = 1 := by kernel_rfl
theorem cells_cells : Try.prog.cellsOf 25 = 1 := by kernel_rfl
theorem item_cells : Try.prog.cellsOf 55 = 2 := by kernel_rfl
theorem cell_cells : Try.prog.cellsOf 50 = 2 := by kernel_rfl
theorem lib_cells : Try.prog.cellsOf 27 = 2 := by kernel_rfl
theorem item_fields : ∃ f0 f1 : Field, Try.prog.underlying 55 = some (.struct #[f0, f1]) ∧ f0.offset = 0 ∧ f1.offset = 1 ∧ f0.type = 24 ∧ f1.type = 24 := ⟨_, _, Try.underlying55, rfl, rfl, rfl, rfl⟩
theorem cell_fields : ∃ f0 f1 : Field, Try.prog.underlying 50 = some (.struct #[f0, f1]) ∧ f0.offset = 0 ∧ f1.offset = 1 ∧ f0.type = 24 ∧ f1.type = 48 := ⟨_, _, Try.underlying50, rfl, rfl, rfl, rfl⟩
theorem lib_fields : ∃ f0 f1 : Field, Try.prog.underlying 27 = some (.struct #[f0, f1]) ∧ f0.offset = 0 ∧ f1.offset = 1 ∧ f0.type = 24 ∧ f1.type = 25 := ⟨_, _, Try.underlying27, rfl, rfl, rfl, rfl⟩
section
variable {H : Type} {enc : TypeId × Value → H} {W : World} {sp : Nat → Bool}
theorem open_recs0 {n : Nat} {cs : List Value} {x : DataW H × List MemPlace} (hn : DataW.trod enc Try.prog W 0 sp true n 24 cs = some x) : ∃ v, cs = [v] ∧ ∃ rs, RecsV W v rs := by
  have key : ∀ a0 ln cp, cs = [.slice a0 ln cp] → ∃ v, cs = [v] ∧ ∃ rs, RecsV W v rs := fun a0 ln cp hcs => by
    subst hcs
    obtain ⟨rs, h1, h2, h3, h4, h5, h6⟩ := open_rcs (W := W) (sp := sp) (enc := enc) (a0 := a0) (len := ln) (cap := cp) (d := x.1) (p := x.2) ⟨n, hn⟩
    subst h1
    exact ⟨_, rfl, rs, _, _, rfl, h2, ⟨h4, h5, h6⟩, h3⟩
  rcases open_slice Try.underlying24 hn with ⟨hcs, _⟩ | ⟨a, ln, cp, m, k, D, Pl, hcs, _⟩
  · exact key _ _ _ hcs
  · exact key _ _ _ hcs
theorem open_pairs {α β : Type} [Inhabited α] [Inhabited β] {A : World → Value → α → Prop} {B : World → Value → β → Prop} {ts te ta tb : TypeId} (hu : Try.prog.underlying ts = some (.slice te))
    (he : ∃ f0 f1 : Field, Try.prog.underlying te = some (.struct #[f0, f1]) ∧ f0.offset = 0 ∧ f1.offset = 1 ∧ f0.type = ta ∧ f1.type = tb) (hc : Try.prog.cellsOf te = 2) (h1a : Try.prog.cellsOf ta = 1) (h1b : Try.prog.cellsOf tb = 1)
    (hA : ∀ {n : Nat} {cs : List Value} {x : DataW H × List MemPlace}, DataW.trod enc Try.prog W 0 sp true n ta cs = some x → ∃ v, cs = [v] ∧ ∃ y, A W v y)
    (hB : ∀ {n : Nat} {cs : List Value} {x : DataW H × List MemPlace}, DataW.trod enc Try.prog W 0 sp true n tb cs = some x → ∃ v, cs = [v] ∧ ∃ y, B W v y)
    {n : Nat} {cs : List Value} {x : DataW H × List MemPlace} (hn : DataW.trod enc Try.prog W 0 sp true n ts cs = some x) : ∃ v, cs = [v] ∧ ∃ xs : List (α × β), PairsV A B W v xs := by
  obtain ⟨f0, f1, he, o0, o1, t0, t1⟩ := he
  rcases open_slice hu hn with ⟨hcs, _⟩ | ⟨a, ln, cp, m, k, D, Pl, hcs, _, hl, hm, hmm, _, hx⟩
  · exact ⟨_, hcs, [], none, 0, rfl, fun i hi => by simp at hi, fun _ => ⟨rfl, rfl⟩, Nat.le_refl _, by omega⟩
  · have hlm : ln ≤ m := by rw [hmm]; split <;> omega
    have each : ∀ i, i < ln → ∃ q : (α × β) × Value × Value, W.cell? (a.add (i * 2)) = some q.2.1 ∧ W.cell? (a.add (i * 2 + 1)) = some q.2.2 ∧ A W q.2.1 q.1.1 ∧ B W q.2.2 q.1.2 := fun i hi => by
      obtain ⟨cs', h1, h2⟩ := hx i (by omega)
      rw [hc] at h1
      obtain ⟨_, hlen, hcell⟩ := World.cells?_some h1
      obtain ⟨xs, k', _, _, _, hxl, hf⟩ := DataW.trod_struct he h2
      match xs, hxl, cs', hlen with
      | [y0, y1], _, [v0, v1], _ =>
        have g0 := hf 0 f0 rfl
        have g1 := hf 1 f1 rfl
        simp [o0, o1, t0, t1, h1a, h1b] at g0 g1
        have e0 := hcell 0 (by omega)
        have e1 := hcell 1 (by omega)
        rw [Go.Deep.add_add] at e0 e1
        obtain ⟨u0, hu0, y, hy⟩ := hA g0
        obtain ⟨u1, hu1, z, hz⟩ := hB g1
        simp at hu0 hu1
        subst hu0; subst hu1
        exact ⟨((y, z), v0, v1), by simpa using e0, by simpa using e1, hy, hz⟩
    obtain ⟨q, hq⟩ := choose_lt (α := (α × β) × Value × Value) each
    have hlen : ((List.range ln).map fun i => (q i).1).length = ln := by simp
    refine ⟨_, hcs, (List.range ln).map fun i => (q i).1, some a, cp, by rw [hlen], fun i hi => ?_, (fun e => by cases e), by rw [hlen]; exact hl, by unfold maxLen at hm; omega⟩
    rw [hlen] at hi
    obtain ⟨a0, a1, a2, a3⟩ := hq i hi
    exact ⟨a, _, _, rfl, a0, a1, by simpa using a2, by simpa using a3⟩
theorem open_items0 {n : Nat} {cs : List Value} {x : DataW H × List MemPlace} (hn : DataW.trod enc Try.prog W 0 sp true n 48 cs = some x) : ∃ v, cs = [v] ∧ ∃ xs, ItemsV W v xs :=
  open_pairs Try.underlying48 item_fields item_cells recs_cells recs_cells open_recs0 open_recs0 hn
theorem open_cells0 {n : Nat} {cs : List Value} {x : DataW H × List MemPlace} (hn : DataW.trod enc Try.prog W 0 sp true n 25 cs = some x) : ∃ v, cs = [v] ∧ ∃ xs, CellsV W v xs :=
  open_pairs Try.underlying25 cell_fields cell_cells recs_cells items_cells open_recs0 open_items0 hn
theorem open_two {te ta tb : TypeId} (he : ∃ f0 f1 : Field, Try.prog.underlying te = some (.struct #[f0, f1]) ∧ f0.offset = 0 ∧ f1.offset = 1 ∧ f0.type = ta ∧ f1.type = tb) (hc : Try.prog.cellsOf te = 2) (h1a : Try.prog.cellsOf ta = 1) (h1b : Try.prog.cellsOf tb = 1)
    {b0 : Nat} {r : Reach} {v : Value} {d : DataW H} {p : List MemPlace} (hval : Value.okWide Try.prog W r b0 te v) (h : DataW.Trod enc Try.prog W 0 sp true te v d p) :
    ∃ v0 v1 n0 n1 x0 x1, v = .agg #[v0, v1] ∧ DataW.trod enc Try.prog W 0 sp true n0 ta [v0] = some x0 ∧ DataW.trod enc Try.prog W 0 sp true n1 tb [v1] = some x1 := by
  obtain ⟨f0, f1, he, o0, o1, t0, t1⟩ := he
  obtain ⟨cs, rfl, hcs⟩ := okWide_struct he hval
  rw [hc] at hcs
  obtain ⟨n, hn⟩ := h
  obtain ⟨xs, k', _, _, _, hxl, hf⟩ := DataW.trod_struct he hn
  obtain ⟨l0, rfl⟩ : ∃ l0 : List Value, cs = l0.toArray := ⟨cs.toList, by simp⟩
  have hl0 : l0.length = 2 := by simpa using hcs
  match xs, hxl, l0, hl0 with
  | [y0, y1], _, [v0, v1], _ =>
    have g0 := hf 0 f0 rfl
    have g1 := hf 1 f1 rfl
    simp [o0, o1, t0, t1, h1a, h1b, Value.cells] at g0 g1
    exact ⟨v0, v1, _, _, _, _, rfl, g0, g1⟩
/-- A tree that came in. -/
theorem open_lib {b0 : Nat} {r : Reach} {v : Value} {d : DataW H} {p : List MemPlace} (hval : Value.okWide Try.prog W r b0 27 v) (h : DataW.Trod enc Try.prog W 0 sp true 27 v d p) : ∃ t : KLib, LibV W v t := by
  obtain ⟨v0, v1, n0, n1, x0, x1, rfl, g0, g1⟩ := open_two lib_fields lib_cells recs_cells cells_cells hval h
  obtain ⟨u0, e0, y, hy⟩ := open_recs0 g0
  obtain ⟨u1, e1, z, hz⟩ := open_cells0 g1
  cases e0; cases e1
  exact ⟨(y, z), _, _, rfl, hy, hz⟩
/-- A cell that came in. -/
def CellV (W : World) (v : Value) (c : KCell) : Prop := ∃ a b, v = .agg #[a, b] ∧ RecsV W a c.1 ∧ ItemsV W b c.2
theorem open_cell {b0 : Nat} {r : Reach} {v : Value} {d : DataW H} {p : List MemPlace} (hval : Value.okWide Try.prog W r b0 50 v) (h : DataW.Trod enc Try.prog W 0 sp true 50 v d p) : ∃ c : KCell, CellV W v c := by
  obtain ⟨v0, v1, n0, n1, x0, x1, rfl, g0, g1⟩ := open_two cell_fields cell_cells recs_cells items_cells hval h
  obtain ⟨u0, e0, y, hy⟩ := open_recs0 g0
  obtain ⟨u1, e1, z, hz⟩ := open_items0 g1
  cases e0; cases e1
  exact ⟨(y, z), _, _, rfl, hy, hz⟩
end
end Go.Proofs.Ytcioefmldcmhgaa
