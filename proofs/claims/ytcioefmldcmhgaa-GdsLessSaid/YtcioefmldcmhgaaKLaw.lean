/-
  What the laws on records share: the frame behind a walk; rows of bytes, of whole numbers and of records that came in.
-/
import Derived.Test.YtcioefmldcmhgaaKRow
import Derived.Test.YtcioefmldcmhgaaRows
import Derived.ProofKit
import Derived.OpenShut
import Derived.ChangeSlices
import Derived.ChangeOld
import Derived.Deep.Slices
import Derived.Deep.DeepHandedRow
namespace Go.Proofs.Ytcioefmldcmhgaa
open Go.ChangeShapes Go.WideShapes Go.ChangeAt Go.RowKit Go.ChangeMaps Go.Deep
set_option maxRecDepth 100000
set_option linter.unusedVariables false
set_option linter.unusedSimpArgs false

theorem law_own : ownKnob Try.prog.godebug = none := by kernel_rfl
/-- The world behind the call but for new blocks. -/
theorem kept_of_grown {W W' : World} (h : W.grownBy W' none) : W.keptBut W' (fun _ => False) := by
  refine ⟨h.os, h.output, fun i hi => ?_⟩
  rw [h.block i hi (by simp)]
  cases W.heap[i]? with
  | none => rfl
  | some o => cases o <;> simp
theorem grown_same {W W' : World} (h : W.grownBy W' none) {p : MemPlace} (hp : p.block < W.heap.size) : W.sameAt W' p := by
  cases p with
  | cell b o => exact World.cell?_of_block (w := W) (h.block b hp (by simp))
  | map b => exact h.block b hp (by simp)
theorem grown_frozen {W W' : World} (h : W.grownBy W' none) {b off : Nat} (hp : b < W.heap.size) : W'.frozen? ⟨b, off, none⟩ = W.frozen? ⟨b, off, none⟩ := by
  unfold World.frozen?
  rw [h.block b hp (by simp)]
theorem post_places {H : Type} {enc : TypeId × Value → H} {P : Program} {f : Func} {s : ChangeSpec} {apart fresh handsOn again : Bool} {W W' : World} {args : Array Value} {v : Value} {ds gs : List (DataW H)} {before : List MemPlace}
    (hW : DataW.Whole enc P f.params.toList s.vars apart W args.toList ds gs before)
    (hlt : ∀ p ∈ before, p.block < W.heap.size)
    (hres : ∀ (b : Nat) (sp : Nat → Bool) (hd : Bool), DataW.TrodAll enc P W' b sp hd f.resultTypes.toList (v.resultList f.resultTypes.size) (s.fn H (ds ++ gs)).results [])
    (hargs : ∀ sp : Nat → Bool, (∀ p ∈ before, sp p.block = true) → DataW.TrodAll enc P W' 0 sp true f.params.toList args.toList (s.fn H (ds ++ gs)).args before)
    (hvars : ∀ sp : Nat → Bool, DataW.TrodVars enc P W' sp s.vars (s.fn H (ds ++ gs)).vars [])
    (hg : W.grownBy W' none)
    (hok : ∀ (j : Nat) (t : TypeId) (r : Value), f.resultTypes[j]? = some t → (v.resultList f.resultTypes.size)[j]? = some r → Value.okWide P W' .any 0 t r) :
    s.post enc P f apart fresh handsOn again W args v W' := by
  have hW2 := hW
  obtain ⟨_, _, _, _, _, hfz, hnd⟩ := hW2
  have hA := hargs (fun b => decide (b < W.heap.size)) (fun p hp => decide_eq_true (hlt p hp))
  refine ⟨ds, gs, before, [], before, [], hW, hres _ _ _, hA, hvars _, World.keptBut_mono (fun p hp => hp.elim) (kept_of_grown hg), fun _ => ?_⟩
  refine ⟨hok, _, _, before, ⟨before, [], trodAll_append (hargs (fun _ => true) (fun _ _ => rfl)) (hres _ _ _), hvars _, (List.append_nil _).symm, ?_, hnd⟩, fun p hp _ => hp⟩
  intro b off hp
  rw [grown_frozen hg (show b < W.heap.size from hlt _ hp)]
  exact hfz b off hp
section
variable {H : Type} {enc : TypeId × Value → H} {W : World} {sp : Nat → Bool}
theorem u8_wf {x : Int} (h : (Lit.int .u8 x).wf = true) : 0 ≤ x ∧ x < 256 := by
  have h2 : IntKind.u8.min ≤ x ∧ x ≤ IntKind.u8.max := by simpa [Lit.wf] using h
  have e1 : IntKind.u8.min = 0 := by decide
  have e2 : IntKind.u8.max = 255 := by decide
  omega
theorem open_by0 {n : Nat} {cs : List Value} {x : DataW H × List MemPlace} (hn : DataW.trod enc Try.prog W 0 sp true n 22 cs = some x) :
    ∃ (a0 : Option Addr) (len cap : Nat) (l : List Nat), cs = [.slice a0 len cap] ∧ l.length = len ∧ BySl W a0 l ∧ (a0 = none → len = 0 ∧ cap = 0) ∧ len ≤ cap ∧ cap ≤ 9223372036854775807 := by
  rcases open_ints Try.underlying22 Try.underlying5 (by kernel_rfl) hn with ⟨hcs, _⟩ | ⟨a, len, cap, zs, hcs, _, hl, hm, hz, _, hcell, hwf⟩
  · exact ⟨none, 0, 0, [], hcs, rfl, BySl.nil _ _, fun _ => ⟨rfl, rfl⟩, Nat.le_refl _, by omega⟩
  · have hzl : len ≤ zs.length := by rw [hz]; split <;> omega
    have hw : ∀ x ∈ zs, 0 ≤ x ∧ x < 256 := fun x hx => u8_wf (hwf x hx)
    refine ⟨some a, len, cap, (zs.take len).map Int.toNat, hcs, by rw [List.length_map, List.length_take]; omega, ⟨Or.inr ⟨a, rfl, fun i hi => ?_⟩, fun x hx => ?_⟩, fun e => (by cases e), hl, by unfold maxLen at hm; exact hm⟩
    · rw [List.length_map, List.length_take] at hi
      rw [hcell i (by omega)]
      have h0 := hw zs[i] (List.getElem_mem (by omega))
      rw [List.getElem_map, List.getElem_take, List.getD_eq_getElem?_getD, List.getElem?_eq_getElem (by omega), Option.getD_some, Int.toNat_of_nonneg h0.1]
    · rw [List.mem_map] at hx
      obtain ⟨y, hy, rfl⟩ := hx
      have := hw y (List.mem_of_mem_take hy)
      omega
theorem open_by {a0 : Option Addr} {len cap : Nat} {d : DataW H} {p : List MemPlace} (h : DataW.Trod enc Try.prog W 0 sp true 22 (.slice a0 len cap) d p) :
    ∃ l : List Nat, l.length = len ∧ BySl W a0 l ∧ (a0 = none → len = 0 ∧ cap = 0) ∧ len ≤ cap ∧ cap ≤ 9223372036854775807 := by
  obtain ⟨n, hn⟩ := h
  obtain ⟨b0, ln, cp, l, e, h⟩ := open_by0 hn
  simp [Value.cells] at e
  obtain ⟨rfl, rfl, rfl⟩ := e
  exact ⟨l, h⟩
theorem rec_fields : ∃ f0 f1 f2 : Field, Try.prog.underlying 45 = some (.struct #[f0, f1, f2]) ∧ f0.offset = 0 ∧ f1.offset = 1 ∧ f2.offset = 2 ∧ f0.type = 5 ∧ f1.type = 5 ∧ f2.type = 22 :=
  ⟨_, _, _, Try.underlying45, rfl, rfl, rfl, rfl, rfl, rfl⟩
theorem rec_cells : Try.prog.cellsOf 45 = 3 := by kernel_rfl
theorem byte_cells : Try.prog.cellsOf 5 = 1 := by kernel_rfl
theorem bytes_cells : Try.prog.cellsOf 22 = 1 := by kernel_rfl
/-- A row of records that came in. -/
theorem open_rcs {a0 : Option Addr} {len cap : Nat} {d : DataW H} {p : List MemPlace} (h : DataW.Trod enc Try.prog W 0 sp true 24 (.slice a0 len cap) d p) :
    ∃ rs : List KRec, rs.length = len ∧ RcSl W a0 rs ∧ (∀ r ∈ rs, r.1 < 256 ∧ r.2.1 < 256) ∧ (a0 = none → len = 0 ∧ cap = 0) ∧ len ≤ cap ∧ cap ≤ 9223372036854775807 := by
  obtain ⟨n, hn⟩ := h
  rcases open_slice Try.underlying24 hn with ⟨hcs, _⟩ | ⟨a, ln, cp, m, k, D, Pl, hcs, _, hl, hm, hmm, _, hx⟩
  · simp [Value.cells] at hcs
    obtain ⟨rfl, rfl, rfl⟩ := hcs
    exact ⟨[], rfl, fun i hi => by simp at hi, fun _ h => by simp at h, fun _ => ⟨rfl, rfl⟩, Nat.le_refl _, by omega⟩
  · simp [Value.cells] at hcs
    obtain ⟨rfl, rfl, rfl⟩ := hcs
    have hlm : len ≤ m := by rw [hmm]; split <;> omega
    obtain ⟨f0, f1, f2, he, o0, o1, o2, t0, t1, t2⟩ := rec_fields
    have each : ∀ i, i < len → ∃ q : KRec × Option Addr × Nat, W.cell? (a.add (i * 3)) = some (.int .u8 (q.1.1 : Int)) ∧ W.cell? (a.add (i * 3 + 1)) = some (.int .u8 (q.1.2.1 : Int)) ∧ W.cell? (a.add (i * 3 + 2)) = some (.slice q.2.1 q.1.2.2.length q.2.2) ∧ BySl W q.2.1 q.1.2.2 ∧ (q.2.1 = none → q.1.2.2.length = 0 ∧ q.2.2 = 0) ∧ q.1.2.2.length ≤ q.2.2 ∧ q.2.2 ≤ 9223372036854775807 ∧ q.1.1 < 256 ∧ q.1.2.1 < 256 := fun i hi => by
      obtain ⟨cs', h1, h2⟩ := hx i (by omega)
      rw [rec_cells] at h1
      obtain ⟨_, hlen, hcell⟩ := World.cells?_some h1
      obtain ⟨xs, k', _, _, _, hxl, hf⟩ := DataW.trod_struct he h2
      match xs, hxl, cs', hlen with
      | [y0, y1, y2], _, [v0, v1, v2], _ =>
        have g0 := hf 0 f0 rfl
        have g1 := hf 1 f1 rfl
        have g2 := hf 2 f2 rfl
        simp [o0, o1, o2, t0, t1, t2, byte_cells, bytes_cells] at g0 g1 g2
        have e0 := hcell 0 (by omega)
        have e1 := hcell 1 (by omega)
        have e2 := hcell 2 (by omega)
        rw [Go.Deep.add_add] at e0 e1 e2
        obtain ⟨x0, hx0, _, w0⟩ := DataW.trod_int Try.underlying5 g0
        obtain ⟨x1, hx1, _, w1⟩ := DataW.trod_int Try.underlying5 g1
        obtain ⟨sb, lb, cb, l, hx2, hl1, hl2, hl3, hl4, hl5⟩ := open_by0 g2
        simp at hx0 hx1 hx2
        subst hx0; subst hx1; subst hx2; subst hl1
        have b0 := u8_wf w0
        have b1 := u8_wf w1
        refine ⟨((x0.toNat, x1.toNat, l), sb, cb), ?_, ?_, ?_, hl2, hl3, hl4, hl5, ?_, ?_⟩
        · simpa [Int.toNat_of_nonneg b0.1] using e0
        · simpa [Int.toNat_of_nonneg b1.1] using e1
        · simpa using e2
        · show x0.toNat < 256; omega
        · show x1.toNat < 256; omega
    obtain ⟨q, hq⟩ := choose_lt (α := KRec × Option Addr × Nat) each
    refine ⟨(List.range len).map fun i => (q i).1, by simp, fun i hi => ?_, fun r hr => ?_, fun e => (by cases e), hl, by unfold maxLen at hm; exact hm⟩
    · have hi' : i < len := by simpa using hi
      obtain ⟨a0, a1, a2, a3, a4, a5, a6, _⟩ := hq i hi'
      rw [List.getElem_map, List.getElem_range]
      exact ⟨a, (q i).2.1, (q i).2.2, rfl, a0, a1, a2, a3, a4, a5, a6⟩
    · rw [List.mem_map] at hr
      obtain ⟨i, hi, rfl⟩ := hr
      exact (hq i (List.mem_range.1 hi)).2.2.2.2.2.2.2
end
end Go.Proofs.Ytcioefmldcmhgaa
