/-
  What the laws on records share, more: whole numbers that came in.
-/
import Derived.Test.YteienakimdpfhaaKLaw
import Derived.Test.YteienakimdpfhaaRecordNumbersW
namespace Go.Proofs.Yteienakimdpfhaa
open Go.ChangeShapes Go.WideShapes Go.ChangeAt Go.RowKit Go.ChangeMaps Go.Deep
set_option maxRecDepth 100000
set_option linter.unusedVariables false
set_option linter.unusedSimpArgs false

section
variable {H : Type} {enc : TypeId × Value → H} {W : World} {sp : Nat → Bool}
theorem i64_wf {x : Int} (h : (Lit.int .i64 x).wf = true) : -9223372036854775808 ≤ x ∧ x ≤ 9223372036854775807 := by
  have h2 : IntKind.i64.min ≤ x ∧ x ≤ IntKind.i64.max := by simpa [Lit.wf] using h
  have e1 : IntKind.i64.min = -9223372036854775808 := by decide
  have e2 : IntKind.i64.max = 9223372036854775807 := by decide
  omega
theorem open_is {a0 : Option Addr} {len cap : Nat} {d : DataW H} {p : List MemPlace} (h : DataW.Trod enc Try.prog W 0 sp true 45 (.slice a0 len cap) d p) :
    ∃ l : List Int, l.length = len ∧ (InSl W a0 l ∧ I64 l) ∧ (a0 = none → len = 0 ∧ cap = 0) ∧ len ≤ cap ∧ cap ≤ 9223372036854775807 := by
  obtain ⟨n, hn⟩ := h
  rcases open_ints Try.underlying45 Try.underlying3 (by kernel_rfl) hn with ⟨hcs, _⟩ | ⟨a, ln, cp, zs, hcs, _, hl, hm, hz, _, hcell, hwf⟩
  · simp [Value.cells] at hcs
    obtain ⟨rfl, rfl, rfl⟩ := hcs
    exact ⟨[], rfl, ⟨fun i hi => by simp at hi, fun x hx => by cases hx⟩, fun _ => ⟨rfl, rfl⟩, Nat.le_refl _, by omega⟩
  · simp [Value.cells] at hcs
    obtain ⟨rfl, rfl, rfl⟩ := hcs
    have hzl : len ≤ zs.length := by rw [hz]; split <;> omega
    refine ⟨zs.take len, by rw [List.length_take]; omega, ⟨fun i hi => ?_, fun x hx => i64_wf (hwf x (List.mem_of_mem_take hx))⟩, fun e => (by cases e), hl, by unfold maxLen at hm; exact hm⟩
    rw [List.length_take] at hi
    refine ⟨a, rfl, ?_⟩
    rw [hcell i (by omega), List.getElem_take, List.getD_eq_getElem?_getD, List.getElem?_eq_getElem (by omega), Option.getD_some]
end
end Go.Proofs.Yteienakimdpfhaa
