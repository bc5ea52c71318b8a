/- The laid table, and a world for the witnesses. -/
import Derived.Test.YtooeonjkpgbdpaaDoorFrame
namespace Go.Proofs.YtooeonjkpgbdpaaDoor
open Go.ChangeShapes Go.WideShapes Go.ChangeAt Go.RowKit Go.ChangeMaps Mat
set_option maxRecDepth 100000
set_option linter.unusedVariables false
set_option linter.unusedSimpArgs false

theorem u64_nat {z : Int} (h : (Lit.int .u64 z).wf = true) : ∃ n : Nat, z = (n : Int) ∧ n < 18446744073709551616 := by
  simp only [Lit.wf, Bool.and_eq_true, decide_eq_true_eq] at h
  have h1 : IntKind.u64.max = 18446744073709551615 := rfl
  have h2 : IntKind.u64.min = 0 := rfl
  rw [h1, h2] at h
  exact ⟨z.toNat, by omega, by omega⟩
end Go.Proofs.YtooeonjkpgbdpaaDoor
