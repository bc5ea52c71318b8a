/- More that the laws' walks share: roots are one, long numbers. -/
import Derived.Test.YtooeonjkpgbdpaaDoorKit2
import Derived.Test.YtooeonjkpgbdpaaDoorRefRoot
namespace Go.Proofs.YtooeonjkpgbdpaaDoor
open Go.RowKit Mat
set_option maxRecDepth 100000
set_option linter.unusedVariables false
set_option linter.unusedSimpArgs false

theorem root_uniq {a r s : Nat} (hr : IsRoot a r) (hs : IsRoot a s) : r = s := by
  obtain ⟨h1, h2⟩ := hr
  obtain ⟨h3, h4⟩ := hs
  rcases Nat.lt_trichotomy r s with h | h | h
  · have := Nat.mul_le_mul (show r + 1 ≤ s from h) (show r + 1 ≤ s from h)
    omega
  · exact h
  · have := Nat.mul_le_mul (show s + 1 ≤ r from h) (show s + 1 ≤ r from h)
    omega
theorem num_bd_long (s : ByteArray) (hs : s.size ≤ 4096) : num s < B ^ 213 :=
  Nat.lt_of_lt_of_le (num_lt s 4096 hs) (by decide +kernel)
theorem rTwo_64 (w : World) : Calls Tryd.prog 20 #[.int .i64 64] w (RetRef w B) := rTwo_any w 64 (by omega)
theorem B_lt_D : B < D ^ 1000000 := by
  obtain ⟨E, hE⟩ : ∃ E, E = 1000000 := ⟨_, rfl⟩
  rw [← hE]
  have h1 : D ^ 5 ≤ D ^ E := Nat.pow_le_pow_right D_pos (by omega)
  have h2 : B < D ^ 5 := by decide
  omega
end Go.Proofs.YtooeonjkpgbdpaaDoor
