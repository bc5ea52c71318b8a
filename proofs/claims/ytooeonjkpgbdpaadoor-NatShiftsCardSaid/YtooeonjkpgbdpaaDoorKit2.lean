/- More that the laws' walks share: bounds for quotients of the document's own, few's answers. -/
import Derived.Test.YtooeonjkpgbdpaaDoorKit
import Derived.Test.YtooeonjkpgbdpaaDoorRefGcd
namespace Go.Proofs.YtooeonjkpgbdpaaDoor
open Go.RowKit Mat
set_option maxRecDepth 100000
set_option linter.unusedVariables false
set_option linter.unusedSimpArgs false

theorem toD4 {a k : Nat} (h : a < B ^ k) (hk : k ≤ 80000) : a < D ^ 400000 := by
  obtain ⟨E, hE⟩ : ∃ E, E = 400000 := ⟨_, rfl⟩
  rw [← hE]
  refine Nat.lt_of_lt_of_le h ?_
  have h1 : B ^ k ≤ (D ^ 5) ^ k := Nat.pow_le_pow_left (by decide) k
  rw [← Nat.pow_mul] at h1
  exact Nat.le_trans h1 (Nat.pow_le_pow_right D_pos (by omega))
theorem few_60 (w : World) (s : ByteArray) : Calls Tryd.prog 41 #[.string s, .int .i64 60] w (fun e w' => e = .returned (.string (fewB s 60)) ∧ w = w') := few_any w s 60 (by omega)
theorem refv_len {w : World} {s : Option Addr} {l c n : Nat} (h : RefV w (.agg #[.slice s l c]) n) : (n = 0 → l = 0) ∧ (0 < n → 0 < l) := by
  obtain ⟨s', l', c', xs, e, hl, -, -, ht, -, hv⟩ := h
  cases e
  refine ⟨fun h0 => ?_, fun h0 => ?_⟩
  · have := (val_zero_iff D D_pos xs ht).1 (hv.trans h0)
    rw [← hl, this]; rfl
  · rcases Nat.eq_zero_or_pos l with h1 | h1
    · rw [h1] at hl
      rw [List.length_eq_zero_iff.1 hl] at hv
      simp [val] at hv; omega
    · exact h1
theorem gcd_bd {a b k : Nat} (ha : a < B ^ k) (hb : b < B ^ k) : Nat.gcd a b < B ^ k := by
  rcases Nat.eq_zero_or_pos b with h | h
  · subst h; rw [Nat.gcd_zero_right]; exact ha
  · exact Nat.lt_of_le_of_lt (Nat.gcd_le_right _ h) hb
end Go.Proofs.YtooeonjkpgbdpaaDoor
