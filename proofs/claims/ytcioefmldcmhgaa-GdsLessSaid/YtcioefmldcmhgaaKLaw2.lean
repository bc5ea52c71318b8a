/-
  What the laws on records share, more: a record that came in.
-/
import Derived.Test.YtcioefmldcmhgaaKLaw
namespace Go.Proofs.Ytcioefmldcmhgaa
open Go.ChangeShapes Go.WideShapes Go.ChangeAt Go.RowKit Go.ChangeMaps Go.Deep
set_option maxRecDepth 100000
set_option linter.unusedVariables false
set_option linter.unusedSimpArgs false

section
variable {H : Type} {enc : TypeId × Value → H} {W : World} {sp : Nat → Bool}
theorem open_rec {b0 : Nat} {r : Reach} {v : Value} {d : DataW H} {p : List MemPlace} (hval : Value.okWide Try.prog W r b0 45 v) (h : DataW.Trod enc Try.prog W 0 sp true 45 v d p) :
    ∃ (k dt : Nat) (s : Option Addr) (n cap : Nat) (l : List Nat), v = .agg #[.int .u8 (k : Int), .int .u8 (dt : Int), .slice s n cap] ∧ l.length = n ∧ BySl W s l ∧ (s = none → n = 0 ∧ cap = 0) ∧ n ≤ cap ∧ cap ≤ 9223372036854775807 ∧ k < 256 ∧ dt < 256 := by
  obtain ⟨cs, rfl, hcs⟩ := okWide_struct Try.underlying45 hval
  rw [rec_cells] at hcs
  obtain ⟨n, hn⟩ := h
  obtain ⟨f0, f1, f2, he, o0, o1, o2, t0, t1, t2⟩ := rec_fields
  obtain ⟨xs, k', _, _, _, hxl, hf⟩ := DataW.trod_struct he hn
  obtain ⟨l0, rfl⟩ : ∃ l0 : List Value, cs = l0.toArray := ⟨cs.toList, by simp⟩
  have hl0 : l0.length = 3 := by simpa using hcs
  match xs, hxl, l0, hl0 with
  | [y0, y1, y2], _, [v0, v1, v2], _ =>
    have g0 := hf 0 f0 rfl
    have g1 := hf 1 f1 rfl
    have g2 := hf 2 f2 rfl
    simp [o0, o1, o2, t0, t1, t2, byte_cells, bytes_cells, Value.cells] at g0 g1 g2
    obtain ⟨x0, hx0, _, w0⟩ := DataW.trod_int Try.underlying5 g0
    obtain ⟨x1, hx1, _, w1⟩ := DataW.trod_int Try.underlying5 g1
    obtain ⟨sb, lb, cb, l, hx2, hl1, hl2, hl3, hl4, hl5⟩ := open_by0 g2
    simp at hx0 hx1 hx2
    subst hx0; subst hx1; subst hx2; subst hl1
    have b0 := u8_wf w0
    have b1 := u8_wf w1
    refine ⟨x0.toNat, x1.toNat, sb, l.length, cb, l, ?_, rfl, hl2, hl3, hl4, hl5, by omega, by omega⟩
    rw [Int.toNat_of_nonneg b0.1, Int.toNat_of_nonneg b1.1]
end
end Go.Proofs.Ytcioefmldcmhgaa
