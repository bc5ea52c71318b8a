/- The document's own texts. -/
import Derived.Test.YtldkddogadmpbaaGreatDoorRefParse
namespace Go.Proofs.YtldkddogadmpbaaGreatDoor
open Go.RowKit Mat
set_option maxRecDepth 100000
set_option linter.unusedVariables false
set_option linter.unusedSimpArgs false

def DigL (l : List Nat) : Prop := ∀ k (h : k < l.length), 48 ≤ l[k] ∧ l[k] ≤ 57
theorem DigL.append {l m : List Nat} (h : DigL l) (g : DigL m) : DigL (l ++ m) := by
  intro k hk
  rcases Nat.lt_or_ge k l.length with h1 | h1
  · rw [List.getElem_append_left h1]; exact h k h1
  · rw [List.getElem_append_right h1]; exact g _ _
theorem DigL.drop {l : List Nat} (h : DigL l) (n : Nat) : DigL (l.drop n) := by
  intro k hk
  rw [List.getElem_drop]; exact h _ _
def u8l (x : Nat) : List UInt8 := [UInt8.ofNat (48 + x / 1000), UInt8.ofNat (48 + x / 100 % 10), UInt8.ofNat (48 + x / 10 % 10), UInt8.ofNat (48 + x % 10)]
def four4 (x : Nat) : ByteArray := ⟨(u8l x).toArray⟩
theorem bts_four (x : Nat) (h : x < 10000) : bts (four4 x) = [48 + x / 1000, 48 + x / 100 % 10, 48 + x / 10 % 10, 48 + x % 10] := by
  have h1 : 48 + x / 1000 < 256 := by omega
  have h2 : 48 + x / 100 % 10 < 256 := by omega
  have h3 : 48 + x / 10 % 10 < 256 := by omega
  have h4 : 48 + x % 10 < 256 := by omega
  simp [bts, four4, u8l, UInt8.toNat_ofNat', Nat.mod_eq_of_lt h1, Nat.mod_eq_of_lt h2, Nat.mod_eq_of_lt h3, Nat.mod_eq_of_lt h4]
theorem bts_app (s t : ByteArray) : bts (s ++ t) = bts s ++ bts t := by
  unfold bts
  rw [ByteArray.data_append, Array.toList_append, List.map_append]
theorem dig_four (x : Nat) (h : x < 10000) : DigL (bts (four4 x)) := by
  rw [bts_four x h]
  intro k hk
  simp only [List.length_cons, List.length_nil] at hk
  rcases (show k = 0 ∨ k = 1 ∨ k = 2 ∨ k = 3 by omega) with rfl | rfl | rfl | rfl <;> simp <;> omega
theorem dval_four (x : Nat) (h : x < 10000) : dval (bts (four4 x)) = x := by
  rw [bts_four x h]
  simp [dval]; omega
theorem dval_cons48 (l : List Nat) : dval (48 :: l) = dval l := rfl

end Go.Proofs.YtldkddogadmpbaaGreatDoor
