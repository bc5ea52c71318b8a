/- Records: numbers as bytes, and back: the mathematics. -/
import Derived.Test.YteienakimdpfhaaKBase
namespace Go.Proofs.Yteienakimdpfhaa
open Go.RowKit
set_option maxRecDepth 100000
set_option linter.unusedVariables false
set_option linter.unusedSimpArgs false

/-- The number that bytes are, the highest first. -/
def beN (l : List Nat) : Nat := l.foldl (fun n x => n * 256 + x) 0
theorem beN_snoc (l : List Nat) (x : Nat) : beN (l ++ [x]) = beN l * 256 + x := by unfold beN; rw [List.foldl_append]; rfl
theorem beN_take (l : List Nat) (k : Nat) (h : k < l.length) : beN (l.take (k + 1)) = beN (l.take k) * 256 + l.getD k 0 := by
  rw [List.take_succ_eq_append_getElem h, beN_snoc, List.getD_eq_getElem?_getD, List.getElem?_eq_getElem h]; rfl
/-- ... whose highest bit is the sign. -/
def sgN (l : List Nat) : Int := if 256 ^ l.length ≤ 2 * beN l then (beN l : Int) - ((256 ^ l.length : Nat) : Int) else (beN l : Int)
theorem beN_lt {l : List Nat} (h : ∀ x ∈ l, x < 256) : beN l < 256 ^ l.length := by
  have aux : ∀ k, k ≤ l.length → beN (l.take k) < 256 ^ k := by
    intro k
    induction k with
    | zero => intro _; simp [beN]
    | succ k ih =>
      intro hk
      have h1 := ih (by omega)
      have h2 : l.getD k 0 < 256 := by
        rw [List.getD_eq_getElem?_getD, List.getElem?_eq_getElem (by omega)]; exact h _ (List.getElem_mem _)
      rw [beN_take l k (by omega), Nat.pow_succ]; omega
  have := aux l.length (Nat.le_refl _)
  rwa [List.take_length] at this
theorem sgN_snoc {l : List Nat} (h0 : 0 < l.length) (x : Nat) (hx : x < 256) : sgN (l ++ [x]) = sgN l * 256 + (x : Int) := by
  obtain ⟨k, hk⟩ : ∃ k, l.length = k + 1 := ⟨l.length - 1, by omega⟩
  unfold sgN
  rw [beN_snoc, List.length_append, show [x].length = 1 from rfl, Nat.pow_succ, hk, Nat.pow_succ]
  obtain ⟨P, hP⟩ : ∃ P, 256 ^ k = P := ⟨_, rfl⟩
  rw [hP]
  by_cases h : P * 256 ≤ 2 * beN l
  · rw [if_pos h, if_pos (by omega)]; omega
  · rw [if_neg h, if_neg (by omega)]; omega
theorem sgN_take {l : List Nat} {k : Nat} (h0 : 0 < k) (hk : k < l.length) (hx : l.getD k 0 < 256) : sgN (l.take (k + 1)) = sgN (l.take k) * 256 + (l.getD k 0 : Nat) := by
  have e : l.getD k 0 = l[k] := by rw [List.getD_eq_getElem?_getD, List.getElem?_eq_getElem hk]; rfl
  rw [List.take_succ_eq_append_getElem hk, sgN_snoc (by rw [List.length_take]; omega) _ (by rw [← e]; exact hx), e]
theorem sgN_one (x : Nat) (hx : x < 256) : sgN [x] = if 128 ≤ x then (x : Int) - 256 else (x : Int) := by
  unfold sgN beN
  simp only [List.foldl_cons, List.foldl_nil, List.length_cons, List.length_nil, Nat.zero_mul, Nat.zero_add, Nat.pow_one]
  by_cases h : 128 ≤ x
  · rw [if_pos h, if_pos (by omega)]; rfl
  · rw [if_neg h, if_neg (by omega)]
theorem sgN_bd {l : List Nat} (h0 : 0 < l.length) (h : ∀ x ∈ l, x < 256) : -((256 ^ l.length : Nat) : Int) ≤ 2 * sgN l ∧ 2 * sgN l < ((256 ^ l.length : Nat) : Int) := by
  have := beN_lt h
  unfold sgN
  split <;> omega
/-- The numbers of so many bytes each. -/
def numsL (size : Nat) (l : List Nat) : List Int := (List.range (l.length / size)).map fun i => sgN ((l.drop (i * size)).take size)
/-- What Shorts and Longs answer. -/
def numsD (size : Nat) (l : List Nat) : Nat × List Int := if l.length % size = 0 then (0, numsL size l) else (3, [])
theorem numsL_len (size : Nat) (l : List Nat) : (numsL size l).length = l.length / size := by simp [numsL]
theorem numsL_get (size : Nat) (l : List Nat) (i : Nat) (h : i < (numsL size l).length) : (numsL size l)[i] = sgN ((l.drop (i * size)).take size) := by simp [numsL]
theorem nums_take (size : Nat) (l : List Nat) (k : Nat) (h : k < l.length / size) : (numsL size l).take (k + 1) = (numsL size l).take k ++ [sgN ((l.drop (k * size)).take size)] := by
  rw [List.take_succ_eq_append_getElem (by rw [numsL_len]; exact h), numsL_get]
theorem numsD_ok {size : Nat} {l : List Nat} (h : l.length % size = 0) : numsD size l = (0, numsL size l) := if_pos h
theorem numsD_bad {size : Nat} {l : List Nat} (h : l.length % size ≠ 0) : numsD size l = (3, []) := if_neg h
/-- A number's byte at a place. -/
def byteN (n : Int) (p : Nat) : Nat := (n / ((256 ^ p : Nat) : Int) % 256).toNat
theorem byteN_lt (n : Int) (p : Nat) : byteN n p < 256 := by unfold byteN; omega
/-- A number's lowest bytes, the highest first. -/
def bytesN (size : Nat) (n : Int) : List Nat := (List.range size).map fun i => byteN n (size - 1 - i)
theorem bytesN_len (size : Nat) (n : Int) : (bytesN size n).length = size := by simp [bytesN]
theorem bytesN_lt (size : Nat) (n : Int) : ∀ x ∈ bytesN size n, x < 256 := by
  intro x hx
  unfold bytesN at hx
  rw [List.mem_map] at hx
  obtain ⟨i, _, rfl⟩ := hx
  exact byteN_lt _ _
theorem bytesN_take (size : Nat) (n : Int) (k : Nat) (h : k < size) : (bytesN size n).take (k + 1) = (bytesN size n).take k ++ [byteN n (size - 1 - k)] := by
  rw [List.take_succ_eq_append_getElem (by rw [bytesN_len]; exact h)]
  simp [bytesN]
def laidL (size : Nat) (l : List Int) : List Nat := l.flatMap (bytesN size)
theorem laidL_nil (size : Nat) : laidL size [] = [] := rfl
theorem laidL_take (size : Nat) (l : List Int) (k : Nat) (h : k < l.length) : laidL size (l.take (k + 1)) = laidL size (l.take k) ++ bytesN size l[k] := by
  rw [List.take_succ_eq_append_getElem h]; unfold laidL; rw [List.flatMap_append]; simp
theorem laidL_len (size : Nat) (l : List Int) : (laidL size l).length = l.length * size := by
  induction l with
  | nil => simp [laidL]
  | cons x l ih => unfold laidL at *; rw [List.flatMap_cons, List.length_append, ih, bytesN_len, List.length_cons, Nat.add_mul]; omega
theorem laidL_lt (size : Nat) (l : List Int) : ∀ x ∈ laidL size l, x < 256 := by
  intro x hx
  unfold laidL at hx
  rw [List.mem_flatMap] at hx
  obtain ⟨n, _, hx⟩ := hx
  exact bytesN_lt size n x hx
end Go.Proofs.Yteienakimdpfhaa
