/- Records: the chapter's list, and what is right: the mathematics. -/
import Derived.Test.YtcioefmldcmhgaaKBase
namespace Go.Proofs.Ytcioefmldcmhgaa
open Go.RowKit
set_option maxRecDepth 100000
set_option linter.unusedVariables false
set_option linter.unusedSimpArgs false

abbrev Frm := Nat × Nat × Nat × Nat
/-- What the list says of a kind: its Data, the bytes of a piece, how many pieces at most, which signs (0: it is no text; 1: no 0; 2: a name's). -/
def frm (k : Nat) : Option Frm :=
  if k ∈ [0, 13, 14, 22, 33, 34, 42, 43, 46, 54, 57] then some (2, 2, 1, 0)
  else if k ∈ [1, 5] then some (2, 24, 1, 0)
  else if k ∈ [19] then some (2, 4, 1, 0)
  else if k ∈ [59] then some (2, 6, 32, 0)
  else if k ∈ [4, 7, 8, 9, 10, 11, 12, 17, 21, 45, 56] then some (0, 0, 0, 0)
  else if k ∈ [15, 47, 48, 49] then some (3, 4, 1, 0)
  else if k ∈ [16] then some (3, 8, 8191, 0)
  else if k ∈ [27, 28] then some (5, 8, 1, 0)
  else if k ∈ [3] then some (5, 16, 1, 0)
  else if k ∈ [23, 26, 38, 52] then some (1, 2, 1, 0)
  else if k ∈ [2, 25, 44, 55, 58] then some (6, 2, 256, 1)
  else if k ∈ [6, 18] then some (6, 2, 16, 2)
  else if k ∈ [35] then some (6, 44, 1, 0)
  else if k ∈ [32] then some (6, 176, 1, 0)
  else if k ∈ [31] then some (6, 44, 17, 0)
  else none
def nameB (x : Nat) : Bool := decide (65 ≤ x ∧ x ≤ 90 ∨ 97 ≤ x ∧ x ≤ 122 ∨ 48 ≤ x ∧ x ≤ 57 ∨ x = 95 ∨ x = 63 ∨ x = 36)
/-- May a text have a byte? -/
def signB (g : Nat) (x : Nat) : Bool := if g = 1 then decide (x ≠ 0) else nameB x
/-- A text's bytes without the 0 at their end. -/
def lettersL (l : List Nat) : List Nat := if l.getLast? = some 0 then l.dropLast else l
def fitsB (p m n : Nat) : Bool := if m = 0 then decide (n = 0) else decide (0 < n ∧ n % p = 0 ∧ n / p ≤ m)
def spellsB (g : Nat) (l : List Nat) : Bool := decide (g = 0) || (decide (0 < (lettersL l).length) && (lettersL l).all (signB g))
def rightB (k d : Nat) (l : List Nat) : Bool :=
  match frm k with
  | none => false
  | some (dd, p, m, g) => decide (d = dd) && (fitsB p m l.length && spellsB g l)
/-- The document's: a sign at its place. -/
def placeB (names : Bool) (l : List Nat) (i : Nat) : Bool := (decide (i + 1 = l.length) && decide (l.getD i 0 = 0)) || (decide (l.getD i 0 ≠ 0) && (!names || nameB (l.getD i 0)))
def textB (l : List Nat) (most : Nat) (names : Bool) : Bool := decide (l.length ≠ 0) && (decide (l.length % 2 = 0) && (decide (l.length ≤ most) && (List.range l.length).all (placeB names l)))
theorem nameB_zero : nameB 0 = false := by decide
theorem letters_end {l : List Nat} (h : l.getLast? = some 0) : lettersL l = l.dropLast := if_pos h
theorem letters_none {l : List Nat} (h : l.getLast? ≠ some 0) : lettersL l = l := if_neg h
theorem place_get (names : Bool) (l : List Nat) (h : l.length % 2 = 0) (h0 : l.length ≠ 0) :
    (List.range l.length).all (placeB names l) = (decide (0 < (lettersL l).length) && (lettersL l).all (signB (if names then 2 else 1))) := by
  rw [Bool.eq_iff_iff]
  have hs : ∀ x, signB (if names then 2 else 1) x = true ↔ (x ≠ 0 ∧ (names = true → nameB x = true)) := by
    intro x
    cases names
    · simp [signB]
    · simp [signB]
      rintro h rfl
      simp [nameB] at h
  simp only [List.all_eq_true, List.mem_range, Bool.and_eq_true, decide_eq_true_eq, hs]
  have hp : ∀ i, placeB names l i = true ↔ ((i + 1 = l.length ∧ l.getD i 0 = 0) ∨ (l.getD i 0 ≠ 0 ∧ (names = true → nameB (l.getD i 0) = true))) := by
    intro i
    simp only [placeB, Bool.or_eq_true, Bool.and_eq_true, decide_eq_true_eq]
    cases names <;> simp
  simp only [hp]
  have hlast : l.getLast? = some (l.getD (l.length - 1) 0) := by
    rw [List.getLast?_eq_getElem?, List.getD_eq_getElem?_getD]
    rw [List.getElem?_eq_getElem (by omega)]; rfl
  by_cases he : l.getLast? = some 0
  · rw [letters_end he]
    rw [hlast] at he
    have h0' : l.getD (l.length - 1) 0 = 0 := by simpa using he
    constructor
    · intro h1
      refine ⟨by rw [List.length_dropLast]; omega, fun x hx => ?_⟩
      obtain ⟨i, hi, rfl⟩ := List.getElem_of_mem hx
      rw [List.length_dropLast] at hi
      rw [List.getElem_dropLast]
      have h2 := h1 i (by omega)
      rw [List.getD_eq_getElem?_getD, List.getElem?_eq_getElem (by omega)] at h2
      exact h2.resolve_left (fun h => by omega)
    · rintro ⟨_, h1⟩ i hi
      by_cases hi2 : i + 1 = l.length
      · left
        exact ⟨hi2, by rw [show i = l.length - 1 from by omega]; exact h0'⟩
      · right
        rw [List.getD_eq_getElem?_getD, List.getElem?_eq_getElem (by omega)]
        have hi3 : i < l.dropLast.length := by rw [List.length_dropLast]; omega
        have := h1 (l.dropLast[i]'hi3) (List.getElem_mem _)
        rw [List.getElem_dropLast] at this
        exact this
  · rw [letters_none he]
    rw [hlast] at he
    have h0' : l.getD (l.length - 1) 0 ≠ 0 := fun h => he (by rw [h])
    constructor
    · intro h1
      refine ⟨by omega, fun x hx => ?_⟩
      obtain ⟨i, hi, rfl⟩ := List.getElem_of_mem hx
      have h2 := h1 i hi
      have h3 : l.getD i 0 = l[i] := by rw [List.getD_eq_getElem?_getD, List.getElem?_eq_getElem hi]; rfl
      rw [h3] at h2
      rcases h2 with ⟨ha, hb⟩ | h2
      · exfalso; apply h0'; rw [show l.length - 1 = i from by omega, h3]; exact hb
      · exact h2
    · rintro ⟨_, h1⟩ i hi
      right
      rw [List.getD_eq_getElem?_getD, List.getElem?_eq_getElem hi]
      exact h1 _ (List.getElem_mem hi)
theorem text_fits (l : List Nat) (names : Bool) (m : Nat) (hm : m ≠ 0) : textB l (2 * m) names = (fitsB 2 m l.length && spellsB (if names then 2 else 1) l) := by
  by_cases h0 : l.length = 0
  · simp [textB, fitsB, h0, hm]
  by_cases h2 : l.length % 2 = 0
  · have e : decide (l.length ≤ 2 * m) = decide (l.length / 2 ≤ m) := by
      rw [decide_eq_decide]; omega
    unfold textB fitsB spellsB
    rw [place_get names l h2 h0, if_neg hm]
    have hg : decide ((if names = true then 2 else 1) = 0) = false := by cases names <;> rfl
    rw [hg, Bool.false_or, e]
    simp only [h2, Nat.pos_of_ne_zero h0]
    simp
    intros
    intro e
    exact h0 (by rw [e]; rfl)
  · simp [textB, fitsB, h2, hm]
theorem frm_some {k : Nat} {f : Frm} (h : frm k = some f) (d : Nat) (l : List Nat) : rightB k d l = (decide (d = f.1) && (fitsB f.2.1 f.2.2.1 l.length && spellsB f.2.2.2 l)) := by
  unfold rightB; rw [h]
theorem spells_zero (l : List Nat) : spellsB 0 l = true := rfl
theorem frm_none {k : Nat} (h : frm k = none) (d : Nat) (l : List Nat) : rightB k d l = false := by
  unfold rightB; rw [h]
end Go.Proofs.Ytcioefmldcmhgaa
