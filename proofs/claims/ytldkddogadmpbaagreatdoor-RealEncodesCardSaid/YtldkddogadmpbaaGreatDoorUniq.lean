/- Two texts of digits that name one number are one text. -/
import Derived.Test.YtldkddogadmpbaaGreatDoorRefAdd
namespace Go.Proofs.YtldkddogadmpbaaGreatDoor
open Go.RowKit Mat
set_option maxRecDepth 100000
set_option linter.unusedVariables false
set_option linter.unusedSimpArgs false

theorem dig_back {l : List Nat} (h : ∀ k (hk : k < l.length), 48 ≤ l[k] ∧ l[k] ≤ 57) : (((l.map (· - 48)).reverse).map (48 + ·)).reverse = l := by
  rw [List.map_reverse, List.reverse_reverse, List.map_map]
  have : ∀ x ∈ l, ((48 + ·) ∘ (· - 48)) x = x := by
    intro x hx
    obtain ⟨k, hk, rfl⟩ := List.getElem_of_mem hx
    have := h k hk
    simp only [Function.comp]; omega
  rw [List.map_congr_left this]; simp
theorem dig_dig {l : List Nat} (h : ∀ k (hk : k < l.length), 48 ≤ l[k] ∧ l[k] ≤ 57) : Dig 10 ((l.map (· - 48)).reverse) := by
  intro x hx
  rw [List.mem_reverse, List.mem_map] at hx
  obtain ⟨y, hy, rfl⟩ := hx
  obtain ⟨k, hk, rfl⟩ := List.getElem_of_mem hy
  have := h k hk
  omega
theorem dig_val {l : List Nat} (h : ∀ k (hk : k < l.length), 48 ≤ l[k] ∧ l[k] ≤ 57) : dval l = val 10 ((l.map (· - 48)).reverse) := by
  rw [← dval_rev, dig_back h]
theorem dec_top {l : List Nat} (h : DecL l) (h0 : l ≠ [48]) : Top ((l.map (· - 48)).reverse) := by
  rcases h with ⟨h1, h2 | ⟨h2, h3⟩⟩
  · exact absurd h2 h0
  · intro x hx
    rw [List.getLast?_reverse, List.head?_map] at hx
    cases l with
    | nil => exact absurd rfl h2
    | cons d t =>
      simp at hx h3
      have := h1 0 (by simp)
      simp at this
      omega
theorem dec_pos {l : List Nat} (h : DecL l) (h0 : l ≠ [48]) : 0 < dval l := by
  rw [dig_val h.1]
  refine val_pos 10 (by omega) _ ?_ (dec_top h h0)
  intro e
  have e2 := congrArg List.length e
  simp at e2
  subst e2
  rcases h.2 with h2 | h2
  · simp at h2
  · exact h2.1 rfl
theorem dec_uniqL {l m : List Nat} (hl : DecL l) (hm : DecL m) (e : dval l = dval m) : l = m := by
  by_cases l0 : l = [48]
  · by_cases m0 : m = [48]
    · rw [l0, m0]
    · have := dec_pos hm m0
      rw [← e, l0] at this
      exact absurd this (by decide)
  · by_cases m0 : m = [48]
    · have := dec_pos hl l0
      rw [e, m0] at this
      exact absurd this (by decide)
    · rw [dig_val hl.1, dig_val hm.1] at e
      have := val_uniq 10 (by omega) _ _ (dig_dig hl.1) (dig_dig hm.1) (dec_top hl l0) (dec_top hm m0) e
      rw [← dig_back hl.1, ← dig_back hm.1, this]
theorem bts_inj {s t : ByteArray} (h : bts s = bts t) : s = t := by
  apply ByteArray.ext
  apply Array.ext'
  unfold bts at h
  exact (List.map_inj_right (fun a b e => UInt8.toNat_inj.1 e)).1 h
theorem dec_uniq {s t : ByteArray} (hs : DecL (bts s)) (ht : DecL (bts t)) (e : dval (bts s) = dval (bts t)) : s = t := bts_inj (dec_uniqL hs ht e)
end Go.Proofs.YtldkddogadmpbaaGreatDoor
