/- Records: joined records are split as they were: the mathematics. -/
import Derived.Test.YtcioefmldcmhgaaKMath
namespace Go.Proofs.Ytcioefmldcmhgaa
open Go.RowKit
set_option maxRecDepth 100000
set_option linter.unusedVariables false
set_option linter.unusedSimpArgs false

theorem joinB_nil : joinB [] = [] := rfl
theorem joinB_cons (r : KRec) (rs : List KRec) : joinB (r :: rs) = recB r ++ joinB rs := rfl
theorem joinB_append (rs ss : List KRec) : joinB (rs ++ ss) = joinB rs ++ joinB ss := by unfold joinB; rw [List.flatMap_append]
theorem joinB_one (r : KRec) : joinB [r] = recB r := by simp [joinB]
theorem recB_len (r : KRec) : (recB r).length = r.2.2.length + 4 := by unfold recB; rw [List.length_append]; simp; omega
theorem joinB_take (rs : List KRec) (k : Nat) (h : k < rs.length) : joinB (rs.take (k + 1)) = joinB (rs.take k) ++ recB rs[k] := by
  rw [List.take_succ_eq_append_getElem h, joinB_append, joinB_one]
theorem joinB_len_take (rs : List KRec) (k : Nat) : (joinB (rs.take k)).length ≤ (joinB rs).length := by
  conv => rhs; rw [← List.take_append_drop k rs]
  rw [joinB_append, List.length_append]; omega
theorem joinB_len4 (rs : List KRec) : 4 * rs.length ≤ (joinB rs).length := by
  induction rs with
  | nil => simp
  | cons r rs ih => rw [joinB_cons, List.length_append, recB_len, List.length_cons]; omega
/-- What bodies have in all. -/
def sumB (rs : List KRec) : Nat := (rs.map fun r => r.2.2.length).sum
theorem sumB_cons (r : KRec) (rs : List KRec) : sumB (r :: rs) = r.2.2.length + sumB rs := by unfold sumB; rw [List.map_cons, List.sum_cons]
theorem sumB_append (rs ss : List KRec) : sumB (rs ++ ss) = sumB rs + sumB ss := by unfold sumB; rw [List.map_append, List.sum_append]
theorem sumB_take (rs : List KRec) (k : Nat) (h : k < rs.length) : sumB (rs.take (k + 1)) = sumB (rs.take k) + rs[k].2.2.length := by
  rw [List.take_succ_eq_append_getElem h, sumB_append]; simp [sumB]
theorem joinB_len (rs : List KRec) : (joinB rs).length = 4 * rs.length + sumB rs := by
  induction rs with
  | nil => rfl
  | cons r rs ih => rw [joinB_cons, List.length_append, recB_len, List.length_cons, sumB_cons, ih]; omega
theorem recB_lt {r : KRec} (h : r.2.2.length ≤ 65530) (h1 : r.1 < 256) (h2 : r.2.1 < 256) (h3 : ∀ x ∈ r.2.2, x < 256) : ∀ x ∈ recB r, x < 256 := by
  intro x hx
  unfold recB at hx
  rcases List.mem_append.1 hx with hx | hx
  · simp at hx; omega
  · exact h3 x hx
/-- The first record of a record's bytes. -/
theorem first_rec {r : KRec} (h : okR r) (t : List Nat) : firstR (recB r ++ t) = (0, r, r.2.2.length + 4) := by
  obtain ⟨k, d, b⟩ := r
  obtain ⟨h1, h2⟩ := h
  dsimp only at h1 h2
  have e : recB (k, d, b) ++ t = (b.length + 4) / 256 :: (b.length + 4) % 256 :: k :: d :: (b ++ t) := rfl
  have el : lenR ((b.length + 4) / 256 :: (b.length + 4) % 256 :: k :: d :: (b ++ t)) = b.length + 4 := by
    show (b.length + 4) / 256 * 256 + (b.length + 4) % 256 = _; omega
  rw [e, first_ok (by simp) (by rw [el]; omega) (by rw [el]; simp), el]
  simp
theorem okR_end : okR (4, 0, []) := ⟨rfl, by decide⟩
/-- The records of joined records, of which the last one alone is an ENDLIB. -/
theorem sp_join (m : List KRec) (h : ∀ r ∈ m, okR r) (hk : ∀ r ∈ m, r.1 ≠ 4) (t : List Nat) : ∀ f, m.length < f → spR f (joinB (m ++ [(4, 0, [])]) ++ t) = (0, m ++ [(4, 0, [])], (joinB (m ++ [(4, 0, [])])).length) := by
  induction m with
  | nil =>
    intro f hf
    obtain ⟨f, rfl⟩ : ∃ g, f = g + 1 := ⟨f - 1, by simp at hf; omega⟩
    show spR (f + 1) (recB (4, 0, []) ++ t) = _
    unfold spR
    rw [first_rec okR_end, if_neg (by simp), if_pos rfl]; rfl
  | cons r m ih =>
    intro f hf
    obtain ⟨f, rfl⟩ : ∃ g, f = g + 1 := ⟨f - 1, by simp at hf; omega⟩
    have h1 := ih (fun x hx => h x (List.mem_cons_of_mem _ hx)) (fun x hx => hk x (List.mem_cons_of_mem _ hx)) f (by simp at hf; omega)
    have hr := h r List.mem_cons_self
    have hk := hk r List.mem_cons_self
    rw [List.cons_append, joinB_cons, List.append_assoc]
    conv => lhs; unfold spR
    rw [first_rec hr, if_neg (by simp), if_neg hk]
    dsimp only
    have hd : (recB r ++ (joinB (m ++ [(4, 0, [])]) ++ t)).drop (r.2.2.length + 4) = joinB (m ++ [(4, 0, [])]) ++ t := by
      rw [← recB_len r]; exact List.drop_left
    rw [hd, h1]
    unfold catS
    rw [if_pos rfl, List.length_append, recB_len]
    rfl
/-- ... without their last byte. -/
theorem sp_cut (m : List KRec) (h : ∀ r ∈ m, okR r) (hk : ∀ r ∈ m, r.1 ≠ 4) : ∀ f, m.length < f → spR f (joinB m ++ [0, 4, 4]) = (7, [], 0) := by
  induction m with
  | nil =>
    intro f hf
    obtain ⟨f, rfl⟩ : ∃ g, f = g + 1 := ⟨f - 1, by simp at hf; omega⟩
    rfl
  | cons r m ih =>
    intro f hf
    obtain ⟨f, rfl⟩ : ∃ g, f = g + 1 := ⟨f - 1, by simp at hf; omega⟩
    have h1 := ih (fun x hx => h x (List.mem_cons_of_mem _ hx)) (fun x hx => hk x (List.mem_cons_of_mem _ hx)) f (by simp at hf; omega)
    have hr := h r List.mem_cons_self
    have hk := hk r List.mem_cons_self
    rw [joinB_cons, List.append_assoc]
    conv => lhs; unfold spR
    rw [first_rec hr, if_neg (by simp), if_neg hk]
    dsimp only
    have hd : (recB r ++ (joinB m ++ [0, 4, 4])).drop (r.2.2.length + 4) = joinB m ++ [0, 4, 4] := by
      rw [← recB_len r]; exact List.drop_left
    rw [hd, h1]; rfl
theorem split_join (m : List KRec) (h : ∀ r ∈ m, okR r) (hk : ∀ r ∈ m, r.1 ≠ 4) (z : Nat) : splitD (joinB (m ++ [(4, 0, [])]) ++ List.replicate z 0) = (0, m ++ [(4, 0, [])], (joinB (m ++ [(4, 0, [])])).length) := by
  unfold splitD
  rw [sp_join m h hk _ _ (by rw [List.length_append]; have := joinB_len4 (m ++ [(4, 0, [])]); rw [List.length_append] at this; omega)]
  rw [if_neg (by simp), if_pos]
  intro x hx
  dsimp only at hx
  rw [List.drop_left] at hx
  exact List.eq_of_mem_replicate hx
theorem split_more (m : List KRec) (h : ∀ r ∈ m, okR r) (hk : ∀ r ∈ m, r.1 ≠ 4) (z : Nat) : splitD (joinB (m ++ [(4, 0, [])]) ++ List.replicate z 0 ++ [1]) = (4, [], 0) := by
  unfold splitD
  rw [List.append_assoc, sp_join m h hk _ _ (by rw [List.length_append]; have := joinB_len4 (m ++ [(4, 0, [])]); rw [List.length_append] at this; omega)]
  rw [if_neg (by simp), if_neg]
  intro hx
  dsimp only at hx
  rw [List.drop_left] at hx
  have := hx 1 (by simp)
  omega
theorem join_end (m : List KRec) : joinB (m ++ [(4, 0, [])]) = joinB m ++ [0, 4, 4] ++ [0] := by rw [joinB_append, joinB_one, List.append_assoc]; rfl
theorem split_cut (m : List KRec) (h : ∀ r ∈ m, okR r) (hk : ∀ r ∈ m, r.1 ≠ 4) : splitD ((joinB (m ++ [(4, 0, [])])).take ((joinB (m ++ [(4, 0, [])])).length - 1)) = (7, [], 0) := by
  have e : (joinB (m ++ [(4, 0, [])])).take ((joinB (m ++ [(4, 0, [])])).length - 1) = joinB m ++ [0, 4, 4] := by
    rw [join_end, List.length_append]
    show (joinB m ++ [0, 4, 4] ++ [0]).take ((joinB m ++ [0, 4, 4]).length + 1 - 1) = _
    rw [Nat.add_sub_cancel]
    exact List.take_left
  rw [e]
  unfold splitD
  rw [sp_cut m h hk _ (by rw [List.length_append]; have := joinB_len4 m; omega), if_pos (by decide)]
theorem joinD_ok {rs : List KRec} (h : ∀ r ∈ rs, okR r) : joinD rs = (0, joinB rs) := if_pos h
theorem joinD_bad {rs : List KRec} (h : ¬ ∀ r ∈ rs, okR r) : joinD rs = (3, []) := if_neg h
theorem joinD_at {rs : List KRec} {k : Nat} (hk : k < rs.length) (h : ¬ okR rs[k]) : joinD rs = (3, []) := if_neg fun hh => h (hh _ (List.getElem_mem hk))
theorem joinD_all {rs : List KRec} (h : ∀ i (hi : i < rs.length), okR rs[i]) : joinD rs = (0, joinB rs) := if_pos fun r hr => by
  obtain ⟨i, hi, rfl⟩ := List.getElem_of_mem hr
  exact h i hi
end Go.Proofs.Ytcioefmldcmhgaa
