/-
  Streams as trees: what the document's Tree has in memory.
-/
import Derived.Test.YtcioefmldcmhgaaGM2
import Derived.Test.YtcioefmldcmhgaaGU
import Derived.Test.YtcioefmldcmhgaaKRRight
import Derived.Test.YtcioefmldcmhgaaKStep
import Derived.Test.YtcioefmldcmhgaaGS
import Derived.Laws.AppendOwnNone
import Derived.Test.YtcioefmldcmhgaaGL
namespace Go.Proofs.Ytcioefmldcmhgaa
open Go.RowKit
set_option maxRecDepth 100000
set_option linter.unusedVariables false
set_option linter.unusedSimpArgs false

/-- A row of kinds as a rule: a kind of 1000 and more may be missing. -/
def rowRu : List Nat → Ru
  | [] => .nop
  | k :: ks => .seq (if k < 1000 then .one k else .opt (k - 1000)) (rowRu ks)
theorem run_seq (a b : Ru) (l : List KRec) : run (.seq a b) l = (run a l).bind (run b) := by
  simp only [run]; cases run a l <;> rfl
theorem run_tk_yes {k : Nat} {y n : Ru} {l t : List KRec} (h : tkR k l = some (some t)) : run (.tk k y n) l = run y t := by simp only [run, h]
theorem run_tk_no {k : Nat} {y n : Ru} {l : List KRec} (h : tkR k l = some none) : run (.tk k y n) l = run n l := by simp only [run, h]
theorem run_tk_bad {k : Nat} {y n : Ru} {l : List KRec} (h : tkR k l = none) : run (.tk k y n) l = none := by simp only [run, h]
theorem run_nop (l : List KRec) : run .nop l = some l := rfl
/-- One kind of a row. -/
def stepRu (k : Nat) : Ru := if k < 1000 then .one k else .opt (k - 1000)
theorem row_cons (k : Nat) (ks : List Nat) (l : List KRec) : run (rowRu (k :: ks)) l = (run (stepRu k) l).bind (run (rowRu ks)) := run_seq _ _ _
theorem row_app : ∀ (a b : List Nat) (l : List KRec), run (rowRu (a ++ b)) l = (run (rowRu a) l).bind (run (rowRu b)) := by
  intro a
  induction a with
  | nil => intro b l; rfl
  | cons k a ih =>
    intro b l
    rw [List.cons_append, row_cons, row_cons, Option.bind_assoc]
    exact congrArg _ (funext fun x => ih b x)
theorem row_one (k : Nat) (h : k < 1000) (l : List KRec) : run (rowRu [k]) l = run (.one k) l := by
  rw [row_cons, stepRu, if_pos h]; cases run (.one k) l <;> rfl
theorem row_opt (k : Nat) (l : List KRec) : run (rowRu [k + 1000]) l = run (.opt k) l := by
  rw [row_cons, stepRu, if_neg (by omega), Nat.add_sub_cancel]; cases run (.opt k) l <;> rfl
theorem musts_row : ∀ ks : List Nat, (∀ k ∈ ks, k < 1000) → ∀ l, run (musts ks) l = run (rowRu ks) l := by
  intro ks
  induction ks with
  | nil => intro _ l; rfl
  | cons k ks ih =>
    intro h l
    rw [musts, run_seq, row_cons, stepRu, if_pos (h k (by simp))]
    exact congrArg _ (funext fun x => ih (fun k hk => h k (by simp [hk])) x)
theorem mays_row : ∀ ks : List Nat, ∀ l, run (mays ks) l = run (rowRu (ks.map (· + 1000))) l := by
  intro ks
  induction ks with
  | nil => intro l; rfl
  | cons k ks ih =>
    intro l
    rw [mays, run_seq, List.map_cons, row_cons, stepRu, if_neg (by omega), Nat.add_sub_cancel]
    exact congrArg _ (funext fun x => ih x)
/-- What a row lets go by is of its kinds. -/
theorem row_kinds : ∀ (ks : List Nat) {l m : List KRec}, run (rowRu ks) l = some m → ∃ p, l = p ++ m ∧ (∀ r ∈ p, r.1 ∈ ks.map (· % 1000) ∨ r.1 ∈ ks.map (· - 1000)) ∧ p.length ≤ ks.length ∧ (ks.filter (· < 1000)).length ≤ p.length := by
  intro ks
  induction ks with
  | nil => intro l m h; simp [rowRu, run] at h; subst h; exact ⟨[], rfl, by simp, Nat.le_refl _, by simp⟩
  | cons k ks ih =>
    intro l m h
    rw [row_cons, stepRu] at h
    by_cases hk : k < 1000
    · rw [if_pos hk] at h
      simp only [run] at h
      cases hT : tkR k l with
      | none => rw [hT] at h; cases h
      | some o =>
        cases o with
        | none => rw [hT] at h; cases h
        | some t =>
          rw [hT] at h
          obtain ⟨r, rfl, rfl, h2⟩ := tk_some hT
          obtain ⟨p, rfl, h3, h4, h5⟩ := ih h
          refine ⟨r :: p, rfl, ?_, by simp; omega, by simp [hk]; omega⟩
          intro x hx
          rcases List.mem_cons.1 hx with rfl | hx
          · left; rw [List.map_cons, Nat.mod_eq_of_lt hk]; exact List.mem_cons_self
          · rcases h3 x hx with h | h
            · left; exact List.mem_cons_of_mem _ h
            · right; exact List.mem_cons_of_mem _ h
    · rw [if_neg hk] at h
      simp only [run] at h
      cases hT : tkR (k - 1000) l with
      | none => rw [hT] at h; cases h
      | some o =>
        cases o with
        | none =>
          rw [hT] at h
          obtain ⟨p, rfl, h3, h4, h5⟩ := ih h
          refine ⟨p, rfl, ?_, by simp; omega, by simp [hk]; omega⟩
          intro x hx
          rcases h3 x hx with h | h
          · left; exact List.mem_cons_of_mem _ h
          · right; exact List.mem_cons_of_mem _ h
        | some t =>
          rw [hT] at h
          obtain ⟨r, rfl, hr, h2⟩ := tk_some hT
          obtain ⟨p, rfl, h3, h4, h5⟩ := ih h
          refine ⟨r :: p, rfl, ?_, by simp; omega, by simp [hk]; omega⟩
          intro x hx
          rcases List.mem_cons.1 hx with rfl | hx
          · right; rw [List.map_cons, hr]; exact List.mem_cons_self
          · rcases h3 x hx with h | h
            · left; exact List.mem_cons_of_mem _ h
            · right; exact List.mem_cons_of_mem _ h
theorem tk_first {k : Nat} {l : List KRec} (h : ∀ r t, l = r :: t → r.1 ≠ k) : tkR k l = some none := tk_off fun r t e hm => by simp at hm; exact h r t e hm
/-- Masks: as many as stand there, and are right. -/
def mEnd : List KRec → List KRec
  | [] => []
  | r :: t => if r.1 = 55 ∧ rt r = true then mEnd t else r :: t
theorem mEnd_len (l : List KRec) : (mEnd l).length ≤ l.length := by
  induction l with
  | nil => exact Nat.le_refl _
  | cons r t ih => rw [mEnd]; split <;> simp <;> omega
theorem mEnd_one {l t : List KRec} (h : run (.one 55) l = some t) : mEnd l = mEnd t ∧ t.length < l.length := by
  simp only [run] at h
  split at h
  · rename_i t' ht
    obtain ⟨r, rfl, h1, h2⟩ := tk_some ht
    cases h
    exact ⟨by rw [mEnd, if_pos ⟨h1, h2⟩], by simp⟩
  · cases h
theorem mEnd_none {l : List KRec} (h : run (.one 55) l = none) : mEnd l = l := by
  cases l with
  | nil => rfl
  | cons r t =>
    rw [mEnd, if_neg]
    rintro ⟨h1, h2⟩
    simp [run, tkR, h1, h2] at h
/-- Behind the head's row: masks, their end, the units. -/
def maskD (l : List KRec) : Option (List KRec) :=
  if (mEnd l).length < l.length then (run (.one 56) (mEnd l)).bind (run (.one 3)) else run (.one 3) l
theorem many_mEnd {l : List KRec} : (manyR 55 l).bind (run (.one 56)) = run (.one 56) (mEnd l) := by
  induction l with
  | nil => rfl
  | cons r t ih =>
    rw [mEnd, manyR]
    by_cases h1 : r.1 = 55
    · by_cases h2 : rt r = true
      · rw [if_pos h1, if_pos h2, if_pos ⟨h1, h2⟩]; exact ih
      · rw [if_pos h1, if_neg h2, if_neg (fun h => h2 h.2)]
        simp only [Option.bind_none, run, tkR]
        rw [if_neg (by omega)]
    · rw [if_neg h1, if_neg (fun h => h1 h.1)]; rfl
theorem mask_is (l : List KRec) : (run (.tk 55 (.seq (.many 55) (musts [56])) .nop) l).bind (run (musts [3])) = maskD l := by
  unfold maskD
  have e56 : ∀ m, run (musts [56]) m = run (.one 56) m := fun m => by rw [musts_row [56] (by decide), row_one 56 (by decide)]
  have e3 : run (musts [3]) = run (.one 3) := funext fun m => by rw [musts_row [3] (by decide), row_one 3 (by decide)]
  have es : ∀ m, run (.seq (.many 55) (musts [56])) m = run (.one 56) (mEnd m) := fun m => by
    rw [run_seq, ← many_mEnd]; exact congrArg _ (funext e56)
  rw [e3]
  cases l with
  | nil => simp [run, tkR, mEnd]
  | cons r t =>
    by_cases h1 : r.1 = 55
    · by_cases h2 : rt r = true
      · have ht : tkR 55 (r :: t) = some (some t) := by simp [tkR, h1, h2]
        have hm : mEnd (r :: t) = mEnd t := by rw [mEnd, if_pos ⟨h1, h2⟩]
        have hl := mEnd_len t
        rw [hm, if_pos (by simp; omega)]
        rw [run_tk_yes ht, es]
      · have ht : tkR 55 (r :: t) = none := by simp [tkR, h1, h2]
        have hm : mEnd (r :: t) = r :: t := by rw [mEnd, if_neg (fun h => h2 h.2)]
        rw [hm, if_neg (Nat.lt_irrefl _), run_tk_bad ht]
        simp only [run, tkR]
        rw [if_neg (by omega)]; rfl
    · have ht : tkR 55 (r :: t) = some none := by simp [tkR, h1]
      have hm : mEnd (r :: t) = r :: t := by rw [mEnd, if_neg (fun h => h1 h.1)]
      rw [hm, if_neg (Nat.lt_irrefl _), run_tk_no ht]
      rfl
def headRow : List Nat := [0, 1, 1057, 1058, 1059, 2, 1031, 1032, 1035, 1034]
/-- The kind of the last record that a row let go by. -/
def lastBy (l m : List KRec) : Nat := (l.getD (l.length - m.length - 1) (0, 0, [])).1
theorem lastBy_app (p m : List KRec) (h : p ≠ []) : ∃ r ∈ p, lastBy (p ++ m) m = r.1 ∧ (p ++ m).length - m.length - 1 < (p ++ m).length := by
  have hp : 0 < p.length := List.length_pos_iff.2 h
  refine ⟨p[p.length - 1], List.getElem_mem _, ?_, by rw [List.length_append]; omega⟩
  unfold lastBy
  rw [List.length_append, Nat.add_sub_cancel, List.getD_eq_getElem?_getD, List.getElem?_append_left (by omega), List.getElem?_eq_getElem (by omega)]
  rfl
/-- The head, as the document has it. -/
def headD (l : List KRec) : Option (List KRec) :=
  match run (rowRu (headRow ++ [1054])) l with
  | none => none
  | some m => if lastBy l m = 54 then maskD m else run (.one 3) m
theorem head_chain (l : List KRec) : run headRu l = (run (rowRu headRow) l).bind fun m => (run (.tk 54 (.tk 55 (.seq (.many 55) (musts [56])) .nop) .nop) m).bind (run (musts [3])) := by
  have e : ∀ m, run (rowRu headRow) m = (((run (rowRu [0, 1]) m).bind (run (rowRu [1057, 1058, 1059]))).bind (run (rowRu [2]))).bind (run (rowRu [1031, 1032, 1035, 1034])) := fun m => by
    rw [show headRow = (([0, 1] ++ [1057, 1058, 1059]) ++ [2]) ++ [1031, 1032, 1035, 1034] from rfl, row_app, row_app, row_app]
  rw [e]
  unfold headRu
  simp only [Option.bind_assoc]
  rw [run_seq, musts_row [0, 1] (by decide)]
  refine congrArg _ (funext fun a => ?_)
  rw [run_seq, mays_row]
  refine congrArg _ (funext fun b => ?_)
  rw [run_seq, musts_row [2] (by decide)]
  refine congrArg _ (funext fun c => ?_)
  rw [run_seq, mays_row]
  refine congrArg _ (funext fun d => ?_)
  exact run_seq _ _ _
theorem headD_is (l : List KRec) : headD l = run headRu l := by
  rw [head_chain]
  unfold headD
  rw [row_app]
  cases h : run (rowRu headRow) l with
  | none => rfl
  | some m =>
    obtain ⟨p, e, hk, _, hp⟩ := row_kinds headRow h
    have hp0 : p ≠ [] := by
      intro h0; subst h0; revert hp; decide
    simp only [Option.bind_some]
    rw [show (1054 : Nat) = 54 + 1000 from rfl, row_opt]
    have key : ∀ r ∈ p, r.1 ≠ 54 := fun r hr h54 => by
      have := hk r hr
      rw [h54] at this
      revert this; decide
    cases hT : tkR 54 m with
    | none => simp only [run, hT]; rfl
    | some o =>
      cases o with
      | none =>
        simp only [run, hT, Option.bind_some]
        obtain ⟨r, hr, h1, _⟩ := lastBy_app p m hp0
        rw [← e] at h1
        rw [if_neg (by rw [h1]; exact key r hr)]
        rw [musts_row [3] (by decide), row_one 3 (by decide)]; rfl
      | some t =>
        obtain ⟨r, rfl, h1, h2⟩ := tk_some hT
        have hopt : run (.opt 54) (r :: t) = some t := by simp only [run, hT]
        have htk : run (.tk 54 (.tk 55 (.seq (.many 55) (musts [56])) .nop) .nop) (r :: t) = run (.tk 55 (.seq (.many 55) (musts [56])) .nop) t := by
          simp only [run, hT]
        rw [hopt, htk]
        have h54 : lastBy l t = 54 := by
          rw [e, show p ++ r :: t = (p ++ [r]) ++ t from by simp]
          unfold lastBy
          rw [List.length_append, Nat.add_sub_cancel, List.getD_eq_getElem?_getD, List.getElem?_append_left (by simp), List.length_append, List.length_cons, List.length_nil, Nat.zero_add, Nat.add_sub_cancel, List.getElem?_append_right (Nat.le_refl _)]
          simpa using h1
        simp only [h54, if_true]
        exact (mask_is t).symm
/-- What an item may be, by its first kind (a turned reference, or not). -/
def rowD (k : Nat) (turned : Bool) : List Nat :=
  let trans : List Nat := if turned then [26, 1027, 1028] else []
  if k = 8 then [k, 1038, 1047, 13, 14, 16]
  else if k = 9 then [k, 1038, 1047, 13, 14, 1033, 1015, 1048, 1049, 16]
  else if k = 10 then [k, 1038, 1047, 18] ++ trans ++ [16]
  else if k = 11 then [k, 1038, 1047, 18] ++ trans ++ [19, 16]
  else if k = 12 then [k, 1038, 1047, 13, 22, 1023, 1033, 1015] ++ trans ++ [16, 25]
  else if k = 21 then [k, 1038, 1047, 13, 42, 16]
  else if k = 45 then [k, 1038, 1047, 13, 46, 16]
  else []
def firstK (l : List KRec) : Nat := (l.getD 0 (0, 0, [])).1
/-- A row, or a row with what is turned. -/
theorem trans_row (a b : List Nat) (hb : ∃ k ks, b = k :: ks ∧ k < 1000 ∧ k ≠ 26) (l : List KRec) :
    ((run (rowRu a) l).bind fun m => (run transRu m).bind (run (rowRu b))) = (run (rowRu (a ++ b)) l).or (run (rowRu (a ++ [26, 1027, 1028] ++ b)) l) := by
  rw [List.append_assoc, row_app, row_app]
  cases run (rowRu a) l with
  | none => rfl
  | some m =>
    simp only [Option.bind_some]
    obtain ⟨k, ks, rfl, hk, h26⟩ := hb
    rw [row_app]
    have et : run (rowRu [26, 1027, 1028]) m = (run (.one 26) m).bind (run (mays [27, 28])) := by
      rw [row_cons]; exact congrArg _ (funext fun x => (mays_row [27, 28] x).symm)
    rw [et]
    unfold transRu
    cases m with
    | nil =>
      simp only [run, tkR, Option.bind_some]
      rw [show ((none : Option (List KRec)).bind (run (mays [27, 28]))).bind (run (rowRu (k :: ks))) = none from rfl, Option.or_none]
    | cons r t =>
      by_cases h1 : r.1 = 26
      · have hno : run (rowRu (k :: ks)) (r :: t) = none := by
          rw [row_cons, stepRu, if_pos hk]
          simp only [run, tkR]
          rw [if_neg (by omega)]; rfl
        rw [hno, Option.none_or]
        simp only [run, tkR]
        rw [if_pos h1]
        by_cases h2 : rt r = true
        · rw [if_pos h2]; rfl
        · rw [if_neg h2]; rfl
      · simp only [run, tkR]
        rw [if_neg h1]
        simp
theorem or_same {α : Type} (o : Option α) : o.or o = o := by cases o <;> rfl
theorem drawn_row (k : Nat) (hk : k < 1000) (ks : List Nat) (l : List KRec) : (run (drawnRu k) l).bind (run (rowRu ks)) = run (rowRu ([1038, 1047, 13, k] ++ ks)) l := by
  unfold drawnRu
  rw [run_seq, mays_row, show [1038, 1047, 13, k] ++ ks = [1038, 1047] ++ ([13, k] ++ ks) from rfl, row_app, Option.bind_assoc]
  refine congrArg _ (funext fun m => ?_)
  rw [row_app, musts_row [13, k] (by intro x hx; simp at hx; omega)]
theorem element_rows {l : List KRec} (h : ∃ r t, l = r :: t) : run elementRu l = if rowD (firstK l) false = [] then none else (run (rowRu (rowD (firstK l) false)) l).or (run (rowRu (rowD (firstK l) true)) l) := by
  obtain ⟨r, t, rfl⟩ := h
  have hf : firstK (r :: t) = r.1 := rfl
  rw [hf]
  have m16 : ∀ m, run (musts [16]) m = run (rowRu [16]) m := musts_row [16] (by decide)
  by_cases h2 : rt r = true
  · have one : ∀ k ks, r.1 = k → k < 1000 → run (rowRu (k :: ks)) (r :: t) = run (rowRu ks) t := fun k ks hk hb => by
      subst hk
      rw [row_cons, stepRu, if_pos hb]; simp only [run, tk_yes h2]; rfl
    have yes : ∀ k, r.1 = k → tkR k (r :: t) = some (some t) := fun k hk => by subst hk; exact tk_yes h2
    have no : ∀ k, r.1 ≠ k → tkR k (r :: t) = some none := fun k hk => by simp [tkR, hk]
    unfold elementRu rowD
    by_cases h8 : r.1 = 8
    · rw [h8]
      rw [run_tk_yes (yes 8 h8)]
      simp only [if_true]
      rw [one 8 _ h8 (by decide), or_same, if_neg (by simp), show ([1038, 1047, 13, 14, 16] : List Nat) = [1038, 1047, 13, 14] ++ [16] from rfl, ← drawn_row 14 (by decide) [16], ← show run (musts [16]) = run (rowRu [16]) from funext m16]
      exact run_seq _ _ _
    by_cases h9 : r.1 = 9
    · rw [h9]
      rw [run_tk_no (no 8 h8), run_tk_yes (yes 9 h9)]
      simp only [if_true, if_neg (show ¬ (9 : Nat) = 8 by decide)]
      rw [one 9 _ h9 (by decide), or_same, if_neg (by simp), show ([1038, 1047, 13, 14, 1033, 1015, 1048, 1049, 16] : List Nat) = [1038, 1047, 13, 14] ++ ([1033, 1015, 1048, 1049] ++ [16]) from rfl, ← drawn_row 14 (by decide) _]
      refine (run_seq _ _ _).trans (congrArg _ (funext fun m => ?_))
      rw [run_seq, mays_row, row_app]
      exact congrArg _ (funext m16)
    by_cases h10 : r.1 = 10
    · rw [h10]
      rw [run_tk_no (no 8 h8), run_tk_no (no 9 h9), run_tk_yes (yes 10 h10)]
      simp only [if_true, if_neg (show ¬ (10 : Nat) = 8 by decide), if_neg (show ¬ (10 : Nat) = 9 by decide), Bool.false_eq_true, if_false, List.append_nil]
      rw [if_neg (by simp)]
      simp only [List.cons_append, List.nil_append]
      rw [one 10 _ h10 (by decide), one 10 _ h10 (by decide)]
      have e := trans_row [1038, 1047, 18] [16] ⟨16, [], rfl, by decide, by decide⟩ t
      simp only [List.cons_append, List.nil_append] at e
      rw [← e]
      refine (run_seq _ _ _).trans ?_
      unfold referredRu
      rw [run_seq, mays_row, show ([1038, 1047, 18] : List Nat) = [38, 47].map (· + 1000) ++ [18] from rfl, row_app, Option.bind_assoc, Option.bind_assoc]
      refine congrArg _ (funext fun m => ?_)
      rw [run_seq, musts_row [18] (by decide), Option.bind_assoc]
      refine congrArg _ (funext fun m => ?_)
      exact congrArg _ (funext m16)
    by_cases h11 : r.1 = 11
    · rw [h11]
      rw [run_tk_no (no 8 h8), run_tk_no (no 9 h9), run_tk_no (no 10 h10), run_tk_yes (yes 11 h11)]
      simp only [if_true, if_neg (show ¬ (11 : Nat) = 8 by decide), if_neg (show ¬ (11 : Nat) = 9 by decide), if_neg (show ¬ (11 : Nat) = 10 by decide), Bool.false_eq_true, if_false, List.append_nil]
      rw [if_neg (by simp)]
      simp only [List.cons_append, List.nil_append]
      rw [one 11 _ h11 (by decide), one 11 _ h11 (by decide)]
      have e := trans_row [1038, 1047, 18] [19, 16] ⟨19, [16], rfl, by decide, by decide⟩ t
      simp only [List.cons_append, List.nil_append] at e
      rw [← e]
      refine (run_seq _ _ _).trans ?_
      unfold referredRu
      rw [run_seq, mays_row, show ([1038, 1047, 18] : List Nat) = [38, 47].map (· + 1000) ++ [18] from rfl, row_app, Option.bind_assoc, Option.bind_assoc]
      refine congrArg _ (funext fun m => ?_)
      rw [run_seq, musts_row [18] (by decide), Option.bind_assoc]
      refine congrArg _ (funext fun m => ?_)
      exact congrArg _ (funext fun m => musts_row [19, 16] (by decide) m)
    by_cases h12 : r.1 = 12
    · rw [h12]
      rw [run_tk_no (no 8 h8), run_tk_no (no 9 h9), run_tk_no (no 10 h10), run_tk_no (no 11 h11), run_tk_yes (yes 12 h12)]
      simp only [if_true, if_neg (show ¬ (12 : Nat) = 8 by decide), if_neg (show ¬ (12 : Nat) = 9 by decide), if_neg (show ¬ (12 : Nat) = 10 by decide), if_neg (show ¬ (12 : Nat) = 11 by decide), Bool.false_eq_true, if_false, List.append_nil]
      rw [if_neg (by simp)]
      simp only [List.cons_append, List.nil_append]
      rw [one 12 _ h12 (by decide), one 12 _ h12 (by decide)]
      have e := trans_row [1038, 1047, 13, 22, 1023, 1033, 1015] [16, 25] ⟨16, [25], rfl, by decide, by decide⟩ t
      simp only [List.cons_append, List.nil_append] at e
      rw [← e]
      refine (run_seq _ _ _).trans ?_
      rw [show ([1038, 1047, 13, 22, 1023, 1033, 1015] : List Nat) = [1038, 1047, 13, 22] ++ [23, 33, 15].map (· + 1000) from rfl, ← drawn_row 22 (by decide) _, Option.bind_assoc]
      refine congrArg _ (funext fun m => ?_)
      rw [run_seq, mays_row]
      refine congrArg _ (funext fun m => ?_)
      rw [run_seq]
      refine congrArg _ (funext fun m => ?_)
      exact musts_row [16, 25] (by decide) m
    by_cases h21 : r.1 = 21
    · rw [h21]
      rw [run_tk_no (no 8 h8), run_tk_no (no 9 h9), run_tk_no (no 10 h10), run_tk_no (no 11 h11), run_tk_no (no 12 h12), run_tk_yes (yes 21 h21)]
      simp only [if_true, if_neg (show ¬ (21 : Nat) = 8 by decide), if_neg (show ¬ (21 : Nat) = 9 by decide), if_neg (show ¬ (21 : Nat) = 10 by decide), if_neg (show ¬ (21 : Nat) = 11 by decide), if_neg (show ¬ (21 : Nat) = 12 by decide)]
      rw [one 21 _ h21 (by decide), or_same, if_neg (by simp), show ([1038, 1047, 13, 42, 16] : List Nat) = [1038, 1047, 13, 42] ++ [16] from rfl, ← drawn_row 42 (by decide) [16], ← show run (musts [16]) = run (rowRu [16]) from funext m16]
      exact run_seq _ _ _
    by_cases h45 : r.1 = 45
    · rw [h45]
      rw [run_tk_no (no 8 h8), run_tk_no (no 9 h9), run_tk_no (no 10 h10), run_tk_no (no 11 h11), run_tk_no (no 12 h12), run_tk_no (no 21 h21), run_tk_yes (yes 45 h45)]
      simp only [if_true, if_neg (show ¬ (45 : Nat) = 8 by decide), if_neg (show ¬ (45 : Nat) = 9 by decide), if_neg (show ¬ (45 : Nat) = 10 by decide), if_neg (show ¬ (45 : Nat) = 11 by decide), if_neg (show ¬ (45 : Nat) = 12 by decide), if_neg (show ¬ (45 : Nat) = 21 by decide)]
      rw [one 45 _ h45 (by decide), or_same, if_neg (by simp), show ([1038, 1047, 13, 46, 16] : List Nat) = [1038, 1047, 13, 46] ++ [16] from rfl, ← drawn_row 46 (by decide) [16], ← show run (musts [16]) = run (rowRu [16]) from funext m16]
      exact run_seq _ _ _
    rw [run_tk_no (no 8 h8), run_tk_no (no 9 h9), run_tk_no (no 10 h10), run_tk_no (no 11 h11), run_tk_no (no 12 h12), run_tk_no (no 21 h21), run_tk_no (no 45 h45)]
    simp only [run, if_neg h8, if_neg h9, if_neg h10, if_neg h11, if_neg h12, if_neg h21, if_neg h45, if_true]
  · have bad : ∀ ks, run (rowRu (r.1 :: ks)) (r :: t) = none ∨ 1000 ≤ r.1 := fun ks => by
      by_cases hb : r.1 < 1000
      · left; rw [row_cons, stepRu, if_pos hb]; simp [run, tkR, h2]
      · right; omega
    have no : ∀ k, r.1 ≠ k → tkR k (r :: t) = some none := fun k hk => by simp [tkR, hk]
    have off : ∀ k, r.1 = k → tkR k (r :: t) = none := fun k hk => by simp [tkR, hk, h2]
    have bad2 : ∀ b, rowD r.1 b = [] ∨ run (rowRu (rowD r.1 b)) (r :: t) = none := fun b => by
      unfold rowD
      repeat' split
      all_goals first
        | (left; rfl)
        | (right; simp only [List.cons_append]; rcases bad _ with h | h; exact h; exfalso; omega)
    have e0 : run elementRu (r :: t) = none := by
      unfold elementRu
      by_cases h8 : r.1 = 8
      · simp only [run, off 8 h8]
      by_cases h9 : r.1 = 9
      · simp only [run, no 8 h8, off 9 h9]
      by_cases h10 : r.1 = 10
      · simp only [run, no 8 h8, no 9 h9, off 10 h10]
      by_cases h11 : r.1 = 11
      · simp only [run, no 8 h8, no 9 h9, no 10 h10, off 11 h11]
      by_cases h12 : r.1 = 12
      · simp only [run, no 8 h8, no 9 h9, no 10 h10, no 11 h11, off 12 h12]
      by_cases h21 : r.1 = 21
      · simp only [run, no 8 h8, no 9 h9, no 10 h10, no 11 h11, no 12 h12, off 21 h21]
      by_cases h45 : r.1 = 45
      · simp only [run, no 8 h8, no 9 h9, no 10 h10, no 11 h11, no 12 h12, no 21 h21, off 45 h45]
      simp only [run, no 8 h8, no 9 h9, no 10 h10, no 11 h11, no 12 h12, no 21 h21, no 45 h45]
    rw [e0]
    split
    · rfl
    · rename_i hne
      rcases bad2 false with h | h
      · exact absurd h hne
      · rw [h]
        rcases bad2 true with h | h
        · exfalso
          revert h hne
          unfold rowD
          repeat' split
          all_goals simp
        · rw [h]; rfl
/-- Properties: as many pairs as stand there, and are right. -/
def pEnd : List KRec → List KRec
  | [] => []
  | [r] => [r]
  | r :: v :: t => if r.1 = 43 ∧ rt r = true ∧ v.1 = 44 ∧ rt v = true then pEnd t else r :: v :: t
theorem row_pair (l : List KRec) : run (rowRu [43, 44]) l = (match l with | r :: v :: t => if r.1 = 43 ∧ rt r = true ∧ v.1 = 44 ∧ rt v = true then some t else none | _ => none) := by
  rw [row_cons, stepRu, if_pos (by decide)]
  match l with
  | [] => rfl
  | [r] =>
    simp only [run, tkR]
    by_cases h1 : r.1 = 43
    · by_cases h2 : rt r = true
      · rw [if_pos h1, if_pos h2]; rfl
      · rw [if_pos h1, if_neg h2]; rfl
    · rw [if_neg h1]; rfl
  | r :: v :: t =>
    simp only [run, tkR]
    by_cases h1 : r.1 = 43
    · by_cases h2 : rt r = true
      · rw [if_pos h1, if_pos h2]
        simp only [Option.bind_some]
        rw [row_one 44 (by decide)]
        simp only [run, tkR]
        by_cases h3 : v.1 = 44
        · by_cases h4 : rt v = true
          · rw [if_pos h3, if_pos h4, if_pos ⟨h1, h2, h3, h4⟩]
          · rw [if_pos h3, if_neg h4, if_neg (fun h => h4 h.2.2.2)]
        · rw [if_neg h3, if_neg (fun h => h3 h.2.2.1)]
      · rw [if_pos h1, if_neg h2, if_neg (fun h => h2 h.2.1)]; rfl
    · rw [if_neg h1, if_neg (fun h => h1 h.1)]; rfl
theorem pEnd_some {l t : List KRec} (h : run (rowRu [43, 44]) l = some t) : pEnd l = pEnd t ∧ t.length < l.length := by
  rw [row_pair] at h
  split at h
  · rename_i r v t'
    split at h
    · rename_i hc
      cases h
      exact ⟨by rw [pEnd, if_pos hc], by simp; omega⟩
    · cases h
  · cases h
theorem pEnd_none {l : List KRec} (h : run (rowRu [43, 44]) l = none) : pEnd l = l := by
  rw [row_pair] at h
  match l, h with
  | [], _ => rfl
  | [r], _ => rfl
  | r :: v :: t, h =>
    rw [pEnd]
    split
    · rename_i hc; simp only at h; rw [if_pos hc] at h; cases h
    · rfl
theorem pEnd_suf : ∀ (n : Nat) (l : List KRec), l.length ≤ n → ∃ p, l = p ++ pEnd l := by
  intro n
  induction n with
  | zero => intro l h; exact ⟨[], by rw [List.length_eq_zero_iff.1 (Nat.le_zero.1 h)]; rfl⟩
  | succ n ih =>
    intro l h
    match l, h with
    | [], _ => exact ⟨[], rfl⟩
    | [r], _ => exact ⟨[], rfl⟩
    | r :: v :: t, h =>
      rw [pEnd]
      split
      · obtain ⟨p, hp⟩ := ih t (by simp at h; omega)
        exact ⟨r :: v :: p, by rw [List.cons_append, List.cons_append, ← hp]⟩
      · exact ⟨[], rfl⟩
theorem props_pEnd : ∀ (n : Nat) (l : List KRec), l.length ≤ n → (propsR l = some (pEnd l) ∨ (propsR l = none ∧ run (.one 17) (pEnd l) = none)) := by
  intro n
  induction n with
  | zero => intro l h; rw [List.length_eq_zero_iff.1 (Nat.le_zero.1 h)]; exact Or.inl rfl
  | succ n ih =>
    intro l h
    match l, h with
    | [], _ => exact Or.inl rfl
    | [r], _ =>
      simp only [propsR, pEnd]
      by_cases h1 : r.1 = 43
      · rw [if_pos h1]; right; exact ⟨rfl, by simp only [run, tkR]; rw [if_neg (by omega)]⟩
      · rw [if_neg h1]; exact Or.inl rfl
    | r :: v :: t, h =>
      simp only [propsR, pEnd]
      by_cases h1 : r.1 = 43
      · rw [if_pos h1]
        by_cases h2 : rt r = true ∧ v.1 = 44 ∧ rt v = true
        · rw [if_pos h2, if_pos ⟨h1, h2⟩]; exact ih t (by simp at h; omega)
        · rw [if_neg h2, if_neg (fun h => h2 h.2)]; right; exact ⟨rfl, by simp only [run, tkR]; rw [if_neg (by omega)]⟩
      · rw [if_neg h1, if_neg (fun h => h1 h.1)]; exact Or.inl rfl
/-- An item in the document's words. -/
theorem itemR_doc (l : List KRec) : itemR l = (match run elementRu l with | none => none | some l1 => match run (.one 17) (pEnd l1) with | none => none | some l3 => some ((cutL l l1, cutL l1 (pEnd l1)), l3)) := by
  unfold itemR
  cases run elementRu l with
  | none => rfl
  | some l1 =>
    simp only
    rcases props_pEnd _ l1 (Nat.le_refl _) with h | ⟨h, h2⟩
    · rw [show run .props l1 = some (pEnd l1) from h]
      rfl
    · rw [show run .props l1 = none from h, h2]
/-- The document's tree of records. -/
def treeD (l : List KRec) : Option KLib := match libR l with | some (t, []) => some t | _ => none
end Go.Proofs.Ytcioefmldcmhgaa
namespace Go.Proofs.Ytcioefmldcmhgaa
open Go.RowKit
set_option maxRecDepth 100000
set_option linter.unusedVariables false
set_option linter.unusedSimpArgs false

theorem step_yes {k : Nat} {r : KRec} {t : List KRec} (ks : List Nat) (hk : k < 2000) (h1 : r.1 = k % 1000) (h2 : rt r = true) : run (rowRu (k :: ks)) (r :: t) = run (rowRu ks) t := by
  rw [row_cons, stepRu]
  have e : tkR r.1 (r :: t) = some (some t) := tk_yes h2
  by_cases h : k < 1000
  · rw [if_pos h]
    rw [Nat.mod_eq_of_lt h] at h1
    subst h1
    simp only [run, e]; rfl
  · rw [if_neg h]
    have : r.1 = k - 1000 := by omega
    rw [this] at e
    simp only [run, e]; rfl
theorem step_bad {k : Nat} {r : KRec} {t : List KRec} (ks : List Nat) (hk : k < 2000) (h1 : r.1 = k % 1000) (h2 : rt r = false) : run (rowRu (k :: ks)) (r :: t) = none := by
  rw [row_cons, stepRu]
  have e : tkR r.1 (r :: t) = none := by simp [tkR, h2]
  by_cases h : k < 1000
  · rw [if_pos h]
    rw [Nat.mod_eq_of_lt h] at h1
    subst h1
    simp only [run, e]; rfl
  · rw [if_neg h]
    have : r.1 = k - 1000 := by omega
    rw [this] at e
    simp only [run, e]; rfl
theorem step_must {k : Nat} {l : List KRec} (ks : List Nat) (hk : k < 1000) (h1 : ∀ r t, l = r :: t → r.1 ≠ k % 1000) : run (rowRu (k :: ks)) l = none := by
  rw [row_cons, stepRu, if_pos hk]
  have e : tkR k l = some none := tk_first fun r t e => by have := h1 r t e; omega
  simp only [run, e]; rfl
theorem step_may {k : Nat} {l : List KRec} (ks : List Nat) (hk : k < 2000) (hk2 : ¬ k < 1000) (h1 : ∀ r t, l = r :: t → r.1 ≠ k % 1000) : run (rowRu (k :: ks)) l = run (rowRu ks) l := by
  rw [row_cons, stepRu, if_neg hk2]
  have e : tkR (k - 1000) l = some none := tk_first fun r t e => by have := h1 r t e; omega
  simp only [run, e]; rfl
/-- How many records are a row; -1: they aren't. -/
def fitD (row : List Nat) (l : List KRec) : Int := match run (rowRu row) l with | some m => ((l.length - m.length : Nat) : Int) | none => -1
/-- A slice of whole numbers that reads so. -/
def InS (W : World) (s : Option Addr) (l : List Nat) : Prop := ∀ i (h : i < l.length), ∃ a, s = some a ∧ W.cell? (a.add i) = some (.int .i64 (l[i] : Int))
theorem InS.kept {W W' : World} {s : Option Addr} {l : List Nat} (h : InS W s l) (hg : W.grownBy W' none) : InS W' s l := fun i hi => by
  obtain ⟨a, e, h1⟩ := h i hi
  exact ⟨a, e, hg.cell h1 (by simp)⟩
def RetZ (w : World) (z : Int) (e : Ending) (w' : World) : Prop := e = .returned (.int .i64 z) ∧ w.grownBy w' none
set_option maxHeartbeats 16000000 in
theorem RFit_any (w : World) (s sr : Option Addr) (n cap p m mc : Nat) (rs : List KRec) (row : List Nat) (hn : rs.length = n) (hl : RcSl w s rs) (hs : Small rs) (hp : p ≤ n) (hb : n ≤ 4398046511104) (hr : InS w sr row) (hm : row.length = m) (hm2 : m ≤ 100) (hk : ∀ k ∈ row, k < 2000) :
    Calls Try.prog 53 #[.slice s n cap, .int .i64 (p : Int), .slice sr m mc] w (RetZ w (fitD row (rs.drop p))) := by
  obtain ⟨z, hz⟩ : ∃ z, fitD row (rs.drop p) = z := ⟨_, rfl⟩
  rw [hz]
  have HZ := Lib.hid hz
  have HL := Lib.hid hl
  have HR := Lib.hid hr
  have HS := Lib.hid hs
  have HN := Lib.hid hn
  have HM := Lib.hid hm
  have HK := Lib.hid hk
  have hG : w.grownBy w none := grown_refl _ _
  clear hz hl hr hn hm hk hs
  go_enter Try.func53, Try.ntmps53
  go_wp2_with fail
  go_loopg [1, 8] m (fun gh x y wr => ∃ j q : Nat, j ≤ m ∧ m - j ≤ gh ∧ x = .int .i64 (q : Int) ∧ y = .int .i64 (j : Int) ∧ p ≤ q ∧ q ≤ n ∧ Hid (run (rowRu row) (rs.drop p) = run (rowRu (row.drop j)) (rs.drop q)) ∧ Hid (w.grownBy wr none))
  case atStart => exact ⟨0, p, Nat.zero_le _, Nat.le_refl _, rfl, rfl, Nat.le_refl _, hp, Lib.hid rfl, Lib.hid hG⟩
  case round =>
    clear hG
    obtain ⟨j, q, hj, hgh, rfl, rfl, hpq, hqn, HF, HG⟩ := hrel
    by_cases hlt : j < m
    · have f1 : decide ((j : Int) < (m : Int)) = true := decide_eq_true (by omega)
      have hjr : j < row.length := by rw [HM.out]; exact hlt
      obtain ⟨ar, rfl, R0⟩ := HR.out j hjr
      obtain ⟨k, hk⟩ : ∃ k, row[j] = k := ⟨_, rfl⟩
      have hk2 := HK.out _ (List.getElem_mem hjr)
      rw [hk] at R0 hk2
      replace R0 := HG.out.cell R0 (by simp)
      have hdr : row.drop j = k :: row.drop (j + 1) := by rw [List.drop_eq_getElem_cons hjr, hk]
      rw [hdr] at HF
      obtain ⟨c, hc⟩ : ∃ c, k % 1000 = c := ⟨_, rfl⟩
      have c1 : (k : Int).tmod 1000 = (c : Int) := by rw [Int.tmod_eq_emod_of_nonneg (by omega)]; omega
      have hcb : c < 1000 := by omega
      have HC := Lib.hid hc
      clear hk hdr hc hjr
      by_cases hq : q < n
      · have f2 : decide ((q : Int) < (n : Int)) = true := decide_eq_true (by omega)
        have hql : q < rs.length := by rw [HN.out]; exact hq
        obtain ⟨a, u, sb, cb, kd, dt, bd, rfl, hu, hrq, A0, A1, A2, HB, _, hcb2, hcm⟩ := HL.out.at q hql
        have hdq : rs.drop q = (kd, dt, bd) :: rs.drop (q + 1) := by rw [List.drop_eq_getElem_cons hql, hrq]
        have HDQ := Lib.hid hdq
        have hkb : kd < 256 := by have := (HS.out _ (List.getElem_mem hql)).1; rw [hrq] at this; exact this
        rw [hdq] at HF
        have HBB := Lib.hid (HB.kept HG.out)
        replace A0 := HG.out.cell A0 (by simp)
        replace A1 := HG.out.cell A1 (by simp)
        replace A2 := HG.out.cell A2 (by simp)
        clear hrq hdq HB hql
        by_cases hkc : kd = c
        · have t1 : ((kd : Int) == (c : Int)) = true := beq_iff_eq.2 (by omega)
          have hbm : bd.length ≤ 9223372036854775807 := by omega
          have HA := Lib.hid (And.intro A0 R0)
          obtain ⟨b, hb'⟩ : ∃ b, rightB kd dt bd = b := ⟨_, rfl⟩
          have HBT := Lib.hid hb'
          have HKC := Lib.hid hkc
          clear hb' hkc
          go_wp2_with fail
          refine (RRight_any _ sb kd dt bd.length cb bd rfl HBB.out hbm).mono ?_
          rw [HBT.out]
          rintro e w1 ⟨rfl, hg1⟩
          have HG1 := Lib.hid (grown_trans HG.out hg1)
          replace A0 := hg1.cell HA.out.1 (by simp)
          replace R0 := hg1.cell HA.out.2 (by simp)
          clear hg1 A1 A2
          cases b with
          | true =>
            have HF2 : Hid (run (rowRu row) (rs.drop p) = run (rowRu (row.drop (j + 1))) (rs.drop (q + 1))) := Lib.hid (HF.out.trans (step_yes (r := (kd, dt, bd)) _ hk2 (by rw [HC.out]; exact HKC.out) HBT.out))
            clear HF
            go_wp2_with fail
            go_roundg (m - (j + 1))
            case measure => omega
            case rel => exact ⟨j + 1, q + 1, by omega, Nat.le_refl _, by go_num, by go_num, by omega, by omega, HF2, HG1⟩
          | false =>
            have he : z = -1 := by
              rw [← HZ.out]; unfold fitD; rw [HF.out, step_bad (r := (kd, dt, bd)) _ hk2 (by rw [HC.out]; exact HKC.out) HBT.out]
            have HE := Lib.hid he
            clear HF he
            go_wp2_with fail
            all_goals (
              go_ret
              exact ⟨by rw [HE.out]; rfl, HG1.out⟩)
        · have t1 : ((kd : Int) == (c : Int)) = false := beq_eq_false_iff_ne.2 (by omega)
          have HNE : Hid (∀ (r : KRec) (t : List KRec), (kd, dt, bd) :: rs.drop (q + 1) = r :: t → r.1 ≠ k % 1000) := Lib.hid fun r t e => by cases e; rw [HC.out]; exact hkc
          by_cases h1000 : k < 1000
          · have f3 : decide ((k : Int) < 1000) = true := decide_eq_true (by omega)
            have he : z = -1 := by
              rw [← HZ.out]; unfold fitD; rw [HF.out, step_must _ h1000 HNE.out]
            have HE := Lib.hid he
            clear HF he A1 A2
            go_wp2_with fail
            go_ret
            exact ⟨by rw [HE.out]; rfl, HG.out⟩
          · have f3 : decide ((k : Int) < 1000) = false := decide_eq_false (by omega)
            have HF2 : Hid (run (rowRu row) (rs.drop p) = run (rowRu (row.drop (j + 1))) (rs.drop q)) := Lib.hid (by rw [HDQ.out]; exact HF.out.trans (step_may _ hk2 h1000 HNE.out))
            clear HF A1 A2
            go_wp2_with fail
            go_roundg (m - (j + 1))
            case measure => omega
            case rel => exact ⟨j + 1, q, by omega, Nat.le_refl _, by go_num, by go_num, by omega, by omega, HF2, HG⟩
      · obtain rfl : q = n := by omega
        have f2 : decide ((q : Int) < (q : Int)) = false := decide_eq_false (by omega)
        have HNE : Hid (∀ (r : KRec) (t : List KRec), rs.drop q = r :: t → r.1 ≠ k % 1000) := Lib.hid fun r t e => by rw [List.drop_eq_nil_of_le (by rw [HN.out]; exact Nat.le_refl _)] at e; cases e
        by_cases h1000 : k < 1000
        · have f3 : decide ((k : Int) < 1000) = true := decide_eq_true (by omega)
          have he : z = -1 := by
            rw [← HZ.out]; unfold fitD; rw [HF.out, step_must _ h1000 HNE.out]
          have HE := Lib.hid he
          clear HF he
          go_wp2_with fail
          go_ret
          exact ⟨by rw [HE.out]; rfl, HG.out⟩
        · have f3 : decide ((k : Int) < 1000) = false := decide_eq_false (by omega)
          have HF2 : Hid (run (rowRu row) (rs.drop p) = run (rowRu (row.drop (j + 1))) (rs.drop q)) := Lib.hid (HF.out.trans (step_may _ hk2 h1000 HNE.out))
          clear HF
          go_wp2_with fail
          go_roundg (m - (j + 1))
          case measure => omega
          case rel => exact ⟨j + 1, q, by omega, Nat.le_refl _, by go_num, by go_num, by omega, by omega, HF2, HG⟩
    · obtain rfl : j = m := by omega
      have f1 : decide ((j : Int) < (j : Int)) = false := decide_eq_false (by omega)
      have he : z = (q : Int) - (p : Int) := by
        rw [← HZ.out]; unfold fitD
        rw [HF.out, List.drop_eq_nil_of_le (by rw [HM.out]; exact Nat.le_refl _)]
        show (((rs.drop p).length - (rs.drop q).length : Nat) : Int) = _
        rw [List.length_drop, List.length_drop, HN.out]; omega
      have HE := Lib.hid he
      clear HF he
      go_wp2_with fail
      go_ret
      exact ⟨by rw [HE.out]; rfl, HG.out⟩
end Go.Proofs.Ytcioefmldcmhgaa
namespace Go.Proofs.Ytcioefmldcmhgaa
open Go.RowKit
set_option maxRecDepth 100000
set_option linter.unusedVariables false
set_option linter.unusedSimpArgs false

def RetRow (w : World) (l : List Nat) (e : Ending) (w' : World) : Prop :=
  (l = [] ∧ e = .returned (.slice none 0 0) ∧ w.grownBy w' none) ∨ (l ≠ [] ∧ l.length ≤ 100 ∧ (∀ k ∈ l, k < 2000) ∧ ∃ g cap, e = .returned (.slice (some ⟨g, 0, none⟩) l.length cap) ∧ InS w' (some ⟨g, 0, none⟩) l ∧ w.grownBy w' none)
theorem info_partsN : ∃ i, Try.prog.info? 3 = some i ∧ i.zero = some (.int .i64 0) ∧ i.size = 1 ∧ i.bytes = 8 := by
  have h : (Try.prog.info? 3).map (fun i => (i.zero, i.size, i.bytes)) = some (some (.int .i64 0), 1, 8) := by kernel_rfl
  obtain ⟨i, hi, he⟩ := Option.map_eq_some_iff.1 h
  exact ⟨i, hi, congrArg Prod.fst he, congrArg (fun x => x.2.1) he, congrArg (fun x => x.2.2) he⟩
theorem own_ins {W : World} {base n g cap : Nat} {xs : List Value} {l : List Nat} (h : W.ownsRow base 3 1 (.slice (some ⟨g, 0, none⟩) n cap) n xs) (hx : xs = l.map fun x : Nat => .int .i64 (x : Int)) : InS W (some ⟨g, 0, none⟩) l := fun i hi =>
  ⟨_, rfl, h.cells rfl i _ (by subst hx; simp [hi])⟩
theorem own_lit {W : World} {b : Nat} (xs : List Value) (n : Nat) (hn : xs.length = n) (hm : n ≤ maxLen) (hb : b ≤ W.heap.size) : (W.alloc (.cells xs.toArray 3)).ownsRow b 3 1 (.slice (some ⟨W.heap.size, 0, none⟩) n n) n xs :=
  ⟨by rw [hn, Nat.mul_one], Or.inr ⟨W.heap.size, n, _, rfl, hb, heap_new W _ _ rfl, Nat.le_refl _, hm, by simp [hn], by subst hn; simp⟩⟩
theorem news_lit (W : World) (xs : List Value) : ∀ j u, xs[j]? = some u → (W.alloc (.cells xs.toArray 3)).cell? ((⟨W.heap.size, 0, none⟩ : Addr).add j) = some u := fun j u hj => by
  refine cell_of (heap_new W (.cells xs.toArray 3) W.heap.size rfl) ?_
  simpa using hj
theorem news_off {W W' : World} {q b : Nat} {xs : List Value} (h : ∀ j u, xs[j]? = some u → W.cell? ((⟨b, 0, none⟩ : Addr).add j) = some u) (hg : W.grownBy W' (some q)) (hq : b ≠ q) : ∀ j u, xs[j]? = some u → W'.cell? ((⟨b, 0, none⟩ : Addr).add j) = some u := fun j u hj => by
  refine hg.cell (h j u hj) ?_
  have e : (⟨b, 0, none⟩ : Addr).add j = ⟨b, j, none⟩ := by unfold Addr.add; split <;> simp_all
  rw [e]; exact fun e => hq (Option.some.inj e)
theorem news_kept {W W' : World} {a : Addr} {xs : List Value} (h : ∀ j u, xs[j]? = some u → W.cell? (a.add j) = some u) (hg : W.grownBy W' none) : ∀ j u, xs[j]? = some u → W'.cell? (a.add j) = some u := fun j u hj => hg.cell (h j u hj) (by simp)
set_option maxHeartbeats 16000000 in
theorem RRows_8f (w : World) : Calls Try.prog 54 #[.int .u8 8, .bool false] w (RetRow w (rowD 8 false)) := by
  obtain ⟨i1, hi, hz0, hz1, hz2⟩ := info_partsN
  have g1 := World.grownBy_alloc w (.cells #[.int .i64 8, .int .i64 1038, .int .i64 1047] 3) none
  have o1 := own_lit (W := w) (b := w.heap.size) [.int .i64 8, .int .i64 1038, .int .i64 1047] 3 rfl (by decide) (Nat.le_refl _)
  have g2 := World.grownBy_alloc (w.alloc (.cells #[.int .i64 8, .int .i64 1038, .int .i64 1047] 3)) (.cells #[] 3) none
  have n2 := news_lit (w.alloc (.cells #[.int .i64 8, .int .i64 1038, .int .i64 1047] 3)) []
  have g3 := grown_refl ((w.alloc (.cells #[.int .i64 8, .int .i64 1038, .int .i64 1047] 3)).alloc (.cells #[] 3)) none
  have g4 := World.grownBy_alloc ((w.alloc (.cells #[.int .i64 8, .int .i64 1038, .int .i64 1047] 3)).alloc (.cells #[] 3)) (.cells #[.int .i64 13, .int .i64 14, .int .i64 16] 3) none
  have n4 := Lib.hid (news_lit ((w.alloc (.cells #[.int .i64 8, .int .i64 1038, .int .i64 1047] 3)).alloc (.cells #[] 3)) [.int .i64 13, .int .i64 14, .int .i64 16])
  have gA := grown_trans (grown_trans g2 g3) g4
  have HG := Lib.hid (grown_trans g1 gA)
  have HO := Lib.hid (own_kept o1 gA)
  have HB := Lib.hid (HG.out.size)
  clear g1 o1 g2 n2 g3 g4 gA
  go_enter Try.func54, Try.ntmps54
  have n4' : Hid (∀ j u, ([.int .i64 13, .int .i64 14, .int .i64 16] : List Value)[j]? = some u → (((w.alloc (.cells #[.int .i64 8, .int .i64 1038, .int .i64 1047] 3)).alloc (.cells #[] 3)).alloc (.cells #[.int .i64 13, .int .i64 14, .int .i64 16] 3)).cell? ((⟨w.heap.size + 1 + 1, 0, none⟩ : Addr).add j) = some u) := Lib.hid (by have h := n4.out; simpa using h)
  go_wp2_with (at_builtin; refine wpList_own_some rfl (.tmp 16) (.tmp 17) 91 rfl w.heap.size 3 i1 (.int .i64 0) 1 8 Try.underlying91 hi hz0 hz1 hz2 rfl (by decide) (.slice (some ⟨w.heap.size, 0, none⟩) 3 3) 3 [.int .i64 8, .int .i64 1038, .int .i64 1047] rfl HO.out ⟨w.heap.size + 1 + 1, 0, none⟩ 3 3 [.int .i64 13, .int .i64 14, .int .i64 16] rfl rfl n4'.out (by simp [Value.oneCell']) (by decide) (by decide) HB.out (Or.inl (by simp)) 6 rfl ?_)
  intro g5 c5 w5 hown5 hgrow5 hgb5 hcb5 hmb5
  have hg5 : w.grownBy w5 none := grown_new (g := w.heap.size) HG.out hgrow5 (Nat.le_refl _)
  have hF : Hid (RetRow w (rowD 8 false) (.returned (.slice (some ⟨g5, 0, none⟩) 6 c5)) w5) := Lib.hid (Or.inr ⟨by decide, by decide, by decide, g5, c5, rfl, own_ins hown5 rfl, hg5⟩)
  clear hown5 hgrow5 hg5 HO HG n4 n4' HB
  go_wp2_with fail
  go_ret
  exact hF.out
set_option maxHeartbeats 16000000 in
theorem RRows_8t (w : World) : Calls Try.prog 54 #[.int .u8 8, .bool true] w (RetRow w (rowD 8 true)) := by
  obtain ⟨i1, hi, hz0, hz1, hz2⟩ := info_partsN
  have g1 := World.grownBy_alloc w (.cells #[.int .i64 8, .int .i64 1038, .int .i64 1047] 3) none
  have o1 := own_lit (W := w) (b := w.heap.size) [.int .i64 8, .int .i64 1038, .int .i64 1047] 3 rfl (by decide) (Nat.le_refl _)
  have g2 := World.grownBy_alloc (w.alloc (.cells #[.int .i64 8, .int .i64 1038, .int .i64 1047] 3)) (.cells #[] 3) none
  have n2 := news_lit (w.alloc (.cells #[.int .i64 8, .int .i64 1038, .int .i64 1047] 3)) []
  have g3 := World.grownBy_alloc ((w.alloc (.cells #[.int .i64 8, .int .i64 1038, .int .i64 1047] 3)).alloc (.cells #[] 3)) (.cells #[.int .i64 26, .int .i64 1027, .int .i64 1028] 3) none
  have n3 := news_lit ((w.alloc (.cells #[.int .i64 8, .int .i64 1038, .int .i64 1047] 3)).alloc (.cells #[] 3)) [.int .i64 26, .int .i64 1027, .int .i64 1028]
  have g4 := World.grownBy_alloc (((w.alloc (.cells #[.int .i64 8, .int .i64 1038, .int .i64 1047] 3)).alloc (.cells #[] 3)).alloc (.cells #[.int .i64 26, .int .i64 1027, .int .i64 1028] 3)) (.cells #[.int .i64 13, .int .i64 14, .int .i64 16] 3) none
  have n4 := Lib.hid (news_lit (((w.alloc (.cells #[.int .i64 8, .int .i64 1038, .int .i64 1047] 3)).alloc (.cells #[] 3)).alloc (.cells #[.int .i64 26, .int .i64 1027, .int .i64 1028] 3)) [.int .i64 13, .int .i64 14, .int .i64 16])
  have gA := grown_trans (grown_trans g2 g3) g4
  have HG := Lib.hid (grown_trans g1 gA)
  have HO := Lib.hid (own_kept o1 gA)
  have HB := Lib.hid (HG.out.size)
  clear g1 o1 g2 n2 g3 g4 gA n3
  go_enter Try.func54, Try.ntmps54
  have n4' : Hid (∀ j u, ([.int .i64 13, .int .i64 14, .int .i64 16] : List Value)[j]? = some u → ((((w.alloc (.cells #[.int .i64 8, .int .i64 1038, .int .i64 1047] 3)).alloc (.cells #[] 3)).alloc (.cells #[.int .i64 26, .int .i64 1027, .int .i64 1028] 3)).alloc (.cells #[.int .i64 13, .int .i64 14, .int .i64 16] 3)).cell? ((⟨w.heap.size + 1 + 1 + 1, 0, none⟩ : Addr).add j) = some u) := Lib.hid (by have h := n4.out; simpa using h)
  go_wp2_with (at_builtin; refine wpList_own_some rfl (.tmp 16) (.tmp 17) 91 rfl w.heap.size 3 i1 (.int .i64 0) 1 8 Try.underlying91 hi hz0 hz1 hz2 rfl (by decide) (.slice (some ⟨w.heap.size, 0, none⟩) 3 3) 3 [.int .i64 8, .int .i64 1038, .int .i64 1047] rfl HO.out ⟨w.heap.size + 1 + 1 + 1, 0, none⟩ 3 3 [.int .i64 13, .int .i64 14, .int .i64 16] rfl rfl n4'.out (by simp [Value.oneCell']) (by decide) (by decide) HB.out (Or.inl (by simp)) 6 rfl ?_)
  intro g5 c5 w5 hown5 hgrow5 hgb5 hcb5 hmb5
  have hg5 : w.grownBy w5 none := grown_new (g := w.heap.size) HG.out hgrow5 (Nat.le_refl _)
  have hF : Hid (RetRow w (rowD 8 true) (.returned (.slice (some ⟨g5, 0, none⟩) 6 c5)) w5) := Lib.hid (Or.inr ⟨by decide, by decide, by decide, g5, c5, rfl, own_ins hown5 rfl, hg5⟩)
  clear hown5 hgrow5 hg5 HO HG n4 n4' HB
  go_wp2_with fail
  go_ret
  exact hF.out
set_option maxHeartbeats 16000000 in
theorem RRows_9f (w : World) : Calls Try.prog 54 #[.int .u8 9, .bool false] w (RetRow w (rowD 9 false)) := by
  obtain ⟨i1, hi, hz0, hz1, hz2⟩ := info_partsN
  have g1 := World.grownBy_alloc w (.cells #[.int .i64 9, .int .i64 1038, .int .i64 1047] 3) none
  have o1 := own_lit (W := w) (b := w.heap.size) [.int .i64 9, .int .i64 1038, .int .i64 1047] 3 rfl (by decide) (Nat.le_refl _)
  have g2 := World.grownBy_alloc (w.alloc (.cells #[.int .i64 9, .int .i64 1038, .int .i64 1047] 3)) (.cells #[] 3) none
  have n2 := news_lit (w.alloc (.cells #[.int .i64 9, .int .i64 1038, .int .i64 1047] 3)) []
  have g3 := grown_refl ((w.alloc (.cells #[.int .i64 9, .int .i64 1038, .int .i64 1047] 3)).alloc (.cells #[] 3)) none
  have g4 := World.grownBy_alloc ((w.alloc (.cells #[.int .i64 9, .int .i64 1038, .int .i64 1047] 3)).alloc (.cells #[] 3)) (.cells #[.int .i64 13, .int .i64 14, .int .i64 1033, .int .i64 1015, .int .i64 1048, .int .i64 1049, .int .i64 16] 3) none
  have n4 := Lib.hid (news_lit ((w.alloc (.cells #[.int .i64 9, .int .i64 1038, .int .i64 1047] 3)).alloc (.cells #[] 3)) [.int .i64 13, .int .i64 14, .int .i64 1033, .int .i64 1015, .int .i64 1048, .int .i64 1049, .int .i64 16])
  have gA := grown_trans (grown_trans g2 g3) g4
  have HG := Lib.hid (grown_trans g1 gA)
  have HO := Lib.hid (own_kept o1 gA)
  have HB := Lib.hid (HG.out.size)
  clear g1 o1 g2 n2 g3 g4 gA
  go_enter Try.func54, Try.ntmps54
  have n4' : Hid (∀ j u, ([.int .i64 13, .int .i64 14, .int .i64 1033, .int .i64 1015, .int .i64 1048, .int .i64 1049, .int .i64 16] : List Value)[j]? = some u → (((w.alloc (.cells #[.int .i64 9, .int .i64 1038, .int .i64 1047] 3)).alloc (.cells #[] 3)).alloc (.cells #[.int .i64 13, .int .i64 14, .int .i64 1033, .int .i64 1015, .int .i64 1048, .int .i64 1049, .int .i64 16] 3)).cell? ((⟨w.heap.size + 1 + 1, 0, none⟩ : Addr).add j) = some u) := Lib.hid (by have h := n4.out; simpa using h)
  go_wp2_with (at_builtin; refine wpList_own_some rfl (.tmp 21) (.tmp 22) 91 rfl w.heap.size 3 i1 (.int .i64 0) 1 8 Try.underlying91 hi hz0 hz1 hz2 rfl (by decide) (.slice (some ⟨w.heap.size, 0, none⟩) 3 3) 3 [.int .i64 9, .int .i64 1038, .int .i64 1047] rfl HO.out ⟨w.heap.size + 1 + 1, 0, none⟩ 7 7 [.int .i64 13, .int .i64 14, .int .i64 1033, .int .i64 1015, .int .i64 1048, .int .i64 1049, .int .i64 16] rfl rfl n4'.out (by simp [Value.oneCell']) (by decide) (by decide) HB.out (Or.inl (by simp)) 10 rfl ?_)
  intro g5 c5 w5 hown5 hgrow5 hgb5 hcb5 hmb5
  have hg5 : w.grownBy w5 none := grown_new (g := w.heap.size) HG.out hgrow5 (Nat.le_refl _)
  have hF : Hid (RetRow w (rowD 9 false) (.returned (.slice (some ⟨g5, 0, none⟩) 10 c5)) w5) := Lib.hid (Or.inr ⟨by decide, by decide, by decide, g5, c5, rfl, own_ins hown5 rfl, hg5⟩)
  clear hown5 hgrow5 hg5 HO HG n4 n4' HB
  go_wp2_with fail
  go_ret
  exact hF.out
set_option maxHeartbeats 16000000 in
theorem RRows_9t (w : World) : Calls Try.prog 54 #[.int .u8 9, .bool true] w (RetRow w (rowD 9 true)) := by
  obtain ⟨i1, hi, hz0, hz1, hz2⟩ := info_partsN
  have g1 := World.grownBy_alloc w (.cells #[.int .i64 9, .int .i64 1038, .int .i64 1047] 3) none
  have o1 := own_lit (W := w) (b := w.heap.size) [.int .i64 9, .int .i64 1038, .int .i64 1047] 3 rfl (by decide) (Nat.le_refl _)
  have g2 := World.grownBy_alloc (w.alloc (.cells #[.int .i64 9, .int .i64 1038, .int .i64 1047] 3)) (.cells #[] 3) none
  have n2 := news_lit (w.alloc (.cells #[.int .i64 9, .int .i64 1038, .int .i64 1047] 3)) []
  have g3 := World.grownBy_alloc ((w.alloc (.cells #[.int .i64 9, .int .i64 1038, .int .i64 1047] 3)).alloc (.cells #[] 3)) (.cells #[.int .i64 26, .int .i64 1027, .int .i64 1028] 3) none
  have n3 := news_lit ((w.alloc (.cells #[.int .i64 9, .int .i64 1038, .int .i64 1047] 3)).alloc (.cells #[] 3)) [.int .i64 26, .int .i64 1027, .int .i64 1028]
  have g4 := World.grownBy_alloc (((w.alloc (.cells #[.int .i64 9, .int .i64 1038, .int .i64 1047] 3)).alloc (.cells #[] 3)).alloc (.cells #[.int .i64 26, .int .i64 1027, .int .i64 1028] 3)) (.cells #[.int .i64 13, .int .i64 14, .int .i64 1033, .int .i64 1015, .int .i64 1048, .int .i64 1049, .int .i64 16] 3) none
  have n4 := Lib.hid (news_lit (((w.alloc (.cells #[.int .i64 9, .int .i64 1038, .int .i64 1047] 3)).alloc (.cells #[] 3)).alloc (.cells #[.int .i64 26, .int .i64 1027, .int .i64 1028] 3)) [.int .i64 13, .int .i64 14, .int .i64 1033, .int .i64 1015, .int .i64 1048, .int .i64 1049, .int .i64 16])
  have gA := grown_trans (grown_trans g2 g3) g4
  have HG := Lib.hid (grown_trans g1 gA)
  have HO := Lib.hid (own_kept o1 gA)
  have HB := Lib.hid (HG.out.size)
  clear g1 o1 g2 n2 g3 g4 gA n3
  go_enter Try.func54, Try.ntmps54
  have n4' : Hid (∀ j u, ([.int .i64 13, .int .i64 14, .int .i64 1033, .int .i64 1015, .int .i64 1048, .int .i64 1049, .int .i64 16] : List Value)[j]? = some u → ((((w.alloc (.cells #[.int .i64 9, .int .i64 1038, .int .i64 1047] 3)).alloc (.cells #[] 3)).alloc (.cells #[.int .i64 26, .int .i64 1027, .int .i64 1028] 3)).alloc (.cells #[.int .i64 13, .int .i64 14, .int .i64 1033, .int .i64 1015, .int .i64 1048, .int .i64 1049, .int .i64 16] 3)).cell? ((⟨w.heap.size + 1 + 1 + 1, 0, none⟩ : Addr).add j) = some u) := Lib.hid (by have h := n4.out; simpa using h)
  go_wp2_with (at_builtin; refine wpList_own_some rfl (.tmp 21) (.tmp 22) 91 rfl w.heap.size 3 i1 (.int .i64 0) 1 8 Try.underlying91 hi hz0 hz1 hz2 rfl (by decide) (.slice (some ⟨w.heap.size, 0, none⟩) 3 3) 3 [.int .i64 9, .int .i64 1038, .int .i64 1047] rfl HO.out ⟨w.heap.size + 1 + 1 + 1, 0, none⟩ 7 7 [.int .i64 13, .int .i64 14, .int .i64 1033, .int .i64 1015, .int .i64 1048, .int .i64 1049, .int .i64 16] rfl rfl n4'.out (by simp [Value.oneCell']) (by decide) (by decide) HB.out (Or.inl (by simp)) 10 rfl ?_)
  intro g5 c5 w5 hown5 hgrow5 hgb5 hcb5 hmb5
  have hg5 : w.grownBy w5 none := grown_new (g := w.heap.size) HG.out hgrow5 (Nat.le_refl _)
  have hF : Hid (RetRow w (rowD 9 true) (.returned (.slice (some ⟨g5, 0, none⟩) 10 c5)) w5) := Lib.hid (Or.inr ⟨by decide, by decide, by decide, g5, c5, rfl, own_ins hown5 rfl, hg5⟩)
  clear hown5 hgrow5 hg5 HO HG n4 n4' HB
  go_wp2_with fail
  go_ret
  exact hF.out
set_option maxHeartbeats 16000000 in
theorem RRows_10f (w : World) : Calls Try.prog 54 #[.int .u8 10, .bool false] w (RetRow w (rowD 10 false)) := by
  obtain ⟨i1, hi, hz0, hz1, hz2⟩ := info_partsN
  have g1 := World.grownBy_alloc w (.cells #[.int .i64 10, .int .i64 1038, .int .i64 1047] 3) none
  have o1 := own_lit (W := w) (b := w.heap.size) [.int .i64 10, .int .i64 1038, .int .i64 1047] 3 rfl (by decide) (Nat.le_refl _)
  have g2 := World.grownBy_alloc (w.alloc (.cells #[.int .i64 10, .int .i64 1038, .int .i64 1047] 3)) (.cells #[] 3) none
  have n2 := news_lit (w.alloc (.cells #[.int .i64 10, .int .i64 1038, .int .i64 1047] 3)) []
  have g3 := grown_refl ((w.alloc (.cells #[.int .i64 10, .int .i64 1038, .int .i64 1047] 3)).alloc (.cells #[] 3)) none
  have g4 := World.grownBy_alloc ((w.alloc (.cells #[.int .i64 10, .int .i64 1038, .int .i64 1047] 3)).alloc (.cells #[] 3)) (.cells #[.int .i64 18] 3) none
  have n4 := Lib.hid (news_lit ((w.alloc (.cells #[.int .i64 10, .int .i64 1038, .int .i64 1047] 3)).alloc (.cells #[] 3)) [.int .i64 18])
  have gA := grown_trans (grown_trans g2 g3) g4
  have HG := Lib.hid (grown_trans g1 gA)
  have HO := Lib.hid (own_kept o1 gA)
  have HT : Hid (∀ j u, ([] : List Value)[j]? = some u → (((w.alloc (.cells #[.int .i64 10, .int .i64 1038, .int .i64 1047] 3)).alloc (.cells #[] 3)).alloc (.cells #[.int .i64 18] 3)).cell? ((⟨w.heap.size + 1, 0, none⟩ : Addr).add j) = some u) := Lib.hid (by intro j u h; simp at h)
  have HB := Lib.hid (HG.out.size)
  clear g1 o1 g2 n2 g3 g4 gA
  go_enter Try.func54, Try.ntmps54
  have n4' : Hid (∀ j u, ([.int .i64 18] : List Value)[j]? = some u → (((w.alloc (.cells #[.int .i64 10, .int .i64 1038, .int .i64 1047] 3)).alloc (.cells #[] 3)).alloc (.cells #[.int .i64 18] 3)).cell? ((⟨w.heap.size + 1 + 1, 0, none⟩ : Addr).add j) = some u) := Lib.hid (by have h := n4.out; simpa using h)
  go_wp2_with (at_builtin; refine wpList_own_some rfl (.tmp 26) (.tmp 27) 91 rfl w.heap.size 3 i1 (.int .i64 0) 1 8 Try.underlying91 hi hz0 hz1 hz2 rfl (by decide) (.slice (some ⟨w.heap.size, 0, none⟩) 3 3) 3 [.int .i64 10, .int .i64 1038, .int .i64 1047] rfl HO.out ⟨w.heap.size + 1 + 1, 0, none⟩ 1 1 [.int .i64 18] rfl rfl n4'.out (by simp [Value.oneCell']) (by decide) (by decide) HB.out (Or.inl (by simp)) 4 rfl ?_)
  intro g5 c5 w5 hown5 hgrow5 hgb5 hcb5 hmb5
  have hg5 : w.grownBy w5 none := grown_new (g := w.heap.size) HG.out hgrow5 (Nat.le_refl _)
  have HT5 := Lib.hid (news_off HT.out hgrow5 (by show (_ : Nat) ≠ w.heap.size; omega))
  have HO5 := Lib.hid hown5
  have HG5 := Lib.hid hg5
  have HB5 := Lib.hid hg5.size
  clear hown5 hgrow5 hg5 HO HG n4 n4' HB HT
  go_wp2_with (at_builtin; refine wpList_own_some rfl (.tmp 28) (.tmp 29) 91 rfl w.heap.size 3 i1 (.int .i64 0) 1 8 Try.underlying91 hi hz0 hz1 hz2 rfl (by decide) (.slice (some ⟨g5, 0, none⟩) 4 c5) 4 [.int .i64 10, .int .i64 1038, .int .i64 1047, .int .i64 18] rfl HO5.out ⟨w.heap.size + 1, 0, none⟩ 0 0 [] rfl rfl HT5.out (by simp [Value.oneCell']) (by decide) (by decide) HB5.out (Or.inl (by simp)) 4 rfl ?_)
  intro g6 c6 w6 hown6 hgrow6 hgb6 hcb6 hmb6
  have hg6 : w.grownBy w6 none := grown_new (g := g5) HG5.out hgrow6 hgb5
  have gB := World.grownBy_alloc w6 (.cells #[.int .i64 16] 3) none
  have HO6 := Lib.hid (own_kept hown6 gB)
  have HG6 := Lib.hid (grown_trans hg6 gB)
  have HB6 := Lib.hid HG6.out.size
  have n6 := Lib.hid (news_lit w6 [.int .i64 16])
  clear hown6 hgrow6 hg6 gB HO5 HG5 HB5 HT5
  go_wp2_with (at_builtin; refine wpList_own_some rfl (.tmp 30) (.tmp 31) 91 rfl w.heap.size 3 i1 (.int .i64 0) 1 8 Try.underlying91 hi hz0 hz1 hz2 rfl (by decide) (.slice (some ⟨g6, 0, none⟩) 4 c6) 4 [.int .i64 10, .int .i64 1038, .int .i64 1047, .int .i64 18] rfl HO6.out ⟨w6.heap.size, 0, none⟩ 1 1 [.int .i64 16] rfl rfl n6.out (by simp [Value.oneCell']) (by decide) (by decide) HB6.out (Or.inl (by simp)) 5 rfl ?_)
  intro g7 c7 w7 hown7 hgrow7 hgb7 hcb7 hmb7
  have hF : Hid (RetRow w (rowD 10 false) (.returned (.slice (some ⟨g7, 0, none⟩) 5 c7)) w7) := Lib.hid (Or.inr ⟨by decide, by decide, by decide, g7, c7, rfl, own_ins hown7 rfl, grown_new (g := g6) HG6.out hgrow7 hgb6⟩)
  clear hown7 hgrow7 HO6 HG6 HB6 n6
  go_wp2_with fail
  go_ret
  exact hF.out
set_option maxHeartbeats 16000000 in
theorem RRows_10t (w : World) : Calls Try.prog 54 #[.int .u8 10, .bool true] w (RetRow w (rowD 10 true)) := by
  obtain ⟨i1, hi, hz0, hz1, hz2⟩ := info_partsN
  have g1 := World.grownBy_alloc w (.cells #[.int .i64 10, .int .i64 1038, .int .i64 1047] 3) none
  have o1 := own_lit (W := w) (b := w.heap.size) [.int .i64 10, .int .i64 1038, .int .i64 1047] 3 rfl (by decide) (Nat.le_refl _)
  have g2 := World.grownBy_alloc (w.alloc (.cells #[.int .i64 10, .int .i64 1038, .int .i64 1047] 3)) (.cells #[] 3) none
  have n2 := news_lit (w.alloc (.cells #[.int .i64 10, .int .i64 1038, .int .i64 1047] 3)) []
  have g3 := World.grownBy_alloc ((w.alloc (.cells #[.int .i64 10, .int .i64 1038, .int .i64 1047] 3)).alloc (.cells #[] 3)) (.cells #[.int .i64 26, .int .i64 1027, .int .i64 1028] 3) none
  have n3 := news_lit ((w.alloc (.cells #[.int .i64 10, .int .i64 1038, .int .i64 1047] 3)).alloc (.cells #[] 3)) [.int .i64 26, .int .i64 1027, .int .i64 1028]
  have g4 := World.grownBy_alloc (((w.alloc (.cells #[.int .i64 10, .int .i64 1038, .int .i64 1047] 3)).alloc (.cells #[] 3)).alloc (.cells #[.int .i64 26, .int .i64 1027, .int .i64 1028] 3)) (.cells #[.int .i64 18] 3) none
  have n4 := Lib.hid (news_lit (((w.alloc (.cells #[.int .i64 10, .int .i64 1038, .int .i64 1047] 3)).alloc (.cells #[] 3)).alloc (.cells #[.int .i64 26, .int .i64 1027, .int .i64 1028] 3)) [.int .i64 18])
  have gA := grown_trans (grown_trans g2 g3) g4
  have HG := Lib.hid (grown_trans g1 gA)
  have HO := Lib.hid (own_kept o1 gA)
  have HT : Hid (∀ j u, ([.int .i64 26, .int .i64 1027, .int .i64 1028] : List Value)[j]? = some u → ((((w.alloc (.cells #[.int .i64 10, .int .i64 1038, .int .i64 1047] 3)).alloc (.cells #[] 3)).alloc (.cells #[.int .i64 26, .int .i64 1027, .int .i64 1028] 3)).alloc (.cells #[.int .i64 18] 3)).cell? ((⟨w.heap.size + 1 + 1, 0, none⟩ : Addr).add j) = some u) := Lib.hid (by have h := news_kept n3 g4; simpa using h)
  have HB := Lib.hid (HG.out.size)
  clear g1 o1 g2 n2 g3 g4 gA n3
  go_enter Try.func54, Try.ntmps54
  have n4' : Hid (∀ j u, ([.int .i64 18] : List Value)[j]? = some u → ((((w.alloc (.cells #[.int .i64 10, .int .i64 1038, .int .i64 1047] 3)).alloc (.cells #[] 3)).alloc (.cells #[.int .i64 26, .int .i64 1027, .int .i64 1028] 3)).alloc (.cells #[.int .i64 18] 3)).cell? ((⟨w.heap.size + 1 + 1 + 1, 0, none⟩ : Addr).add j) = some u) := Lib.hid (by have h := n4.out; simpa using h)
  go_wp2_with (at_builtin; refine wpList_own_some rfl (.tmp 26) (.tmp 27) 91 rfl w.heap.size 3 i1 (.int .i64 0) 1 8 Try.underlying91 hi hz0 hz1 hz2 rfl (by decide) (.slice (some ⟨w.heap.size, 0, none⟩) 3 3) 3 [.int .i64 10, .int .i64 1038, .int .i64 1047] rfl HO.out ⟨w.heap.size + 1 + 1 + 1, 0, none⟩ 1 1 [.int .i64 18] rfl rfl n4'.out (by simp [Value.oneCell']) (by decide) (by decide) HB.out (Or.inl (by simp)) 4 rfl ?_)
  intro g5 c5 w5 hown5 hgrow5 hgb5 hcb5 hmb5
  have hg5 : w.grownBy w5 none := grown_new (g := w.heap.size) HG.out hgrow5 (Nat.le_refl _)
  have HT5 := Lib.hid (news_off HT.out hgrow5 (by show (_ : Nat) ≠ w.heap.size; omega))
  have HO5 := Lib.hid hown5
  have HG5 := Lib.hid hg5
  have HB5 := Lib.hid hg5.size
  clear hown5 hgrow5 hg5 HO HG n4 n4' HB HT
  go_wp2_with (at_builtin; refine wpList_own_some rfl (.tmp 28) (.tmp 29) 91 rfl w.heap.size 3 i1 (.int .i64 0) 1 8 Try.underlying91 hi hz0 hz1 hz2 rfl (by decide) (.slice (some ⟨g5, 0, none⟩) 4 c5) 4 [.int .i64 10, .int .i64 1038, .int .i64 1047, .int .i64 18] rfl HO5.out ⟨w.heap.size + 1 + 1, 0, none⟩ 3 3 [.int .i64 26, .int .i64 1027, .int .i64 1028] rfl rfl HT5.out (by simp [Value.oneCell']) (by decide) (by decide) HB5.out (Or.inl (by simp)) 7 rfl ?_)
  intro g6 c6 w6 hown6 hgrow6 hgb6 hcb6 hmb6
  have hg6 : w.grownBy w6 none := grown_new (g := g5) HG5.out hgrow6 hgb5
  have gB := World.grownBy_alloc w6 (.cells #[.int .i64 16] 3) none
  have HO6 := Lib.hid (own_kept hown6 gB)
  have HG6 := Lib.hid (grown_trans hg6 gB)
  have HB6 := Lib.hid HG6.out.size
  have n6 := Lib.hid (news_lit w6 [.int .i64 16])
  clear hown6 hgrow6 hg6 gB HO5 HG5 HB5 HT5
  go_wp2_with (at_builtin; refine wpList_own_some rfl (.tmp 30) (.tmp 31) 91 rfl w.heap.size 3 i1 (.int .i64 0) 1 8 Try.underlying91 hi hz0 hz1 hz2 rfl (by decide) (.slice (some ⟨g6, 0, none⟩) 7 c6) 7 [.int .i64 10, .int .i64 1038, .int .i64 1047, .int .i64 18, .int .i64 26, .int .i64 1027, .int .i64 1028] rfl HO6.out ⟨w6.heap.size, 0, none⟩ 1 1 [.int .i64 16] rfl rfl n6.out (by simp [Value.oneCell']) (by decide) (by decide) HB6.out (Or.inl (by simp)) 8 rfl ?_)
  intro g7 c7 w7 hown7 hgrow7 hgb7 hcb7 hmb7
  have hF : Hid (RetRow w (rowD 10 true) (.returned (.slice (some ⟨g7, 0, none⟩) 8 c7)) w7) := Lib.hid (Or.inr ⟨by decide, by decide, by decide, g7, c7, rfl, own_ins hown7 rfl, grown_new (g := g6) HG6.out hgrow7 hgb6⟩)
  clear hown7 hgrow7 HO6 HG6 HB6 n6
  go_wp2_with fail
  go_ret
  exact hF.out
set_option maxHeartbeats 16000000 in
theorem RRows_11f (w : World) : Calls Try.prog 54 #[.int .u8 11, .bool false] w (RetRow w (rowD 11 false)) := by
  obtain ⟨i1, hi, hz0, hz1, hz2⟩ := info_partsN
  have g1 := World.grownBy_alloc w (.cells #[.int .i64 11, .int .i64 1038, .int .i64 1047] 3) none
  have o1 := own_lit (W := w) (b := w.heap.size) [.int .i64 11, .int .i64 1038, .int .i64 1047] 3 rfl (by decide) (Nat.le_refl _)
  have g2 := World.grownBy_alloc (w.alloc (.cells #[.int .i64 11, .int .i64 1038, .int .i64 1047] 3)) (.cells #[] 3) none
  have n2 := news_lit (w.alloc (.cells #[.int .i64 11, .int .i64 1038, .int .i64 1047] 3)) []
  have g3 := grown_refl ((w.alloc (.cells #[.int .i64 11, .int .i64 1038, .int .i64 1047] 3)).alloc (.cells #[] 3)) none
  have g4 := World.grownBy_alloc ((w.alloc (.cells #[.int .i64 11, .int .i64 1038, .int .i64 1047] 3)).alloc (.cells #[] 3)) (.cells #[.int .i64 18] 3) none
  have n4 := Lib.hid (news_lit ((w.alloc (.cells #[.int .i64 11, .int .i64 1038, .int .i64 1047] 3)).alloc (.cells #[] 3)) [.int .i64 18])
  have gA := grown_trans (grown_trans g2 g3) g4
  have HG := Lib.hid (grown_trans g1 gA)
  have HO := Lib.hid (own_kept o1 gA)
  have HT : Hid (∀ j u, ([] : List Value)[j]? = some u → (((w.alloc (.cells #[.int .i64 11, .int .i64 1038, .int .i64 1047] 3)).alloc (.cells #[] 3)).alloc (.cells #[.int .i64 18] 3)).cell? ((⟨w.heap.size + 1, 0, none⟩ : Addr).add j) = some u) := Lib.hid (by intro j u h; simp at h)
  have HB := Lib.hid (HG.out.size)
  clear g1 o1 g2 n2 g3 g4 gA
  go_enter Try.func54, Try.ntmps54
  have n4' : Hid (∀ j u, ([.int .i64 18] : List Value)[j]? = some u → (((w.alloc (.cells #[.int .i64 11, .int .i64 1038, .int .i64 1047] 3)).alloc (.cells #[] 3)).alloc (.cells #[.int .i64 18] 3)).cell? ((⟨w.heap.size + 1 + 1, 0, none⟩ : Addr).add j) = some u) := Lib.hid (by have h := n4.out; simpa using h)
  go_wp2_with (at_builtin; refine wpList_own_some rfl (.tmp 35) (.tmp 36) 91 rfl w.heap.size 3 i1 (.int .i64 0) 1 8 Try.underlying91 hi hz0 hz1 hz2 rfl (by decide) (.slice (some ⟨w.heap.size, 0, none⟩) 3 3) 3 [.int .i64 11, .int .i64 1038, .int .i64 1047] rfl HO.out ⟨w.heap.size + 1 + 1, 0, none⟩ 1 1 [.int .i64 18] rfl rfl n4'.out (by simp [Value.oneCell']) (by decide) (by decide) HB.out (Or.inl (by simp)) 4 rfl ?_)
  intro g5 c5 w5 hown5 hgrow5 hgb5 hcb5 hmb5
  have hg5 : w.grownBy w5 none := grown_new (g := w.heap.size) HG.out hgrow5 (Nat.le_refl _)
  have HT5 := Lib.hid (news_off HT.out hgrow5 (by show (_ : Nat) ≠ w.heap.size; omega))
  have HO5 := Lib.hid hown5
  have HG5 := Lib.hid hg5
  have HB5 := Lib.hid hg5.size
  clear hown5 hgrow5 hg5 HO HG n4 n4' HB HT
  go_wp2_with (at_builtin; refine wpList_own_some rfl (.tmp 37) (.tmp 38) 91 rfl w.heap.size 3 i1 (.int .i64 0) 1 8 Try.underlying91 hi hz0 hz1 hz2 rfl (by decide) (.slice (some ⟨g5, 0, none⟩) 4 c5) 4 [.int .i64 11, .int .i64 1038, .int .i64 1047, .int .i64 18] rfl HO5.out ⟨w.heap.size + 1, 0, none⟩ 0 0 [] rfl rfl HT5.out (by simp [Value.oneCell']) (by decide) (by decide) HB5.out (Or.inl (by simp)) 4 rfl ?_)
  intro g6 c6 w6 hown6 hgrow6 hgb6 hcb6 hmb6
  have hg6 : w.grownBy w6 none := grown_new (g := g5) HG5.out hgrow6 hgb5
  have gB := World.grownBy_alloc w6 (.cells #[.int .i64 19, .int .i64 16] 3) none
  have HO6 := Lib.hid (own_kept hown6 gB)
  have HG6 := Lib.hid (grown_trans hg6 gB)
  have HB6 := Lib.hid HG6.out.size
  have n6 := Lib.hid (news_lit w6 [.int .i64 19, .int .i64 16])
  clear hown6 hgrow6 hg6 gB HO5 HG5 HB5 HT5
  go_wp2_with (at_builtin; refine wpList_own_some rfl (.tmp 39) (.tmp 40) 91 rfl w.heap.size 3 i1 (.int .i64 0) 1 8 Try.underlying91 hi hz0 hz1 hz2 rfl (by decide) (.slice (some ⟨g6, 0, none⟩) 4 c6) 4 [.int .i64 11, .int .i64 1038, .int .i64 1047, .int .i64 18] rfl HO6.out ⟨w6.heap.size, 0, none⟩ 2 2 [.int .i64 19, .int .i64 16] rfl rfl n6.out (by simp [Value.oneCell']) (by decide) (by decide) HB6.out (Or.inl (by simp)) 6 rfl ?_)
  intro g7 c7 w7 hown7 hgrow7 hgb7 hcb7 hmb7
  have hF : Hid (RetRow w (rowD 11 false) (.returned (.slice (some ⟨g7, 0, none⟩) 6 c7)) w7) := Lib.hid (Or.inr ⟨by decide, by decide, by decide, g7, c7, rfl, own_ins hown7 rfl, grown_new (g := g6) HG6.out hgrow7 hgb6⟩)
  clear hown7 hgrow7 HO6 HG6 HB6 n6
  go_wp2_with fail
  go_ret
  exact hF.out
set_option maxHeartbeats 16000000 in
theorem RRows_11t (w : World) : Calls Try.prog 54 #[.int .u8 11, .bool true] w (RetRow w (rowD 11 true)) := by
  obtain ⟨i1, hi, hz0, hz1, hz2⟩ := info_partsN
  have g1 := World.grownBy_alloc w (.cells #[.int .i64 11, .int .i64 1038, .int .i64 1047] 3) none
  have o1 := own_lit (W := w) (b := w.heap.size) [.int .i64 11, .int .i64 1038, .int .i64 1047] 3 rfl (by decide) (Nat.le_refl _)
  have g2 := World.grownBy_alloc (w.alloc (.cells #[.int .i64 11, .int .i64 1038, .int .i64 1047] 3)) (.cells #[] 3) none
  have n2 := news_lit (w.alloc (.cells #[.int .i64 11, .int .i64 1038, .int .i64 1047] 3)) []
  have g3 := World.grownBy_alloc ((w.alloc (.cells #[.int .i64 11, .int .i64 1038, .int .i64 1047] 3)).alloc (.cells #[] 3)) (.cells #[.int .i64 26, .int .i64 1027, .int .i64 1028] 3) none
  have n3 := news_lit ((w.alloc (.cells #[.int .i64 11, .int .i64 1038, .int .i64 1047] 3)).alloc (.cells #[] 3)) [.int .i64 26, .int .i64 1027, .int .i64 1028]
  have g4 := World.grownBy_alloc (((w.alloc (.cells #[.int .i64 11, .int .i64 1038, .int .i64 1047] 3)).alloc (.cells #[] 3)).alloc (.cells #[.int .i64 26, .int .i64 1027, .int .i64 1028] 3)) (.cells #[.int .i64 18] 3) none
  have n4 := Lib.hid (news_lit (((w.alloc (.cells #[.int .i64 11, .int .i64 1038, .int .i64 1047] 3)).alloc (.cells #[] 3)).alloc (.cells #[.int .i64 26, .int .i64 1027, .int .i64 1028] 3)) [.int .i64 18])
  have gA := grown_trans (grown_trans g2 g3) g4
  have HG := Lib.hid (grown_trans g1 gA)
  have HO := Lib.hid (own_kept o1 gA)
  have HT : Hid (∀ j u, ([.int .i64 26, .int .i64 1027, .int .i64 1028] : List Value)[j]? = some u → ((((w.alloc (.cells #[.int .i64 11, .int .i64 1038, .int .i64 1047] 3)).alloc (.cells #[] 3)).alloc (.cells #[.int .i64 26, .int .i64 1027, .int .i64 1028] 3)).alloc (.cells #[.int .i64 18] 3)).cell? ((⟨w.heap.size + 1 + 1, 0, none⟩ : Addr).add j) = some u) := Lib.hid (by have h := news_kept n3 g4; simpa using h)
  have HB := Lib.hid (HG.out.size)
  clear g1 o1 g2 n2 g3 g4 gA n3
  go_enter Try.func54, Try.ntmps54
  have n4' : Hid (∀ j u, ([.int .i64 18] : List Value)[j]? = some u → ((((w.alloc (.cells #[.int .i64 11, .int .i64 1038, .int .i64 1047] 3)).alloc (.cells #[] 3)).alloc (.cells #[.int .i64 26, .int .i64 1027, .int .i64 1028] 3)).alloc (.cells #[.int .i64 18] 3)).cell? ((⟨w.heap.size + 1 + 1 + 1, 0, none⟩ : Addr).add j) = some u) := Lib.hid (by have h := n4.out; simpa using h)
  go_wp2_with (at_builtin; refine wpList_own_some rfl (.tmp 35) (.tmp 36) 91 rfl w.heap.size 3 i1 (.int .i64 0) 1 8 Try.underlying91 hi hz0 hz1 hz2 rfl (by decide) (.slice (some ⟨w.heap.size, 0, none⟩) 3 3) 3 [.int .i64 11, .int .i64 1038, .int .i64 1047] rfl HO.out ⟨w.heap.size + 1 + 1 + 1, 0, none⟩ 1 1 [.int .i64 18] rfl rfl n4'.out (by simp [Value.oneCell']) (by decide) (by decide) HB.out (Or.inl (by simp)) 4 rfl ?_)
  intro g5 c5 w5 hown5 hgrow5 hgb5 hcb5 hmb5
  have hg5 : w.grownBy w5 none := grown_new (g := w.heap.size) HG.out hgrow5 (Nat.le_refl _)
  have HT5 := Lib.hid (news_off HT.out hgrow5 (by show (_ : Nat) ≠ w.heap.size; omega))
  have HO5 := Lib.hid hown5
  have HG5 := Lib.hid hg5
  have HB5 := Lib.hid hg5.size
  clear hown5 hgrow5 hg5 HO HG n4 n4' HB HT
  go_wp2_with (at_builtin; refine wpList_own_some rfl (.tmp 37) (.tmp 38) 91 rfl w.heap.size 3 i1 (.int .i64 0) 1 8 Try.underlying91 hi hz0 hz1 hz2 rfl (by decide) (.slice (some ⟨g5, 0, none⟩) 4 c5) 4 [.int .i64 11, .int .i64 1038, .int .i64 1047, .int .i64 18] rfl HO5.out ⟨w.heap.size + 1 + 1, 0, none⟩ 3 3 [.int .i64 26, .int .i64 1027, .int .i64 1028] rfl rfl HT5.out (by simp [Value.oneCell']) (by decide) (by decide) HB5.out (Or.inl (by simp)) 7 rfl ?_)
  intro g6 c6 w6 hown6 hgrow6 hgb6 hcb6 hmb6
  have hg6 : w.grownBy w6 none := grown_new (g := g5) HG5.out hgrow6 hgb5
  have gB := World.grownBy_alloc w6 (.cells #[.int .i64 19, .int .i64 16] 3) none
  have HO6 := Lib.hid (own_kept hown6 gB)
  have HG6 := Lib.hid (grown_trans hg6 gB)
  have HB6 := Lib.hid HG6.out.size
  have n6 := Lib.hid (news_lit w6 [.int .i64 19, .int .i64 16])
  clear hown6 hgrow6 hg6 gB HO5 HG5 HB5 HT5
  go_wp2_with (at_builtin; refine wpList_own_some rfl (.tmp 39) (.tmp 40) 91 rfl w.heap.size 3 i1 (.int .i64 0) 1 8 Try.underlying91 hi hz0 hz1 hz2 rfl (by decide) (.slice (some ⟨g6, 0, none⟩) 7 c6) 7 [.int .i64 11, .int .i64 1038, .int .i64 1047, .int .i64 18, .int .i64 26, .int .i64 1027, .int .i64 1028] rfl HO6.out ⟨w6.heap.size, 0, none⟩ 2 2 [.int .i64 19, .int .i64 16] rfl rfl n6.out (by simp [Value.oneCell']) (by decide) (by decide) HB6.out (Or.inl (by simp)) 9 rfl ?_)
  intro g7 c7 w7 hown7 hgrow7 hgb7 hcb7 hmb7
  have hF : Hid (RetRow w (rowD 11 true) (.returned (.slice (some ⟨g7, 0, none⟩) 9 c7)) w7) := Lib.hid (Or.inr ⟨by decide, by decide, by decide, g7, c7, rfl, own_ins hown7 rfl, grown_new (g := g6) HG6.out hgrow7 hgb6⟩)
  clear hown7 hgrow7 HO6 HG6 HB6 n6
  go_wp2_with fail
  go_ret
  exact hF.out
set_option maxHeartbeats 16000000 in
theorem RRows_12f (w : World) : Calls Try.prog 54 #[.int .u8 12, .bool false] w (RetRow w (rowD 12 false)) := by
  obtain ⟨i1, hi, hz0, hz1, hz2⟩ := info_partsN
  have g1 := World.grownBy_alloc w (.cells #[.int .i64 12, .int .i64 1038, .int .i64 1047] 3) none
  have o1 := own_lit (W := w) (b := w.heap.size) [.int .i64 12, .int .i64 1038, .int .i64 1047] 3 rfl (by decide) (Nat.le_refl _)
  have g2 := World.grownBy_alloc (w.alloc (.cells #[.int .i64 12, .int .i64 1038, .int .i64 1047] 3)) (.cells #[] 3) none
  have n2 := news_lit (w.alloc (.cells #[.int .i64 12, .int .i64 1038, .int .i64 1047] 3)) []
  have g3 := grown_refl ((w.alloc (.cells #[.int .i64 12, .int .i64 1038, .int .i64 1047] 3)).alloc (.cells #[] 3)) none
  have g4 := World.grownBy_alloc ((w.alloc (.cells #[.int .i64 12, .int .i64 1038, .int .i64 1047] 3)).alloc (.cells #[] 3)) (.cells #[.int .i64 13, .int .i64 22, .int .i64 1023, .int .i64 1033, .int .i64 1015] 3) none
  have n4 := Lib.hid (news_lit ((w.alloc (.cells #[.int .i64 12, .int .i64 1038, .int .i64 1047] 3)).alloc (.cells #[] 3)) [.int .i64 13, .int .i64 22, .int .i64 1023, .int .i64 1033, .int .i64 1015])
  have gA := grown_trans (grown_trans g2 g3) g4
  have HG := Lib.hid (grown_trans g1 gA)
  have HO := Lib.hid (own_kept o1 gA)
  have HT : Hid (∀ j u, ([] : List Value)[j]? = some u → (((w.alloc (.cells #[.int .i64 12, .int .i64 1038, .int .i64 1047] 3)).alloc (.cells #[] 3)).alloc (.cells #[.int .i64 13, .int .i64 22, .int .i64 1023, .int .i64 1033, .int .i64 1015] 3)).cell? ((⟨w.heap.size + 1, 0, none⟩ : Addr).add j) = some u) := Lib.hid (by intro j u h; simp at h)
  have HB := Lib.hid (HG.out.size)
  clear g1 o1 g2 n2 g3 g4 gA
  go_enter Try.func54, Try.ntmps54
  have n4' : Hid (∀ j u, ([.int .i64 13, .int .i64 22, .int .i64 1023, .int .i64 1033, .int .i64 1015] : List Value)[j]? = some u → (((w.alloc (.cells #[.int .i64 12, .int .i64 1038, .int .i64 1047] 3)).alloc (.cells #[] 3)).alloc (.cells #[.int .i64 13, .int .i64 22, .int .i64 1023, .int .i64 1033, .int .i64 1015] 3)).cell? ((⟨w.heap.size + 1 + 1, 0, none⟩ : Addr).add j) = some u) := Lib.hid (by have h := n4.out; simpa using h)
  go_wp2_with (at_builtin; refine wpList_own_some rfl (.tmp 44) (.tmp 45) 91 rfl w.heap.size 3 i1 (.int .i64 0) 1 8 Try.underlying91 hi hz0 hz1 hz2 rfl (by decide) (.slice (some ⟨w.heap.size, 0, none⟩) 3 3) 3 [.int .i64 12, .int .i64 1038, .int .i64 1047] rfl HO.out ⟨w.heap.size + 1 + 1, 0, none⟩ 5 5 [.int .i64 13, .int .i64 22, .int .i64 1023, .int .i64 1033, .int .i64 1015] rfl rfl n4'.out (by simp [Value.oneCell']) (by decide) (by decide) HB.out (Or.inl (by simp)) 8 rfl ?_)
  intro g5 c5 w5 hown5 hgrow5 hgb5 hcb5 hmb5
  have hg5 : w.grownBy w5 none := grown_new (g := w.heap.size) HG.out hgrow5 (Nat.le_refl _)
  have HT5 := Lib.hid (news_off HT.out hgrow5 (by show (_ : Nat) ≠ w.heap.size; omega))
  have HO5 := Lib.hid hown5
  have HG5 := Lib.hid hg5
  have HB5 := Lib.hid hg5.size
  clear hown5 hgrow5 hg5 HO HG n4 n4' HB HT
  go_wp2_with (at_builtin; refine wpList_own_some rfl (.tmp 46) (.tmp 47) 91 rfl w.heap.size 3 i1 (.int .i64 0) 1 8 Try.underlying91 hi hz0 hz1 hz2 rfl (by decide) (.slice (some ⟨g5, 0, none⟩) 8 c5) 8 [.int .i64 12, .int .i64 1038, .int .i64 1047, .int .i64 13, .int .i64 22, .int .i64 1023, .int .i64 1033, .int .i64 1015] rfl HO5.out ⟨w.heap.size + 1, 0, none⟩ 0 0 [] rfl rfl HT5.out (by simp [Value.oneCell']) (by decide) (by decide) HB5.out (Or.inl (by simp)) 8 rfl ?_)
  intro g6 c6 w6 hown6 hgrow6 hgb6 hcb6 hmb6
  have hg6 : w.grownBy w6 none := grown_new (g := g5) HG5.out hgrow6 hgb5
  have gB := World.grownBy_alloc w6 (.cells #[.int .i64 16, .int .i64 25] 3) none
  have HO6 := Lib.hid (own_kept hown6 gB)
  have HG6 := Lib.hid (grown_trans hg6 gB)
  have HB6 := Lib.hid HG6.out.size
  have n6 := Lib.hid (news_lit w6 [.int .i64 16, .int .i64 25])
  clear hown6 hgrow6 hg6 gB HO5 HG5 HB5 HT5
  go_wp2_with (at_builtin; refine wpList_own_some rfl (.tmp 48) (.tmp 49) 91 rfl w.heap.size 3 i1 (.int .i64 0) 1 8 Try.underlying91 hi hz0 hz1 hz2 rfl (by decide) (.slice (some ⟨g6, 0, none⟩) 8 c6) 8 [.int .i64 12, .int .i64 1038, .int .i64 1047, .int .i64 13, .int .i64 22, .int .i64 1023, .int .i64 1033, .int .i64 1015] rfl HO6.out ⟨w6.heap.size, 0, none⟩ 2 2 [.int .i64 16, .int .i64 25] rfl rfl n6.out (by simp [Value.oneCell']) (by decide) (by decide) HB6.out (Or.inl (by simp)) 10 rfl ?_)
  intro g7 c7 w7 hown7 hgrow7 hgb7 hcb7 hmb7
  have hF : Hid (RetRow w (rowD 12 false) (.returned (.slice (some ⟨g7, 0, none⟩) 10 c7)) w7) := Lib.hid (Or.inr ⟨by decide, by decide, by decide, g7, c7, rfl, own_ins hown7 rfl, grown_new (g := g6) HG6.out hgrow7 hgb6⟩)
  clear hown7 hgrow7 HO6 HG6 HB6 n6
  go_wp2_with fail
  go_ret
  exact hF.out
set_option maxHeartbeats 16000000 in
theorem RRows_12t (w : World) : Calls Try.prog 54 #[.int .u8 12, .bool true] w (RetRow w (rowD 12 true)) := by
  obtain ⟨i1, hi, hz0, hz1, hz2⟩ := info_partsN
  have g1 := World.grownBy_alloc w (.cells #[.int .i64 12, .int .i64 1038, .int .i64 1047] 3) none
  have o1 := own_lit (W := w) (b := w.heap.size) [.int .i64 12, .int .i64 1038, .int .i64 1047] 3 rfl (by decide) (Nat.le_refl _)
  have g2 := World.grownBy_alloc (w.alloc (.cells #[.int .i64 12, .int .i64 1038, .int .i64 1047] 3)) (.cells #[] 3) none
  have n2 := news_lit (w.alloc (.cells #[.int .i64 12, .int .i64 1038, .int .i64 1047] 3)) []
  have g3 := World.grownBy_alloc ((w.alloc (.cells #[.int .i64 12, .int .i64 1038, .int .i64 1047] 3)).alloc (.cells #[] 3)) (.cells #[.int .i64 26, .int .i64 1027, .int .i64 1028] 3) none
  have n3 := news_lit ((w.alloc (.cells #[.int .i64 12, .int .i64 1038, .int .i64 1047] 3)).alloc (.cells #[] 3)) [.int .i64 26, .int .i64 1027, .int .i64 1028]
  have g4 := World.grownBy_alloc (((w.alloc (.cells #[.int .i64 12, .int .i64 1038, .int .i64 1047] 3)).alloc (.cells #[] 3)).alloc (.cells #[.int .i64 26, .int .i64 1027, .int .i64 1028] 3)) (.cells #[.int .i64 13, .int .i64 22, .int .i64 1023, .int .i64 1033, .int .i64 1015] 3) none
  have n4 := Lib.hid (news_lit (((w.alloc (.cells #[.int .i64 12, .int .i64 1038, .int .i64 1047] 3)).alloc (.cells #[] 3)).alloc (.cells #[.int .i64 26, .int .i64 1027, .int .i64 1028] 3)) [.int .i64 13, .int .i64 22, .int .i64 1023, .int .i64 1033, .int .i64 1015])
  have gA := grown_trans (grown_trans g2 g3) g4
  have HG := Lib.hid (grown_trans g1 gA)
  have HO := Lib.hid (own_kept o1 gA)
  have HT : Hid (∀ j u, ([.int .i64 26, .int .i64 1027, .int .i64 1028] : List Value)[j]? = some u → ((((w.alloc (.cells #[.int .i64 12, .int .i64 1038, .int .i64 1047] 3)).alloc (.cells #[] 3)).alloc (.cells #[.int .i64 26, .int .i64 1027, .int .i64 1028] 3)).alloc (.cells #[.int .i64 13, .int .i64 22, .int .i64 1023, .int .i64 1033, .int .i64 1015] 3)).cell? ((⟨w.heap.size + 1 + 1, 0, none⟩ : Addr).add j) = some u) := Lib.hid (by have h := news_kept n3 g4; simpa using h)
  have HB := Lib.hid (HG.out.size)
  clear g1 o1 g2 n2 g3 g4 gA n3
  go_enter Try.func54, Try.ntmps54
  have n4' : Hid (∀ j u, ([.int .i64 13, .int .i64 22, .int .i64 1023, .int .i64 1033, .int .i64 1015] : List Value)[j]? = some u → ((((w.alloc (.cells #[.int .i64 12, .int .i64 1038, .int .i64 1047] 3)).alloc (.cells #[] 3)).alloc (.cells #[.int .i64 26, .int .i64 1027, .int .i64 1028] 3)).alloc (.cells #[.int .i64 13, .int .i64 22, .int .i64 1023, .int .i64 1033, .int .i64 1015] 3)).cell? ((⟨w.heap.size + 1 + 1 + 1, 0, none⟩ : Addr).add j) = some u) := Lib.hid (by have h := n4.out; simpa using h)
  go_wp2_with (at_builtin; refine wpList_own_some rfl (.tmp 44) (.tmp 45) 91 rfl w.heap.size 3 i1 (.int .i64 0) 1 8 Try.underlying91 hi hz0 hz1 hz2 rfl (by decide) (.slice (some ⟨w.heap.size, 0, none⟩) 3 3) 3 [.int .i64 12, .int .i64 1038, .int .i64 1047] rfl HO.out ⟨w.heap.size + 1 + 1 + 1, 0, none⟩ 5 5 [.int .i64 13, .int .i64 22, .int .i64 1023, .int .i64 1033, .int .i64 1015] rfl rfl n4'.out (by simp [Value.oneCell']) (by decide) (by decide) HB.out (Or.inl (by simp)) 8 rfl ?_)
  intro g5 c5 w5 hown5 hgrow5 hgb5 hcb5 hmb5
  have hg5 : w.grownBy w5 none := grown_new (g := w.heap.size) HG.out hgrow5 (Nat.le_refl _)
  have HT5 := Lib.hid (news_off HT.out hgrow5 (by show (_ : Nat) ≠ w.heap.size; omega))
  have HO5 := Lib.hid hown5
  have HG5 := Lib.hid hg5
  have HB5 := Lib.hid hg5.size
  clear hown5 hgrow5 hg5 HO HG n4 n4' HB HT
  go_wp2_with (at_builtin; refine wpList_own_some rfl (.tmp 46) (.tmp 47) 91 rfl w.heap.size 3 i1 (.int .i64 0) 1 8 Try.underlying91 hi hz0 hz1 hz2 rfl (by decide) (.slice (some ⟨g5, 0, none⟩) 8 c5) 8 [.int .i64 12, .int .i64 1038, .int .i64 1047, .int .i64 13, .int .i64 22, .int .i64 1023, .int .i64 1033, .int .i64 1015] rfl HO5.out ⟨w.heap.size + 1 + 1, 0, none⟩ 3 3 [.int .i64 26, .int .i64 1027, .int .i64 1028] rfl rfl HT5.out (by simp [Value.oneCell']) (by decide) (by decide) HB5.out (Or.inl (by simp)) 11 rfl ?_)
  intro g6 c6 w6 hown6 hgrow6 hgb6 hcb6 hmb6
  have hg6 : w.grownBy w6 none := grown_new (g := g5) HG5.out hgrow6 hgb5
  have gB := World.grownBy_alloc w6 (.cells #[.int .i64 16, .int .i64 25] 3) none
  have HO6 := Lib.hid (own_kept hown6 gB)
  have HG6 := Lib.hid (grown_trans hg6 gB)
  have HB6 := Lib.hid HG6.out.size
  have n6 := Lib.hid (news_lit w6 [.int .i64 16, .int .i64 25])
  clear hown6 hgrow6 hg6 gB HO5 HG5 HB5 HT5
  go_wp2_with (at_builtin; refine wpList_own_some rfl (.tmp 48) (.tmp 49) 91 rfl w.heap.size 3 i1 (.int .i64 0) 1 8 Try.underlying91 hi hz0 hz1 hz2 rfl (by decide) (.slice (some ⟨g6, 0, none⟩) 11 c6) 11 [.int .i64 12, .int .i64 1038, .int .i64 1047, .int .i64 13, .int .i64 22, .int .i64 1023, .int .i64 1033, .int .i64 1015, .int .i64 26, .int .i64 1027, .int .i64 1028] rfl HO6.out ⟨w6.heap.size, 0, none⟩ 2 2 [.int .i64 16, .int .i64 25] rfl rfl n6.out (by simp [Value.oneCell']) (by decide) (by decide) HB6.out (Or.inl (by simp)) 13 rfl ?_)
  intro g7 c7 w7 hown7 hgrow7 hgb7 hcb7 hmb7
  have hF : Hid (RetRow w (rowD 12 true) (.returned (.slice (some ⟨g7, 0, none⟩) 13 c7)) w7) := Lib.hid (Or.inr ⟨by decide, by decide, by decide, g7, c7, rfl, own_ins hown7 rfl, grown_new (g := g6) HG6.out hgrow7 hgb6⟩)
  clear hown7 hgrow7 HO6 HG6 HB6 n6
  go_wp2_with fail
  go_ret
  exact hF.out
set_option maxHeartbeats 16000000 in
theorem RRows_21f (w : World) : Calls Try.prog 54 #[.int .u8 21, .bool false] w (RetRow w (rowD 21 false)) := by
  obtain ⟨i1, hi, hz0, hz1, hz2⟩ := info_partsN
  have g1 := World.grownBy_alloc w (.cells #[.int .i64 21, .int .i64 1038, .int .i64 1047] 3) none
  have o1 := own_lit (W := w) (b := w.heap.size) [.int .i64 21, .int .i64 1038, .int .i64 1047] 3 rfl (by decide) (Nat.le_refl _)
  have g2 := World.grownBy_alloc (w.alloc (.cells #[.int .i64 21, .int .i64 1038, .int .i64 1047] 3)) (.cells #[] 3) none
  have n2 := news_lit (w.alloc (.cells #[.int .i64 21, .int .i64 1038, .int .i64 1047] 3)) []
  have g3 := grown_refl ((w.alloc (.cells #[.int .i64 21, .int .i64 1038, .int .i64 1047] 3)).alloc (.cells #[] 3)) none
  have g4 := World.grownBy_alloc ((w.alloc (.cells #[.int .i64 21, .int .i64 1038, .int .i64 1047] 3)).alloc (.cells #[] 3)) (.cells #[.int .i64 13, .int .i64 42, .int .i64 16] 3) none
  have n4 := Lib.hid (news_lit ((w.alloc (.cells #[.int .i64 21, .int .i64 1038, .int .i64 1047] 3)).alloc (.cells #[] 3)) [.int .i64 13, .int .i64 42, .int .i64 16])
  have gA := grown_trans (grown_trans g2 g3) g4
  have HG := Lib.hid (grown_trans g1 gA)
  have HO := Lib.hid (own_kept o1 gA)
  have HB := Lib.hid (HG.out.size)
  clear g1 o1 g2 n2 g3 g4 gA
  go_enter Try.func54, Try.ntmps54
  have n4' : Hid (∀ j u, ([.int .i64 13, .int .i64 42, .int .i64 16] : List Value)[j]? = some u → (((w.alloc (.cells #[.int .i64 21, .int .i64 1038, .int .i64 1047] 3)).alloc (.cells #[] 3)).alloc (.cells #[.int .i64 13, .int .i64 42, .int .i64 16] 3)).cell? ((⟨w.heap.size + 1 + 1, 0, none⟩ : Addr).add j) = some u) := Lib.hid (by have h := n4.out; simpa using h)
  go_wp2_with (at_builtin; refine wpList_own_some rfl (.tmp 53) (.tmp 54) 91 rfl w.heap.size 3 i1 (.int .i64 0) 1 8 Try.underlying91 hi hz0 hz1 hz2 rfl (by decide) (.slice (some ⟨w.heap.size, 0, none⟩) 3 3) 3 [.int .i64 21, .int .i64 1038, .int .i64 1047] rfl HO.out ⟨w.heap.size + 1 + 1, 0, none⟩ 3 3 [.int .i64 13, .int .i64 42, .int .i64 16] rfl rfl n4'.out (by simp [Value.oneCell']) (by decide) (by decide) HB.out (Or.inl (by simp)) 6 rfl ?_)
  intro g5 c5 w5 hown5 hgrow5 hgb5 hcb5 hmb5
  have hg5 : w.grownBy w5 none := grown_new (g := w.heap.size) HG.out hgrow5 (Nat.le_refl _)
  have hF : Hid (RetRow w (rowD 21 false) (.returned (.slice (some ⟨g5, 0, none⟩) 6 c5)) w5) := Lib.hid (Or.inr ⟨by decide, by decide, by decide, g5, c5, rfl, own_ins hown5 rfl, hg5⟩)
  clear hown5 hgrow5 hg5 HO HG n4 n4' HB
  go_wp2_with fail
  go_ret
  exact hF.out
set_option maxHeartbeats 16000000 in
theorem RRows_21t (w : World) : Calls Try.prog 54 #[.int .u8 21, .bool true] w (RetRow w (rowD 21 true)) := by
  obtain ⟨i1, hi, hz0, hz1, hz2⟩ := info_partsN
  have g1 := World.grownBy_alloc w (.cells #[.int .i64 21, .int .i64 1038, .int .i64 1047] 3) none
  have o1 := own_lit (W := w) (b := w.heap.size) [.int .i64 21, .int .i64 1038, .int .i64 1047] 3 rfl (by decide) (Nat.le_refl _)
  have g2 := World.grownBy_alloc (w.alloc (.cells #[.int .i64 21, .int .i64 1038, .int .i64 1047] 3)) (.cells #[] 3) none
  have n2 := news_lit (w.alloc (.cells #[.int .i64 21, .int .i64 1038, .int .i64 1047] 3)) []
  have g3 := World.grownBy_alloc ((w.alloc (.cells #[.int .i64 21, .int .i64 1038, .int .i64 1047] 3)).alloc (.cells #[] 3)) (.cells #[.int .i64 26, .int .i64 1027, .int .i64 1028] 3) none
  have n3 := news_lit ((w.alloc (.cells #[.int .i64 21, .int .i64 1038, .int .i64 1047] 3)).alloc (.cells #[] 3)) [.int .i64 26, .int .i64 1027, .int .i64 1028]
  have g4 := World.grownBy_alloc (((w.alloc (.cells #[.int .i64 21, .int .i64 1038, .int .i64 1047] 3)).alloc (.cells #[] 3)).alloc (.cells #[.int .i64 26, .int .i64 1027, .int .i64 1028] 3)) (.cells #[.int .i64 13, .int .i64 42, .int .i64 16] 3) none
  have n4 := Lib.hid (news_lit (((w.alloc (.cells #[.int .i64 21, .int .i64 1038, .int .i64 1047] 3)).alloc (.cells #[] 3)).alloc (.cells #[.int .i64 26, .int .i64 1027, .int .i64 1028] 3)) [.int .i64 13, .int .i64 42, .int .i64 16])
  have gA := grown_trans (grown_trans g2 g3) g4
  have HG := Lib.hid (grown_trans g1 gA)
  have HO := Lib.hid (own_kept o1 gA)
  have HB := Lib.hid (HG.out.size)
  clear g1 o1 g2 n2 g3 g4 gA n3
  go_enter Try.func54, Try.ntmps54
  have n4' : Hid (∀ j u, ([.int .i64 13, .int .i64 42, .int .i64 16] : List Value)[j]? = some u → ((((w.alloc (.cells #[.int .i64 21, .int .i64 1038, .int .i64 1047] 3)).alloc (.cells #[] 3)).alloc (.cells #[.int .i64 26, .int .i64 1027, .int .i64 1028] 3)).alloc (.cells #[.int .i64 13, .int .i64 42, .int .i64 16] 3)).cell? ((⟨w.heap.size + 1 + 1 + 1, 0, none⟩ : Addr).add j) = some u) := Lib.hid (by have h := n4.out; simpa using h)
  go_wp2_with (at_builtin; refine wpList_own_some rfl (.tmp 53) (.tmp 54) 91 rfl w.heap.size 3 i1 (.int .i64 0) 1 8 Try.underlying91 hi hz0 hz1 hz2 rfl (by decide) (.slice (some ⟨w.heap.size, 0, none⟩) 3 3) 3 [.int .i64 21, .int .i64 1038, .int .i64 1047] rfl HO.out ⟨w.heap.size + 1 + 1 + 1, 0, none⟩ 3 3 [.int .i64 13, .int .i64 42, .int .i64 16] rfl rfl n4'.out (by simp [Value.oneCell']) (by decide) (by decide) HB.out (Or.inl (by simp)) 6 rfl ?_)
  intro g5 c5 w5 hown5 hgrow5 hgb5 hcb5 hmb5
  have hg5 : w.grownBy w5 none := grown_new (g := w.heap.size) HG.out hgrow5 (Nat.le_refl _)
  have hF : Hid (RetRow w (rowD 21 true) (.returned (.slice (some ⟨g5, 0, none⟩) 6 c5)) w5) := Lib.hid (Or.inr ⟨by decide, by decide, by decide, g5, c5, rfl, own_ins hown5 rfl, hg5⟩)
  clear hown5 hgrow5 hg5 HO HG n4 n4' HB
  go_wp2_with fail
  go_ret
  exact hF.out
set_option maxHeartbeats 16000000 in
theorem RRows_45f (w : World) : Calls Try.prog 54 #[.int .u8 45, .bool false] w (RetRow w (rowD 45 false)) := by
  obtain ⟨i1, hi, hz0, hz1, hz2⟩ := info_partsN
  have g1 := World.grownBy_alloc w (.cells #[.int .i64 45, .int .i64 1038, .int .i64 1047] 3) none
  have o1 := own_lit (W := w) (b := w.heap.size) [.int .i64 45, .int .i64 1038, .int .i64 1047] 3 rfl (by decide) (Nat.le_refl _)
  have g2 := World.grownBy_alloc (w.alloc (.cells #[.int .i64 45, .int .i64 1038, .int .i64 1047] 3)) (.cells #[] 3) none
  have n2 := news_lit (w.alloc (.cells #[.int .i64 45, .int .i64 1038, .int .i64 1047] 3)) []
  have g3 := grown_refl ((w.alloc (.cells #[.int .i64 45, .int .i64 1038, .int .i64 1047] 3)).alloc (.cells #[] 3)) none
  have g4 := World.grownBy_alloc ((w.alloc (.cells #[.int .i64 45, .int .i64 1038, .int .i64 1047] 3)).alloc (.cells #[] 3)) (.cells #[.int .i64 13, .int .i64 46, .int .i64 16] 3) none
  have n4 := Lib.hid (news_lit ((w.alloc (.cells #[.int .i64 45, .int .i64 1038, .int .i64 1047] 3)).alloc (.cells #[] 3)) [.int .i64 13, .int .i64 46, .int .i64 16])
  have gA := grown_trans (grown_trans g2 g3) g4
  have HG := Lib.hid (grown_trans g1 gA)
  have HO := Lib.hid (own_kept o1 gA)
  have HB := Lib.hid (HG.out.size)
  clear g1 o1 g2 n2 g3 g4 gA
  go_enter Try.func54, Try.ntmps54
  have n4' : Hid (∀ j u, ([.int .i64 13, .int .i64 46, .int .i64 16] : List Value)[j]? = some u → (((w.alloc (.cells #[.int .i64 45, .int .i64 1038, .int .i64 1047] 3)).alloc (.cells #[] 3)).alloc (.cells #[.int .i64 13, .int .i64 46, .int .i64 16] 3)).cell? ((⟨w.heap.size + 1 + 1, 0, none⟩ : Addr).add j) = some u) := Lib.hid (by have h := n4.out; simpa using h)
  go_wp2_with (at_builtin; refine wpList_own_some rfl (.tmp 58) (.tmp 59) 91 rfl w.heap.size 3 i1 (.int .i64 0) 1 8 Try.underlying91 hi hz0 hz1 hz2 rfl (by decide) (.slice (some ⟨w.heap.size, 0, none⟩) 3 3) 3 [.int .i64 45, .int .i64 1038, .int .i64 1047] rfl HO.out ⟨w.heap.size + 1 + 1, 0, none⟩ 3 3 [.int .i64 13, .int .i64 46, .int .i64 16] rfl rfl n4'.out (by simp [Value.oneCell']) (by decide) (by decide) HB.out (Or.inl (by simp)) 6 rfl ?_)
  intro g5 c5 w5 hown5 hgrow5 hgb5 hcb5 hmb5
  have hg5 : w.grownBy w5 none := grown_new (g := w.heap.size) HG.out hgrow5 (Nat.le_refl _)
  have hF : Hid (RetRow w (rowD 45 false) (.returned (.slice (some ⟨g5, 0, none⟩) 6 c5)) w5) := Lib.hid (Or.inr ⟨by decide, by decide, by decide, g5, c5, rfl, own_ins hown5 rfl, hg5⟩)
  clear hown5 hgrow5 hg5 HO HG n4 n4' HB
  go_wp2_with fail
  go_ret
  exact hF.out
set_option maxHeartbeats 16000000 in
theorem RRows_45t (w : World) : Calls Try.prog 54 #[.int .u8 45, .bool true] w (RetRow w (rowD 45 true)) := by
  obtain ⟨i1, hi, hz0, hz1, hz2⟩ := info_partsN
  have g1 := World.grownBy_alloc w (.cells #[.int .i64 45, .int .i64 1038, .int .i64 1047] 3) none
  have o1 := own_lit (W := w) (b := w.heap.size) [.int .i64 45, .int .i64 1038, .int .i64 1047] 3 rfl (by decide) (Nat.le_refl _)
  have g2 := World.grownBy_alloc (w.alloc (.cells #[.int .i64 45, .int .i64 1038, .int .i64 1047] 3)) (.cells #[] 3) none
  have n2 := news_lit (w.alloc (.cells #[.int .i64 45, .int .i64 1038, .int .i64 1047] 3)) []
  have g3 := World.grownBy_alloc ((w.alloc (.cells #[.int .i64 45, .int .i64 1038, .int .i64 1047] 3)).alloc (.cells #[] 3)) (.cells #[.int .i64 26, .int .i64 1027, .int .i64 1028] 3) none
  have n3 := news_lit ((w.alloc (.cells #[.int .i64 45, .int .i64 1038, .int .i64 1047] 3)).alloc (.cells #[] 3)) [.int .i64 26, .int .i64 1027, .int .i64 1028]
  have g4 := World.grownBy_alloc (((w.alloc (.cells #[.int .i64 45, .int .i64 1038, .int .i64 1047] 3)).alloc (.cells #[] 3)).alloc (.cells #[.int .i64 26, .int .i64 1027, .int .i64 1028] 3)) (.cells #[.int .i64 13, .int .i64 46, .int .i64 16] 3) none
  have n4 := Lib.hid (news_lit (((w.alloc (.cells #[.int .i64 45, .int .i64 1038, .int .i64 1047] 3)).alloc (.cells #[] 3)).alloc (.cells #[.int .i64 26, .int .i64 1027, .int .i64 1028] 3)) [.int .i64 13, .int .i64 46, .int .i64 16])
  have gA := grown_trans (grown_trans g2 g3) g4
  have HG := Lib.hid (grown_trans g1 gA)
  have HO := Lib.hid (own_kept o1 gA)
  have HB := Lib.hid (HG.out.size)
  clear g1 o1 g2 n2 g3 g4 gA n3
  go_enter Try.func54, Try.ntmps54
  have n4' : Hid (∀ j u, ([.int .i64 13, .int .i64 46, .int .i64 16] : List Value)[j]? = some u → ((((w.alloc (.cells #[.int .i64 45, .int .i64 1038, .int .i64 1047] 3)).alloc (.cells #[] 3)).alloc (.cells #[.int .i64 26, .int .i64 1027, .int .i64 1028] 3)).alloc (.cells #[.int .i64 13, .int .i64 46, .int .i64 16] 3)).cell? ((⟨w.heap.size + 1 + 1 + 1, 0, none⟩ : Addr).add j) = some u) := Lib.hid (by have h := n4.out; simpa using h)
  go_wp2_with (at_builtin; refine wpList_own_some rfl (.tmp 58) (.tmp 59) 91 rfl w.heap.size 3 i1 (.int .i64 0) 1 8 Try.underlying91 hi hz0 hz1 hz2 rfl (by decide) (.slice (some ⟨w.heap.size, 0, none⟩) 3 3) 3 [.int .i64 45, .int .i64 1038, .int .i64 1047] rfl HO.out ⟨w.heap.size + 1 + 1 + 1, 0, none⟩ 3 3 [.int .i64 13, .int .i64 46, .int .i64 16] rfl rfl n4'.out (by simp [Value.oneCell']) (by decide) (by decide) HB.out (Or.inl (by simp)) 6 rfl ?_)
  intro g5 c5 w5 hown5 hgrow5 hgb5 hcb5 hmb5
  have hg5 : w.grownBy w5 none := grown_new (g := w.heap.size) HG.out hgrow5 (Nat.le_refl _)
  have hF : Hid (RetRow w (rowD 45 true) (.returned (.slice (some ⟨g5, 0, none⟩) 6 c5)) w5) := Lib.hid (Or.inr ⟨by decide, by decide, by decide, g5, c5, rfl, own_ins hown5 rfl, hg5⟩)
  clear hown5 hgrow5 hg5 HO HG n4 n4' HB
  go_wp2_with fail
  go_ret
  exact hF.out
theorem row_none {k : Nat} {b : Bool} (h : k ≠ 8 ∧ k ≠ 9 ∧ k ≠ 10 ∧ k ≠ 11 ∧ k ≠ 12 ∧ k ≠ 21 ∧ k ≠ 45) : rowD k b = [] := by
  obtain ⟨h8, h9, h10, h11, h12, h21, h45⟩ := h
  unfold rowD
  simp only [if_neg h8, if_neg h9, if_neg h10, if_neg h11, if_neg h12, if_neg h21, if_neg h45]
set_option maxHeartbeats 16000000 in
theorem RRows_no (w : World) (k : Nat) (hk : k < 256) (b : Bool) (h : k ≠ 8 ∧ k ≠ 9 ∧ k ≠ 10 ∧ k ≠ 11 ∧ k ≠ 12 ∧ k ≠ 21 ∧ k ≠ 45) : Calls Try.prog 54 #[.int .u8 (k : Int), .bool b] w (RetRow w (rowD k b)) := by
  rw [row_none h]
  obtain ⟨h8, h9, h10, h11, h12, h21, h45⟩ := h
  have f8 : ((k : Int) == 8) = false := beq_eq_false_iff_ne.2 (by omega)
  have f9 : ((k : Int) == 9) = false := beq_eq_false_iff_ne.2 (by omega)
  have f10 : ((k : Int) == 10) = false := beq_eq_false_iff_ne.2 (by omega)
  have f11 : ((k : Int) == 11) = false := beq_eq_false_iff_ne.2 (by omega)
  have f12 : ((k : Int) == 12) = false := beq_eq_false_iff_ne.2 (by omega)
  have f21 : ((k : Int) == 21) = false := beq_eq_false_iff_ne.2 (by omega)
  have f45 : ((k : Int) == 45) = false := beq_eq_false_iff_ne.2 (by omega)
  have HG : Hid (∀ o1 o2, w.grownBy ((w.alloc o1).alloc o2) none) := Lib.hid fun o1 o2 => grown_trans (World.grownBy_alloc w o1 none) (World.grownBy_alloc _ o2 none)
  clear h8 h9 h10 h11 h12 h21 h45
  cases b with
  | false =>
    go_enter Try.func54, Try.ntmps54
    go_wp2_with fail
    go_ret
    exact Or.inl ⟨rfl, rfl, HG.out _ _⟩
  | true =>
    go_enter Try.func54, Try.ntmps54
    go_wp2_with fail
    go_ret
    exact Or.inl ⟨rfl, rfl, grown_trans (HG.out _ _) (World.grownBy_alloc _ _ none)⟩
theorem RRows_any (w : World) (k : Nat) (hk : k < 256) (b : Bool) : Calls Try.prog 54 #[.int .u8 (k : Int), .bool b] w (RetRow w (rowD k b)) := by
  by_cases h8 : k = 8
  · subst h8; cases b; exact RRows_8f w; exact RRows_8t w
  by_cases h9 : k = 9
  · subst h9; cases b; exact RRows_9f w; exact RRows_9t w
  by_cases h10 : k = 10
  · subst h10; cases b; exact RRows_10f w; exact RRows_10t w
  by_cases h11 : k = 11
  · subst h11; cases b; exact RRows_11f w; exact RRows_11t w
  by_cases h12 : k = 12
  · subst h12; cases b; exact RRows_12f w; exact RRows_12t w
  by_cases h21 : k = 21
  · subst h21; cases b; exact RRows_21f w; exact RRows_21t w
  by_cases h45 : k = 45
  · subst h45; cases b; exact RRows_45f w; exact RRows_45t w
  exact RRows_no w k hk b ⟨h8, h9, h10, h11, h12, h21, h45⟩
end Go.Proofs.Ytcioefmldcmhgaa
namespace Go.Proofs.Ytcioefmldcmhgaa
open Go.RowKit
set_option maxRecDepth 100000
set_option linter.unusedVariables false
set_option linter.unusedSimpArgs false

theorem wp_own_none {P : Program} {w : World} {o : Oper} {a : Act} {K : Act → World → Prop} {Q : Exit → Act → World → Prop} (s x : Operand) (t : TypeId)
    (ho : o.op = .call { callee := .builtin .append, args := #[s, x], argTypes := #[t, t] })
    (base : Nat) (e : TypeId) (i : TypeInfo) (size : Nat) (ht : P.underlying t = some (.slice e)) (hi : P.info? e = some i)
    (v : Value) (n : Nat) (xs : List Value) (hs : a.eval s = v) (hown : w.ownsRow base e size v n xs) (hx : a.eval x = .slice none 0 0)
    (h : K (a.put o.dst v) w) : o.wp P a w K Q := by
  have hrun := run_append_owned_none (P := P) (w := w) base t o.type e i size ht hi v n xs hown
  unfold Oper.wp
  simp [execOp, ho, resolve, invoke, builtin, hs, hx, hrun, Result.andThen]
  exact h
theorem step_own_none {P : Program} {w : World} {ops : Array Oper} {o : Oper} {a : Act} {K : Act → World → Prop} {Q : Exit → Act → World → Prop} {E : Prop} (hgd : o.guard = none) (s x : Operand) (t : TypeId)
    (ho : o.op = .call { callee := .builtin .append, args := #[s, x], argTypes := #[t, t] })
    (base : Nat) (e : TypeId) (i : TypeInfo) (size : Nat) (ht : P.underlying t = some (.slice e)) (hi : P.info? e = some i)
    (v : Value) (n : Nat) (xs : List Value) (hs : a.eval s = v) (hown : w.ownsRow base e size v n xs) (hx : a.eval x = .slice none 0 0)
    (h : K (a.put o.dst v) w) : if Region.wanted o (yielded ops a.tmps) = true then Oper.wp P o a w K Q else E := by
  have hw : Region.wanted o (yielded ops a.tmps) = true := by simp [Region.wanted, hgd]
  rw [if_pos hw]
  exact wp_own_none s x t ho base e i size ht hi v n xs hs hown hx h
def BigR (rs : List KRec) : Prop := rs.length ≤ 4398046511104 ∧ ∀ r ∈ rs, r.2.2.length ≤ 140737488351232
def RetCR (w : World) (rs : List KRec) (e : Ending) (w' : World) : Prop := ∃ v, e = .returned v ∧ OwnR w' w.heap.size v rs.length rs ∧ w.grownBy w' none
theorem take_snoc {α : Type} {l : List α} {k : Nat} (h : k < l.length) : l.take (k + 1) = l.take k ++ [l[k]] := by
  rw [List.take_add_one, List.getElem?_eq_getElem h]; rfl
set_option maxHeartbeats 32000000 in
theorem RCopied_any (w : World) (s : Option Addr) (n cap : Nat) (rs : List KRec) (hn : rs.length = n) (hl : RcSl w s rs) (hs : ∀ r ∈ rs, r.1 < 256 ∧ r.2.1 < 256) (hb : BigR rs) :
    Calls Try.prog 40 #[.slice s n cap] w (RetCR w rs) := by
  obtain ⟨i1, hi, hz0, hz1, hz2⟩ := info_partsR
  obtain ⟨i2, hi2, hy0, hy1, hy2⟩ := info_partsU
  have hnb : n ≤ 4398046511104 := by rw [← hn]; exact hb.1
  have HL := Lib.hid hl
  have HN := Lib.hid hn
  have HS := Lib.hid hs
  have HBB := Lib.hid hb.2
  have hG : w.grownBy w none := grown_refl _ _
  clear hl hn hb hs
  go_enter Try.func40, Try.ntmps40
  go_wp2_with fail
  go_loopg [3, 4] n (fun gh v i wr => ∃ k : Nat, k ≤ n ∧ n - k ≤ gh ∧ i = .int .i64 (k : Int) ∧ OwnR wr w.heap.size v k (rs.take k) ∧ Hid (w.grownBy wr none))
  case atStart => exact ⟨0, Nat.zero_le _, Nat.le_refl _, rfl, OwnR.nil _ _, Lib.hid hG⟩
  case round =>
    clear hG
    obtain ⟨k, hk, hgh, rfl, Ir, HG⟩ := hrel
    obtain ⟨sv, cv, rfl⟩ := Ir.shape
    by_cases hlt : k < n
    · have f1 : decide ((k : Int) < (n : Int)) = true := decide_eq_true (by omega)
      have hkl : k < rs.length := by rw [HN.out]; exact hlt
      obtain ⟨a, q, sb, cb, kd, dt, bd, rfl, hq, hr, A0, A1, A2, HBd, hsb, hcb, hcm⟩ := HL.out.at k hkl
      have hbl : bd.length ≤ 140737488351232 := by have := HBB.out _ (List.getElem_mem hkl); rw [hr] at this; exact this
      have hsm : kd < 256 ∧ dt < 256 := by have := HS.out _ (List.getElem_mem hkl); rw [hr] at this; exact this
      obtain ⟨hkd, hdt⟩ := hsm
      have HTK : Hid (rs.take (k + 1) = rs.take k ++ [(kd, dt, bd)]) := Lib.hid (by rw [take_snoc hkl, hr])
      obtain ⟨N, hN⟩ : ∃ N, bd.length = N := ⟨_, rfl⟩
      rw [hN] at A2 hbl hsb hcb
      have HBN := Lib.hid hN
      have HPL := Lib.hid (HBd.kept HG.out)
      have HW := Lib.hid (And.intro A0 (And.intro A1 A2))
      replace A0 := HG.out.cell A0 (by simp)
      replace A1 := HG.out.cell A1 (by simp)
      replace A2 := HG.out.cell A2 (by simp)
      obtain ⟨xs, hown, hrl, hone, hxs⟩ := Ir
      have HA := Lib.hid (And.intro A0 (And.intro A1 A2))
      have HOWN := Lib.hid hown
      have HRN := Lib.hid hrl
      have HXS := Lib.hid hxs
      have HO1 := Lib.hid hone
      have HB0 : Hid (w.heap.size ≤ wr.heap.size) := Lib.hid HG.out.size
      have HM3 : Hid (k + 1 ≤ maxLen) := Lib.hid (by unfold maxLen; omega)
      have HM4 : Hid ((k + 1) * 32 ≤ 140737488355328) := Lib.hid (by omega)
      clear hr hown hrl hone hxs HBd hN hkl
      cases sb with
      | some pp =>
        have HR1 : Hid (∀ u ∈ bvs bd, u.oneCell' = true) := Lib.hid (bvs_one bd)
        have HLN : Hid ((bvs bd).length = N * 1) := Lib.hid (by rw [bvs_len, HBN.out, Nat.mul_one])
        have HM1 : Hid (0 + N ≤ maxLen) := Lib.hid (by unfold maxLen; omega)
        have HM2 : Hid ((0 + N) * 1 ≤ 140737488355328) := Lib.hid (by omega)
        clear hsb
        go_wp2_with fail
        go_region_held3 (fun w' => w'.cell? q = some (.int .u8 (kd : Int)) ∧ w'.cell? ⟨q.block, q.off + 1, none⟩ = some (.int .u8 (dt : Int)) ∧ w'.cell? ⟨q.block, q.off + 2, none⟩ = some (.slice (some pp) N cb))
          (first | assumption | exact ⟨A0, A1, A2⟩ | go_keep)
          (first
            | (refine step_own_some rfl (.tmp 22) (.tmp 27) 22 rfl w.heap.size 5 i2 (.int .u8 0) 1 1 Try.underlying22 hi2 hy0 hy1 hy2 rfl (by decide) (.slice (some ⟨wr.heap.size, 0, none⟩) 0 0) 0 [] rfl (own_drew (own_mt HB0.out)) pp N _ (bvs bd) rfl HLN.out (HPL.out.newsK (grown_drew (World.grownBy_alloc wr _ none))) HR1.out HM1.out HM2.out (Nat.le_trans HB0.out (grown_drew (World.grownBy_alloc wr _ none)).size) (Or.inl (by simp)) N (Nat.zero_add _) ?_; intro g cg w1 hown1 hgrow1 hgb hcg hmg; have hg9 : wr.grownBy w1 none := grown_new (g := wr.heap.size) (grown_drew (World.grownBy_alloc wr _ none)) hgrow1 (Nat.le_refl _); have HG1 := Lib.hid hg9; have A0 := HG1.out.cell HA.out.1 (by simp); have A1 := HG1.out.cell HA.out.2.1 (by simp); have A2 := HG1.out.cell HA.out.2.2 (by simp); have HBK := Lib.hid (own_blk hown1 HBN.out HPL.out.2); clear hown1 hgrow1 hg9)
            | (refine step_own_some rfl (.tmp 11) (.tmp 30) 24 rfl w.heap.size 45 i1 (.agg #[.int .u8 0, .int .u8 0, .slice none 0 0]) 3 32 Try.underlying24 hi hz0 hz1 hz2 rfl (by decide) _ k xs rfl (ownR_kept HOWN.out (grown_alloc HG1.out _)) ⟨w1.heap.size, 0, none⟩ 1 1 [.int .u8 (kd : Int), .int .u8 (dt : Int), .slice (some ⟨g, 0, none⟩) N cg] rfl rfl (World.news_of_block (cs := #[.int .u8 (kd : Int), .int .u8 (dt : Int), .slice (some ⟨g, 0, none⟩) N cg]) (heap_new w1 _ _ rfl)) (by simp [Value.oneCell']) HM3.out HM4.out (Nat.le_trans HB0.out (grown_alloc HG1.out _).size) (Or.inr (by decide)) (k + 1) rfl ?_; intro g2 c2 w2 hown2 hgrow2 hgb2 hcb2 hmb2; have hown3 : w2.ownsRow w.heap.size 45 3 (.slice (some ⟨g2, 0, none⟩) (k + 1) c2) (k + 1) (xs ++ [.int .u8 (((kd, dt, bd) : KRec).1 : Int), .int .u8 (((kd, dt, bd) : KRec).2.1 : Int), .slice (some ⟨g, 0, none⟩) ((kd, dt, bd) : KRec).2.2.length cg]) := (by show w2.ownsRow _ _ _ _ _ (xs ++ [.int .u8 (kd : Int), .int .u8 (dt : Int), .slice (some ⟨g, 0, none⟩) (bd : List Nat).length cg]); rw [HBN.out]; exact hown2); have HG3 := Lib.hid (grown_row (w := w) (grown_trans HG.out (grown_alloc HG1.out (.cells #[.int .u8 (kd : Int), .int .u8 (dt : Int), .slice (some ⟨g, 0, none⟩) N cg] 45))) (ownR_kept HOWN.out (grown_alloc HG1.out (.cells #[.int .u8 (kd : Int), .int .u8 (dt : Int), .slice (some ⟨g, 0, none⟩) N cg] 45))) hgrow2 (Nat.le_refl _)); have A0 := HG3.out.cell HW.out.1 (by simp); have A1 := HG3.out.cell HW.out.2.1 (by simp); have A2 := HG3.out.cell HW.out.2.2 (by simp); have HI3 := Lib.hid (OwnR.mk (W := w1.alloc (.cells #[.int .u8 (kd : Int), .int .u8 (dt : Int), .slice (some ⟨g, 0, none⟩) N cg] 45)) (ownR_kept HOWN.out (grown_alloc HG1.out (.cells #[.int .u8 (kd : Int), .int .u8 (dt : Int), .slice (some ⟨g, 0, none⟩) N cg] 45))) hgrow2 hown3 HRN.out HO1.out (fun i h => (HXS.out i h).imp fun g' h' => h'.imp fun c' h'' => ⟨h''.1, h''.2.1, h''.2.2.1, h''.2.2.2.1, h''.2.2.2.2.1.kept (grown_alloc HG1.out (.cells #[.int .u8 (kd : Int), .int .u8 (dt : Int), .slice (some ⟨g, 0, none⟩) N cg] 45)), h''.2.2.2.2.2⟩) hgb (HBK.out.kept (World.grownBy_alloc w1 (.cells #[.int .u8 (kd : Int), .int .u8 (dt : Int), .slice (some ⟨g, 0, none⟩) N cg] 45) none)) (by show bd.length ≤ cg; rw [HBN.out]; exact hcg) hmg); clear hown2 hown3 hgrow2))
        clear A0 A1 A2
        go_wp2_with fail
        go_roundg (n - (k + 1))
        case measure => omega
        case rel => exact ⟨k + 1, by omega, Nat.le_refl _, by go_num, by rw [HTK.out]; exact HI3.out, HG3⟩
      | none =>
        obtain ⟨rfl, rfl⟩ := hsb rfl
        have hbd0 : bd = [] := List.length_eq_zero_iff.1 HBN.out
        subst hbd0
        go_wp2_with fail
        go_region_held3 (fun w' => w'.cell? q = some (.int .u8 (kd : Int)) ∧ w'.cell? ⟨q.block, q.off + 1, none⟩ = some (.int .u8 (dt : Int)) ∧ w'.cell? ⟨q.block, q.off + 2, none⟩ = some (.slice none 0 0))
          (first | assumption | exact ⟨A0, A1, A2⟩ | go_keep)
          (first
            | (refine step_own_none rfl (.tmp 22) (.tmp 27) 22 rfl w.heap.size 5 i2 1 Try.underlying22 hi2 (.slice (some ⟨wr.heap.size, 0, none⟩) 0 0) 0 [] rfl (own_drew (own_mt HB0.out)) rfl ?_; have HG1 := Lib.hid (grown_drew (World.grownBy_alloc wr (.cells #[] 5) none)); have HBK : Hid (ByBlk (wr.alloc (.cells #[] 5)).drew wr.heap.size ([] : List Nat)) := Lib.hid (own_blk (own_drew (own_mt HB0.out)) rfl (by simp)); have A0 := HG1.out.cell HA.out.1 (by simp); have A1 := HG1.out.cell HA.out.2.1 (by simp); have A2 := HG1.out.cell HA.out.2.2 (by simp); generalize hw1 : (wr.alloc (.cells #[] 5)).drew = w1 at *; clear hw1)
            | (refine step_own_some rfl (.tmp 11) (.tmp 30) 24 rfl w.heap.size 45 i1 (.agg #[.int .u8 0, .int .u8 0, .slice none 0 0]) 3 32 Try.underlying24 hi hz0 hz1 hz2 rfl (by decide) _ k xs rfl (ownR_kept HOWN.out (grown_alloc HG1.out _)) ⟨w1.heap.size, 0, none⟩ 1 1 [.int .u8 (kd : Int), .int .u8 (dt : Int), .slice (some ⟨wr.heap.size, 0, none⟩) 0 0] rfl rfl (World.news_of_block (cs := #[.int .u8 (kd : Int), .int .u8 (dt : Int), .slice (some ⟨wr.heap.size, 0, none⟩) 0 0]) (heap_new w1 _ _ rfl)) (by simp [Value.oneCell']) HM3.out HM4.out (Nat.le_trans HB0.out (grown_alloc HG1.out _).size) (Or.inr (by decide)) (k + 1) rfl ?_; intro g2 c2 w2 hown2 hgrow2 hgb2 hcb2 hmb2; have hown3 : w2.ownsRow w.heap.size 45 3 (.slice (some ⟨g2, 0, none⟩) (k + 1) c2) (k + 1) (xs ++ [.int .u8 (((kd, dt, []) : KRec).1 : Int), .int .u8 (((kd, dt, []) : KRec).2.1 : Int), .slice (some ⟨wr.heap.size, 0, none⟩) ((kd, dt, []) : KRec).2.2.length 0]) := (by show w2.ownsRow _ _ _ _ _ (xs ++ [.int .u8 (kd : Int), .int .u8 (dt : Int), .slice (some ⟨wr.heap.size, 0, none⟩) ([] : List Nat).length 0]);  exact hown2); have HG3 := Lib.hid (grown_row (w := w) (grown_trans HG.out (grown_alloc HG1.out (.cells #[.int .u8 (kd : Int), .int .u8 (dt : Int), .slice (some ⟨wr.heap.size, 0, none⟩) 0 0] 45))) (ownR_kept HOWN.out (grown_alloc HG1.out (.cells #[.int .u8 (kd : Int), .int .u8 (dt : Int), .slice (some ⟨wr.heap.size, 0, none⟩) 0 0] 45))) hgrow2 (Nat.le_refl _)); have A0 := HG3.out.cell HW.out.1 (by simp); have A1 := HG3.out.cell HW.out.2.1 (by simp); have A2 := HG3.out.cell HW.out.2.2 (by simp); have HI3 := Lib.hid (OwnR.mk (W := w1.alloc (.cells #[.int .u8 (kd : Int), .int .u8 (dt : Int), .slice (some ⟨wr.heap.size, 0, none⟩) 0 0] 45)) (ownR_kept HOWN.out (grown_alloc HG1.out (.cells #[.int .u8 (kd : Int), .int .u8 (dt : Int), .slice (some ⟨wr.heap.size, 0, none⟩) 0 0] 45))) hgrow2 hown3 HRN.out HO1.out (fun i h => (HXS.out i h).imp fun g' h' => h'.imp fun c' h'' => ⟨h''.1, h''.2.1, h''.2.2.1, h''.2.2.2.1, h''.2.2.2.2.1.kept (grown_alloc HG1.out (.cells #[.int .u8 (kd : Int), .int .u8 (dt : Int), .slice (some ⟨wr.heap.size, 0, none⟩) 0 0] 45)), h''.2.2.2.2.2⟩) HB0.out (HBK.out.kept (World.grownBy_alloc w1 (.cells #[.int .u8 (kd : Int), .int .u8 (dt : Int), .slice (some ⟨wr.heap.size, 0, none⟩) 0 0] 45) none)) (Nat.le_refl _) (by decide)); clear hown2 hown3 hgrow2))
        clear A0 A1 A2
        go_wp2_with fail
        go_roundg (n - (k + 1))
        case measure => omega
        case rel => exact ⟨k + 1, by omega, Nat.le_refl _, by go_num, by rw [HTK.out]; exact HI3.out, HG3⟩
    · have f1 : decide ((k : Int) < (n : Int)) = false := decide_eq_false (by omega)
      have hke : k = rs.length := by rw [HN.out]; omega
      have hF : Hid (RetCR w rs (.returned (.slice sv k cv)) wr) := Lib.hid ⟨_, rfl, by rw [← hke]; rw [hke, List.take_length] at Ir; rw [hke]; exact Ir, HG.out⟩
      clear hke Ir
      go_wp2_with fail
      go_ret
      exact hF.out
end Go.Proofs.Ytcioefmldcmhgaa
namespace Go.Proofs.Ytcioefmldcmhgaa
open Go.RowKit
set_option maxRecDepth 100000
set_option linter.unusedVariables false
set_option linter.unusedSimpArgs false

theorem OwnR.rowT {w0 W : World} {base n : Nat} {v : Value} {rs : List KRec} (h : OwnR W base v n rs) : RowT w0 W v rs := by
  obtain ⟨xs, ⟨h0, ⟨e, hn⟩ | ⟨g, cap, cur, e, hg', hb, hc1, hc2, hsz, htk⟩⟩, h2, h3, h4⟩ := h
  · subst hn; exact Or.inl ⟨List.length_eq_zero_iff.1 h2, e⟩
  · subst h2
    refine Or.inr ⟨g, cap, cur, e, hb, hc1, by unfold maxLen at hc2; omega, fun i hi => ?_⟩
    obtain ⟨g2, c2, a0, a1, a2, a3, a4, a5, a6⟩ := h4 i hi
    have up : ∀ j u, xs[j]? = some u → cur[j]? = some u := fun j u hj => by
      rw [← htk, List.getElem?_take] at hj
      split at hj
      · simpa using hj
      · cases hj
    exact ⟨_, c2, up _ _ a0, up _ _ a1, up _ _ a2, ⟨g2, rfl, a4⟩, (fun e => by cases e), a5, a6⟩
theorem RcSl.take {W : World} {s : Option Addr} {rs : List KRec} (h : RcSl W s rs) (k : Nat) : RcSl W s (rs.take k) := fun i hi => by
  have hi' : i < rs.length := by rw [List.length_take] at hi; omega
  obtain ⟨a, sb, cb, e, h1⟩ := h i hi'
  have e2 : (rs.take k)[i] = rs[i] := by simp
  rw [e2]
  exact ⟨a, sb, cb, e, h1⟩
theorem RcSl.cut {W : World} {a : Addr} {cap k m : Nat} {rs : List KRec} (h : RcSl W (some a) rs) (hk : k + m ≤ rs.length) (hc : rs.length ≤ cap) : RcSl W (if cap = k then some a else some (a.add (k * 3))) ((rs.drop k).take m) := fun i hi => by
  have hlen : ((rs.drop k).take m).length = m := by rw [List.length_take, List.length_drop]; omega
  rw [hlen] at hi
  obtain ⟨a', sb, cb, e, a0, a1, a2, a3⟩ := h (k + i) (by omega)
  cases e
  rw [if_neg (by omega)]
  have e2 : ((rs.drop k).take m)[i]'(by rw [hlen]; exact hi) = rs[k + i] := by simp
  rw [e2]
  have ea : ∀ j, (a.add (k * 3)).add (i * 3 + j) = a.add ((k + i) * 3 + j) := fun j => by
    rw [Addr.add_add]; congr 1; omega
  exact ⟨_, sb, cb, rfl, by have := ea 0; rw [Nat.add_zero, Nat.add_zero] at this; rw [this]; exact a0, by rw [ea 1]; exact a1, by rw [ea 2]; exact a2, a3⟩
theorem heap_set2a {w : World} {g : Nat} {v0 v1 : Value} {t : TypeId} (h : w.heap[g]? = some (.cells #[v0, v1] t (0, 0))) (v : Value) : (w.setCell ⟨g, 0, none⟩ v).heap[g]? = some (.cells #[v, v1] t (0, 0)) := by
  simp [World.setCell, Array.getElem?_modify, h]
theorem ins_lit (W : World) (l : List Nat) : InS (W.alloc (.cells (l.map fun x : Nat => .int .i64 (x : Int)).toArray 3)) (some ⟨W.heap.size, 0, none⟩) l := fun i hi =>
  ⟨_, rfl, news_lit W _ i _ (by simp [hi])⟩
theorem fit_cases (row : List Nat) (l : List KRec) : (run (rowRu row) l = none ∧ fitD row l = -1) ∨ ∃ m p, run (rowRu row) l = some m ∧ l = p ++ m ∧ fitD row l = (p.length : Int) := by
  unfold fitD
  cases h : run (rowRu row) l with
  | none => exact Or.inl ⟨rfl, rfl⟩
  | some m =>
    obtain ⟨p, e, _⟩ := row_kinds row h
    refine Or.inr ⟨m, p, rfl, e, ?_⟩
    rw [e, List.length_append]
    simp
theorem drop_more {rs p m : List KRec} {k : Nat} (h : rs.drop k = p ++ m) : rs.drop (k + p.length) = m ∧ (rs.drop k).take p.length = p ∧ (p ++ m ≠ [] → k + p.length + m.length = rs.length) := by
  refine ⟨by rw [← List.drop_drop, h, List.drop_left], by rw [h, List.take_left], fun hne => ?_⟩
  have := congrArg List.length h
  rw [List.length_drop, List.length_append] at this
  have h0 : (p ++ m).length ≠ 0 := fun h0 => hne (List.length_eq_zero_iff.1 h0)
  rw [List.length_append] at h0
  omega
/-- The tree's variable, and the answer's. -/
def TS (w W : World) (a b : Value) (hd : List KRec) (xs : List KCell) : Prop :=
  w.grownBy W none ∧ W.heap[w.heap.size]? = some (.cells #[.slice none 0 0, .slice none 0 0] 27 (0, 0)) ∧ W.heap[w.heap.size + 1]? = some (.cells #[a, b] 27 (0, 0)) ∧ RowT w W a hd ∧ OwnCe w W w.heap.size b xs
theorem TS.kept {w W W' : World} {a b : Value} {hd : List KRec} {xs : List KCell} (h : TS w W a b hd xs) (hg : W.grownBy W' none) : TS w W' a b hd xs :=
  ⟨grown_trans h.1 hg, heap_kept hg h.2.1, heap_kept hg h.2.2.1, h.2.2.2.1.kept hg, OwnCe.kept h.2.2.2.2 hg⟩
/-- A cell's variable, since the world in which its row begins. -/
def TC (wi W : World) (q : Nat) (a b : Value) (hd : List KRec) (xs : List KItem) : Prop :=
  wi.grownBy W none ∧ W.heap[q]? = some (.cells #[a, b] 50 (0, 0)) ∧ RowT wi W a hd ∧ OwnIt wi W wi.heap.size b xs ∧ wi.heap.size ≤ q
theorem TC.kept {w W W' : World} {q : Nat} {a b : Value} {hd : List KRec} {xs : List KItem} (h : TC w W q a b hd xs) (hg : W.grownBy W' none) : TC w W' q a b hd xs :=
  ⟨grown_trans h.1 hg, heap_kept hg h.2.1, h.2.2.1.kept hg, OwnIt.kept h.2.2.2.1 hg, h.2.2.2.2⟩
/-- An item's variable, since the world in which it was made. -/
def TI (wx W : World) (q : Nat) (a b : Value) (hd tl : List KRec) : Prop :=
  wx.grownBy W none ∧ W.heap[q]? = some (.cells #[a, b] 55 (0, 0)) ∧ RowT wx W a hd ∧ RowT wx W b tl ∧ wx.heap.size ≤ q
theorem TI.kept {w W W' : World} {q : Nat} {a b : Value} {hd tl : List KRec} (h : TI w W q a b hd tl) (hg : W.grownBy W' none) : TI w W' q a b hd tl :=
  ⟨grown_trans h.1 hg, heap_kept hg h.2.1, h.2.2.1.kept hg, h.2.2.2.1.kept hg, h.2.2.2.2⟩
/-- Its properties, stored. -/
theorem TI.props {w W : World} {q : Nat} {a b u : Value} {hd tl pl : List KRec} (h : TI w W q a b hd tl) (hu : RowT w W u pl) : TI w (W.setCell ⟨q, 1, none⟩ u) q a u hd pl := by
  have gp : W.grownBy (W.setCell ⟨q, 1, none⟩ u) (some q) := grown_set (grown_refl _ _) 1 _
  exact ⟨grown_new h.1 gp h.2.2.2.2, heap_set2b h.2.1 u, h.2.2.1.off gp h.2.1 (by decide) (by decide), hu.off gp h.2.1 (by decide) (by decide), h.2.2.2.2⟩
/-- An item more: behind the append and its store. -/
theorem item_lay {wi W4 w5 : World} {q : Nat} {ha iv xa xb : Value} {ch f pl : List KRec} {xs : List KItem} {ys : List Value} {s5 : Option Addr} {c5 : Nat}
    (hc : TC wi W4 q ha iv ch xs) (hf : RowT wi W4 xa f) (hp : RowT wi W4 xb pl) (h1x : xa.oneCell' = true) (h1y : xb.oneCell' = true)
    (hown : W4.ownsRow wi.heap.size 55 2 iv xs.length ys) (hone : ∀ u ∈ ys, u.oneCell' = true)
    (hys : ∀ i (h : i < xs.length), ∃ a b, ys[i * 2]? = some a ∧ ys[i * 2 + 1]? = some b ∧ RowT wi W4 a xs[i].1 ∧ RowT wi W4 b xs[i].2)
    (hown5 : w5.ownsRow wi.heap.size 55 2 (.slice s5 (xs.length + 1) c5) (xs.length + 1) (ys ++ [xa, xb])) (hg5 : W4.grownBy w5 iv.ownBlock) :
    w5.heap[q]? = some (.cells #[ha, iv] 50 (0, 0)) ∧ Hid (TC wi (w5.setCell ⟨q, 1, none⟩ (.slice s5 (xs.length + 1) c5)) q ha (.slice s5 (xs.length + 1) c5) ch (xs ++ [(f, pl)])) := by
  have st : ∀ u x, RowT wi W4 u x → RowT wi w5 u x := fun u x hx => hx.own hown hg5 (by decide) (by decide)
  have Ir5 : OwnIt wi w5 wi.heap.size (.slice s5 (xs.length + 1) c5) (xs ++ [(f, pl)]) := OwnP.snoc (A := RowT wi) (B := RowT wi) hown.1 hone h1x h1y hys rfl hown5 st st hf hp
  have B5 := heap_rowT hown hg5 hc.2.1 (by decide)
  have gp : w5.grownBy (w5.setCell ⟨q, 1, none⟩ (.slice s5 (xs.length + 1) c5)) (some q) := grown_set (grown_refl _ _) 1 _
  refine ⟨B5, Lib.hid ⟨grown_new (grown_own hc.1 hown hg5 (Nat.le_refl _)) gp hc.2.2.2.2, heap_set2b B5 _, (st _ _ hc.2.2.1).off gp B5 (by decide) (by decide), Ir5.grownT gp B5 (by decide) (by decide) (by decide), hc.2.2.2.2⟩⟩
/-- A cell more: behind the append and its store. -/
theorem cell_lay {w W4 w5 : World} {a b ca cb : Value} {hd ch : List KRec} {xs : List KCell} {is : List KItem} {ys : List Value} {s5 : Option Addr} {c5 : Nat}
    (hc : TS w W4 a b hd xs) (hf : RowT w W4 ca ch) (hp : ItemsT w W4 cb is) (h1x : ca.oneCell' = true) (h1y : cb.oneCell' = true)
    (hown : W4.ownsRow w.heap.size 50 2 b xs.length ys) (hone : ∀ u ∈ ys, u.oneCell' = true)
    (hys : ∀ i (h : i < xs.length), ∃ a b, ys[i * 2]? = some a ∧ ys[i * 2 + 1]? = some b ∧ RowT w W4 a xs[i].1 ∧ ItemsT w W4 b xs[i].2)
    (hown5 : w5.ownsRow w.heap.size 50 2 (.slice s5 (xs.length + 1) c5) (xs.length + 1) (ys ++ [ca, cb])) (hg5 : W4.grownBy w5 b.ownBlock) :
    w5.heap[w.heap.size + 1]? = some (.cells #[a, b] 27 (0, 0)) ∧ Hid (TS w (w5.setCell ⟨w.heap.size + 1, 1, none⟩ (.slice s5 (xs.length + 1) c5)) a (.slice s5 (xs.length + 1) c5) hd (xs ++ [(ch, is)])) := by
  have st : ∀ u x, RowT w W4 u x → RowT w w5 u x := fun u x hx => hx.own hown hg5 (by decide) (by decide)
  have st2 : ∀ u x, ItemsT w W4 u x → ItemsT w w5 u x := fun u x hx => ItemsT.own hx hown hg5 (by decide) (by decide) (by decide)
  have Ir5 : OwnCe w w5 w.heap.size (.slice s5 (xs.length + 1) c5) (xs ++ [(ch, is)]) := OwnP.snoc (A := RowT w) (B := ItemsT w) hown.1 hone h1x h1y hys rfl hown5 st st2 hf hp
  have B5 := heap_rowT hown hg5 hc.2.2.1 (by decide)
  have R5 := heap_rowT hown hg5 hc.2.1 (by decide)
  have gp : w5.grownBy (w5.setCell ⟨w.heap.size + 1, 1, none⟩ (.slice s5 (xs.length + 1) c5)) (some (w.heap.size + 1)) := grown_set (grown_refl _ _) 1 _
  refine ⟨B5, Lib.hid ⟨grown_new (grown_own hc.1 hown hg5 (Nat.le_refl _)) gp (Nat.le_succ _), heap_unset R5 (by omega) _, heap_set2b B5 _, (st _ _ hc.2.2.2.1).off gp B5 (by decide) (by decide), OwnCe.grownT Ir5 gp B5 (by decide) (by decide) (by decide) (by decide)⟩⟩
/-- The answer's variable, stored whole. -/
theorem TS.put {w W : World} {a b : Value} {hd : List KRec} {xs : List KCell} (h : TS w W a b hd xs) (u v : Value) :
    w.grownBy ((W.setCell ⟨w.heap.size, 0, none⟩ u).setCell ⟨w.heap.size, 1, none⟩ v) none ∧ ((W.setCell ⟨w.heap.size, 0, none⟩ u).setCell ⟨w.heap.size, 1, none⟩ v).heap[w.heap.size]? = some (.cells #[u, v] 27 (0, 0)) :=
  ⟨grown_put2 h.1 (Nat.le_refl _) u v, heap_set2 h.2.1 u v⟩
/-- .. and the tree is the answer. -/
theorem TS.done {w W : World} {a b : Value} {hd : List KRec} {xs : List KCell} (h : TS w W a b hd xs) (hs : Small (recT (hd, xs))) :
    LibT ((W.setCell ⟨w.heap.size, 0, none⟩ a).setCell ⟨w.heap.size, 1, none⟩ b) (.agg #[a, b]) (hd, xs) := by
  have gp := grown_put2b (W := W) (g := w.heap.size) a b
  exact ⟨a, b, rfl, (h.2.2.2.1.off gp h.2.1 (by decide) (by decide)).any, CellsT.any (CellsT.grownT (OwnP.row h.2.2.2.2) gp h.2.1 (by decide) (by decide) (by decide) (by decide)), hs⟩
/-- The head, stored. -/
theorem TS.head {w W : World} {b : Value} {xs : List KCell} {a u : Value} {hd0 hd : List KRec} (h : TS w W a b hd0 xs) (hu : RowT w W u hd) : TS w (W.setCell ⟨w.heap.size + 1, 0, none⟩ u) u b hd xs := by
  have gp : W.grownBy (W.setCell ⟨w.heap.size + 1, 0, none⟩ u) (some (w.heap.size + 1)) := grown_set (grown_refl _ _) 0 _
  refine ⟨grown_new h.1 gp (Nat.le_succ _), heap_unset h.2.1 (by omega) _, heap_set2a h.2.2.1 u, hu.off gp h.2.2.1 (by decide) (by decide), OwnCe.grownT h.2.2.2.2 gp h.2.2.1 (by decide) (by decide) (by decide) (by decide)⟩
end Go.Proofs.Ytcioefmldcmhgaa
