/- Records: the mathematics: the first record of bytes, all records, and back. -/
import Derived.Test.YtcioefmldcmhgaaKBase
namespace Go.Proofs.Ytcioefmldcmhgaa
open Go.RowKit
set_option maxRecDepth 100000
set_option linter.unusedVariables false
set_option linter.unusedSimpArgs false

/-- A record: its kind, its Data, its body. -/
abbrev KRec := Nat × Nat × List Nat
def lenR (l : List Nat) : Nat := l.getD 0 0 * 256 + l.getD 1 0
/-- The first record of bytes: the error, the record, how many bytes it has. -/
def firstR (l : List Nat) : Nat × KRec × Nat :=
  if l.length < 2 then (7, (0, 0, []), 0)
  else if lenR l < 4 ∨ lenR l % 2 = 1 then (3, (0, 0, []), 0)
  else if l.length < lenR l then (7, (0, 0, []), 0)
  else (0, (l.getD 2 0, l.getD 3 0, (l.drop 4).take (lenR l - 4)), lenR l)
theorem first_short {l : List Nat} (h : l.length < 2) : firstR l = (7, (0, 0, []), 0) := by unfold firstR; rw [if_pos h]
theorem first_form {l : List Nat} (h : 2 ≤ l.length) (k : lenR l < 4 ∨ lenR l % 2 = 1) : firstR l = (3, (0, 0, []), 0) := by unfold firstR; rw [if_neg (by omega), if_pos k]
theorem first_less {l : List Nat} (h : 2 ≤ l.length) (k : ¬ (lenR l < 4 ∨ lenR l % 2 = 1)) (m : l.length < lenR l) : firstR l = (7, (0, 0, []), 0) := by unfold firstR; rw [if_neg (by omega), if_neg k, if_pos m]
theorem first_ok {l : List Nat} (h : 2 ≤ l.length) (k : ¬ (lenR l < 4 ∨ lenR l % 2 = 1)) (m : lenR l ≤ l.length) : firstR l = (0, (l.getD 2 0, l.getD 3 0, (l.drop 4).take (lenR l - 4)), lenR l) := by unfold firstR; rw [if_neg (by omega), if_neg k, if_neg (by omega)]
theorem first_code (l : List Nat) : (firstR l).1 = 0 ∨ (firstR l).1 = 3 ∨ (firstR l).1 = 7 := by
  unfold firstR; repeat' split
  all_goals simp
theorem first_len (l : List Nat) : (firstR l).2.2 ≤ l.length := by
  unfold firstR; repeat' split
  all_goals (dsimp only; omega)
theorem first_pos {l : List Nat} (h : (firstR l).1 = 0) : 4 ≤ (firstR l).2.2 := by
  revert h; unfold firstR; repeat' split
  all_goals (intro h; first | (dsimp only at h; omega) | (dsimp only; omega))
theorem first_body {l : List Nat} (h : (firstR l).1 = 0) : (firstR l).2.1.2.2.length + 4 = (firstR l).2.2 := by
  revert h; unfold firstR; repeat' split
  all_goals (intro h; first | (dsimp only at h; omega) | skip)
  dsimp only
  rw [List.length_take, List.length_drop]
  omega
/-- Some records, and what comes behind them. -/
def catS (rs : List KRec) (k : Nat) (x : Nat × List KRec × Nat) : Nat × List KRec × Nat := if x.1 = 0 then (0, rs ++ x.2.1, k + x.2.2) else (x.1, [], 0)
/-- All records up to the first ENDLIB: the error, the records, how many bytes they have. -/
def spR : Nat → List Nat → Nat × List KRec × Nat
  | 0, _ => (7, [], 0)
  | f + 1, l => if (firstR l).1 ≠ 0 then ((firstR l).1, [], 0) else if (firstR l).2.1.1 = 4 then (0, [(firstR l).2.1], (firstR l).2.2) else catS [(firstR l).2.1] (firstR l).2.2 (spR f (l.drop (firstR l).2.2))
theorem catS_catS (rs ss : List KRec) (k m : Nat) (x : Nat × List KRec × Nat) : catS rs k (catS ss m x) = catS (rs ++ ss) (k + m) x := by
  unfold catS
  by_cases h : x.1 = 0
  · simp [h, Nat.add_assoc]
  · simp [h]
theorem catS_nil (x : Nat × List KRec × Nat) (h : x.1 ≠ 0 → x.2 = ([], 0)) : catS [] 0 x = x := by
  unfold catS
  by_cases h0 : x.1 = 0
  · simp [h0]; rw [← h0]
  · rw [if_neg h0, ← h h0]
theorem spR_zero (f : Nat) (l : List Nat) : (spR f l).1 ≠ 0 → (spR f l).2 = ([], 0) := by
  cases f with
  | zero => intro _; rfl
  | succ f =>
    unfold spR
    repeat' split
    · intro _; rfl
    · intro h; exact absurd rfl h
    · unfold catS; split
      · intro h; exact absurd rfl h
      · intro _; rfl
theorem sp_err {l0 l : List Nat} {rs : List KRec} {k f : Nat} {R : Nat × List KRec × Nat} (h : R = catS rs k (spR (f + 1) l)) (he : (firstR l).1 ≠ 0) : R = ((firstR l).1, [], 0) := by
  rw [h]; unfold spR; rw [if_pos he]; unfold catS; rw [if_neg he]
theorem sp_last {l : List Nat} {rs : List KRec} {k f : Nat} {R : Nat × List KRec × Nat} (h : R = catS rs k (spR (f + 1) l)) (he : (firstR l).1 = 0) (h4 : (firstR l).2.1.1 = 4) : R = (0, rs ++ [(firstR l).2.1], k + (firstR l).2.2) := by
  rw [h]; unfold spR; rw [if_neg (by simpa using he), if_pos h4]; rfl
theorem sp_more {l : List Nat} {rs : List KRec} {k f : Nat} {R : Nat × List KRec × Nat} (h : R = catS rs k (spR (f + 1) l)) (he : (firstR l).1 = 0) (h4 : (firstR l).2.1.1 ≠ 4) : R = catS (rs ++ [(firstR l).2.1]) (k + (firstR l).2.2) (spR f (l.drop (firstR l).2.2)) := by
  rw [h]; conv => lhs; unfold spR
  rw [if_neg (by simpa using he), if_neg h4, catS_catS]
/-- What Split answers: the error, the records, how many bytes they have. -/
def splitD (l : List Nat) : Nat × List KRec × Nat :=
  if (spR (l.length + 1) l).1 ≠ 0 then spR (l.length + 1) l
  else if ∀ x ∈ l.drop (spR (l.length + 1) l).2.2, x = 0 then spR (l.length + 1) l else (4, [], 0)
theorem sp_len (f : Nat) : ∀ l, (spR f l).2.2 ≤ l.length := by
  induction f with
  | zero => intro l; exact Nat.zero_le _
  | succ f ih =>
    intro l
    unfold spR
    have hl := first_len l
    repeat' split
    · exact Nat.zero_le _
    · exact hl
    · unfold catS
      have := ih (l.drop (firstR l).2.2)
      rw [List.length_drop] at this
      split
      · dsimp only; omega
      · exact Nat.zero_le _
/-- A record's bytes. -/
def recB (r : KRec) : List Nat := [(r.2.2.length + 4) / 256, (r.2.2.length + 4) % 256, r.1, r.2.1] ++ r.2.2
def joinB (rs : List KRec) : List Nat := rs.flatMap recB
def okR (r : KRec) : Prop := r.2.2.length % 2 = 0 ∧ r.2.2.length ≤ 65530
instance (r : KRec) : Decidable (okR r) := by unfold okR; infer_instance
/-- What Join answers. -/
def joinD (rs : List KRec) : Nat × List Nat := if ∀ r ∈ rs, okR r then (0, joinB rs) else (3, [])
theorem bor_i64 (n : Int) (x : Nat) (hx : x < 256) (h1 : -36028797018963968 ≤ n) (h2 : n < 36028797018963968) : bits .or .i64 (n * 256) (x : Int) = n * 256 + (x : Int) := by
  obtain ⟨q, m, hm, hq⟩ : ∃ (q : Int) (m : Nat), m < 72057594037927936 ∧ n = 72057594037927936 * q + (m : Int) := ⟨n / 72057594037927936, (n % 72057594037927936).toNat, by omega, by omega⟩
  have e1 : (BitVec.ofInt 64 (n * 256)).toNat = m * 256 := by
    rw [BitVec.toNat_ofInt]; omega
  have e2 : (BitVec.ofInt 64 (x : Int)).toNat = x := by
    rw [BitVec.ofInt_natCast, BitVec.toNat_ofNat]; exact Nat.mod_eq_of_lt (by omega)
  show IntKind.i64.wrap ((BitVec.ofInt 64 (n * 256) ||| BitVec.ofInt 64 (x : Int)).toNat : Int) = _
  rw [BitVec.toNat_or, e1, e2, Nat.mul_comm, show 256 = 2 ^ 8 from rfl, ← Nat.two_pow_add_eq_or_of_lt (by omega)]
  unfold IntKind.wrap
  simp [IntKind.bits, IntKind.signed]
  split <;> omega
theorem bor_n64 (v x : Nat) (hx : x < 256) (h2 : v < 65536) : bits .or .i64 ((v : Int) * 256) (x : Int) = ((v * 256 + x : Nat) : Int) := by
  rw [bor_i64 (v : Int) x hx (by omega) (by omega)]; omega
end Go.Proofs.Ytcioefmldcmhgaa
