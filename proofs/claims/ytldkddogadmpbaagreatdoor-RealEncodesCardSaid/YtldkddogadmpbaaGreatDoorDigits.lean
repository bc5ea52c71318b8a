/- Texts of digits: decimal, Parse. -/
import Derived.Test.YtldkddogadmpbaaGreatDoorScale
namespace Go.Proofs.YtldkddogadmpbaaGreatDoor
open Go.RowKit Mat
set_option maxRecDepth 100000
set_option linter.unusedVariables false
set_option linter.unusedSimpArgs false

/-- A text's bytes. -/
def bts (s : ByteArray) : List Nat := s.data.toList.map UInt8.toNat
theorem bts_len (s : ByteArray) : (bts s).length = s.size := by simp [bts]
theorem bts_get (s : ByteArray) (k : Nat) (h : k < s.size) : (bts s)[k]'(by rw [bts_len]; exact h) = (s[k]'h).toNat := by
  unfold bts
  rw [List.getElem_map]
  rfl
theorem bts_one (s : ByteArray) : bts s = [48] ↔ s.toList = [48] := by
  rw [ByteArray.toList_eq]
  unfold bts
  generalize s.data.toList = l
  constructor
  · intro h
    obtain ⟨x, rfl⟩ : ∃ x, l = [x] := List.length_eq_one_iff.1 (by have := congrArg List.length h; simpa using this)
    have : x.toNat = 48 := by simpa using h
    have : x = 48 := UInt8.toNat_inj.1 this
    rw [this]
  · intro h; rw [h]; rfl
theorem bts_nil (s : ByteArray) : bts s = [] ↔ s.toList = [] := by
  rw [ByteArray.toList_eq]; unfold bts; simp
theorem bts_head (s : ByteArray) (h : 0 < s.size) : (bts s).head? = some (s[0]'h).toNat := by
  have h2 : 0 < (bts s).length := by rw [bts_len]; exact h
  rw [List.head?_eq_getElem?, List.getElem?_eq_getElem h2, bts_get s 0 h]

/-- Digits, without a 0 ahead of another one. -/
def DecL (l : List Nat) : Prop := (∀ k (h : k < l.length), 48 ≤ l[k] ∧ l[k] ≤ 57) ∧ (l = [48] ∨ (l ≠ [] ∧ l.head? ≠ some 48))
def RetDec (w : World) (s : ByteArray) (e : Ending) (w' : World) : Prop := ∃ b : Bool, e = .returned (.bool b) ∧ (b = true ↔ DecL (bts s)) ∧ w = w'
theorem dec_bad {w : World} {s : ByteArray} (k : Nat) (h : k < s.size) (hx : ¬ (48 ≤ (s[k]'h).toNat ∧ (s[k]'h).toNat ≤ 57)) : RetDec w s (.returned (.bool false)) w := by
  refine ⟨false, rfl, ⟨(fun e => by cases e), fun hd => ?_⟩, rfl⟩
  have := hd.1 k (by rw [bts_len]; exact h)
  rw [bts_get s k h] at this
  exact absurd this hx
theorem dec_end {w : World} {s : ByteArray} (hd : ∀ j (h : j < s.size), j < s.size → 48 ≤ (s[j]'h).toNat ∧ (s[j]'h).toNat ≤ 57) (b : Bool) (hb : b = true ↔ (s.toList = [48] ∨ (s.toList ≠ [] ∧ (bts s).head? ≠ some 48))) : RetDec w s (.returned (.bool b)) w := by
  refine ⟨b, rfl, ?_, rfl⟩
  rw [hb, ← bts_one, ne_eq, ← bts_nil]
  unfold DecL
  constructor
  · intro h
    refine ⟨fun k hk => ?_, h⟩
    have hk' : k < s.size := by rw [bts_len] at hk; exact hk
    rw [bts_get s k hk']; exact hd k hk' hk'
  · exact fun h => h.2

set_option maxHeartbeats 2000000 in
theorem decimal_any (w : World) (s : ByteArray) (hs : s.size ≤ 4096) :
    Calls Tryz.prog 40 #[.string s] w (RetDec w s) := by
  go_enter Tryz.func40, Tryz.ntmps40
  go_wp2_with fail
  go_loopw [6] (fun i wr => ∃ k : Nat, k ≤ s.size ∧ i = .int .i64 k ∧ w = wr ∧ Hid (∀ j (h : j < s.size), j < k → 48 ≤ (s[j]'h).toNat ∧ (s[j]'h).toNat ≤ 57)) (fun i _ => s.size - (intOf i).toNat)
  case atStart => exact ⟨0, Nat.zero_le _, rfl, rfl, fun j h h0 => absurd h0 (by omega)⟩
  case round =>
    obtain ⟨k, hk, rfl, rfl, hd⟩ := hrel
    by_cases hlt : k < s.size
    · obtain ⟨x, ex⟩ : ∃ x, (s[k]'hlt).toNat = x := ⟨_, rfl⟩
      by_cases hx : 48 ≤ x ∧ x ≤ 57
      · have f1 : decide ((x : Int) < 48) = false := decide_eq_false (by omega)
        have f2 : decide ((57 : Int) < (x : Int)) = false := decide_eq_false (by omega)
        go_wp2_with fail
        go_roundw
        case rel =>
          refine ⟨k + 1, by omega, by go_num, by trivial, fun j h hj => ?_⟩
          rcases Nat.lt_or_ge j k with h1 | h1
          · exact hd.out j h h1
          · obtain rfl : j = k := by omega
            rw [ex]; exact hx
        case measure => simp [intOf]; omega
      · have HF : Hid (RetDec w s (.returned (.bool false)) w) := dec_bad k hlt (by rw [ex]; exact hx)
        go_wp2_with fail
        all_goals first | (go_ret; exact HF.out) | (exfalso; omega)
    · obtain rfl : k = s.size := by omega
      have HE := Lib.hid (dec_end (w := w) hd.out)
      clear hd
      have hz : s.toList = [] ∨ 0 < s.size := by
        rcases Nat.eq_zero_or_pos s.size with h | h
        · left
          rw [← bts_nil]
          exact List.length_eq_zero_iff.1 (by rw [bts_len]; exact h)
        · exact Or.inr h
      rcases hz with hz | hz
      · go_wp2_with fail
        all_goals go_ret
        all_goals exact HE.out _ (by simp [*])
      · have hne : s.toList ≠ [] := by
          intro h
          rw [← bts_nil] at h
          have := bts_len s
          rw [h] at this; simp at this; omega
        have hne2 : s.toList.isEmpty = false := by simpa using hne
        go_wp2_with fail
        all_goals go_ret
        all_goals refine HE.out _ ?_
        all_goals rw [bts_head s hz]
        all_goals simp [*]
        all_goals omega
end Go.Proofs.YtldkddogadmpbaaGreatDoor
