/- Texts of whole numbers: what they name; what cuts a sign off; whether a long text is one of digits. -/
import Derived.Test.YtldkddogadmpbaaGreatDoorZedQuo
import Derived.Test.YtldkddogadmpbaaGreatDoorParse
import Derived.Test.YtldkddogadmpbaaGreatDoorUniq
import Derived.Test.YtldkddogadmpbaaGreatDoorRefParse
namespace Go.Proofs.YtldkddogadmpbaaGreatDoor
open Go.RowKit Mat
set_option maxRecDepth 100000
set_option linter.unusedVariables false
set_option linter.unusedSimpArgs false

/-- Whether bytes are digits without a 0 ahead: by reckoning. -/
def decB (l : List Nat) : Bool := l.all (fun d => Nat.ble 48 d && Nat.ble d 57) && (l == [48] || (!l.isEmpty && l.head? != some 48))
theorem dec_of {l : List Nat} (h : decB l = true) : DecL l := by
  unfold decB at h
  simp only [Bool.and_eq_true, Bool.or_eq_true, List.all_eq_true] at h
  obtain ⟨h1, h2⟩ := h
  refine ⟨fun k hk => ?_, ?_⟩
  · have := h1 _ (List.getElem_mem hk)
    simpa using this
  · rcases h2 with h2 | h2
    · left; simpa using h2
    · right; simpa using h2
theorem dec_not {l : List Nat} (h : decB l = false) : ¬ DecL l := by
  intro hd
  have : decB l = true := by
    unfold decB
    simp only [Bool.and_eq_true, Bool.or_eq_true, List.all_eq_true]
    refine ⟨fun x hx => ?_, ?_⟩
    · obtain ⟨k, hk, rfl⟩ := List.getElem_of_mem hx
      simpa using hd.1 k hk
    · rcases hd.2 with h2 | h2
      · left; simpa using h2
      · right; simpa using h2
  rw [h] at this; cases this

theorem dec_iff (l : List Nat) : decB l = true ↔ DecL l := by
  constructor
  · exact dec_of
  · intro h
    cases e : decB l
    · exact absurd h (dec_not e)
    · rfl
theorem dval_lt {l : List Nat} (h : decB l = true) : dval l < 10 ^ l.length := by
  have hd := (dec_of h).1
  rw [dig_val hd]
  have := val_lt 10 _ (dig_dig hd)
  rw [List.length_reverse, List.length_map] at this; exact this
theorem toD {a k : Nat} (h : a < B ^ k) (hk : k ≤ 200000) : a < D ^ 1000000 := by
  obtain ⟨E, hE⟩ : ∃ E, E = 1000000 := ⟨_, rfl⟩
  rw [← hE]
  refine Nat.lt_of_lt_of_le h ?_
  have h1 : B ^ k ≤ (D ^ 5) ^ k := Nat.pow_le_pow_left (by decide) k
  rw [← Nat.pow_mul] at h1
  exact Nat.le_trans h1 (Nat.pow_le_pow_right D_pos (by omega))
theorem toD4 {a k : Nat} (h : a < B ^ k) (hk : k ≤ 80000) : a < D ^ 400000 := by
  obtain ⟨E, hE⟩ : ∃ E, E = 400000 := ⟨_, rfl⟩
  rw [← hE]
  refine Nat.lt_of_lt_of_le h ?_
  have h1 : B ^ k ≤ (D ^ 5) ^ k := Nat.pow_le_pow_left (by decide) k
  rw [← Nat.pow_mul] at h1
  exact Nat.le_trans h1 (Nat.pow_le_pow_right D_pos (by omega))
theorem dval_bdE {l : List Nat} {E : Nat} (h : DecL l) (hl : l.length ≤ 19 * E) : dval l < B ^ E := by
  refine Nat.lt_of_lt_of_le (dval_lt ((dec_iff l).2 h)) ?_
  refine Nat.le_trans (Nat.pow_le_pow_right (by omega) hl) ?_
  rw [Nat.pow_mul]
  exact Nat.pow_le_pow_left (by unfold B; decide) E
theorem dval_bd {l : List Nat} (h : DecL l) (hl : l.length ≤ 4097) : dval l < B ^ 216 := dval_bdE h (by omega)
/-- The text of a whole number: a sign, digits. -/
def zneg (l : List Nat) : Bool := l.head? == some 45
def zdig (l : List Nat) : List Nat := if zneg l = true then l.tail else l
def zok (l : List Nat) : Bool := decB (zdig l) && !(zneg l && zdig l == [48])
def znum (l : List Nat) : Int := if zneg l = true then -(dval (zdig l) : Int) else dval (zdig l)
def zcod (s : ByteArray) : Int := if 4097 < s.size then 2 else if zok (bts s) = false then 3 else if 4096 < (zdig (bts s)).length then 2 else 0
def zval (s : ByteArray) : Int := if zcod s = 0 then znum (bts s) else 0
theorem zdig_neg {l : List Nat} (h : zneg l = true) : zdig l = l.tail := by unfold zdig; rw [if_pos h]
theorem zdig_pos {l : List Nat} (h : zneg l = false) : zdig l = l := by unfold zdig; rw [h]; rfl
theorem zok_iff (l : List Nat) : zok l = true ↔ (DecL (zdig l) ∧ ¬ (zneg l = true ∧ dval (zdig l) = 0)) := by
  unfold zok
  rw [Bool.and_eq_true, dec_iff]
  constructor
  · rintro ⟨h1, h2⟩
    refine ⟨h1, ?_⟩
    rintro ⟨h3, h4⟩
    have : zdig l = [48] := dec_uniqL h1 (dec_of (by decide +kernel)) (h4.trans (by decide +kernel))
    rw [h3, this] at h2; simp at h2
  · rintro ⟨h1, h2⟩
    refine ⟨h1, ?_⟩
    cases e : zneg l
    · rfl
    · cases e2 : (zdig l == [48])
      · rfl
      · exact absurd ⟨e, by rw [beq_iff_eq.1 e2]; decide +kernel⟩ h2
theorem zc_long {s : ByteArray} (h : 4097 < s.size) : zcod s = 2 ∧ zval s = 0 := by
  have : zcod s = 2 := by unfold zcod; rw [if_pos h]
  exact ⟨this, by unfold zval; rw [this]; rfl⟩
theorem zc_form {s : ByteArray} (h : s.size ≤ 4097) (h1 : ¬ zok (bts s) = true) : zcod s = 3 ∧ zval s = 0 := by
  have : zcod s = 3 := by unfold zcod; rw [if_neg (by omega), if_pos (by simpa using h1)]
  exact ⟨this, by unfold zval; rw [this]; rfl⟩
theorem zc_many {s : ByteArray} (h : s.size ≤ 4097) (h1 : zok (bts s) = true) (h2 : 4096 < (zdig (bts s)).length) : zcod s = 2 ∧ zval s = 0 := by
  have : zcod s = 2 := by unfold zcod; rw [if_neg (by omega), if_neg (by rw [h1]; simp), if_pos h2]
  exact ⟨this, by unfold zval; rw [this]; rfl⟩
theorem zc_num {s : ByteArray} (h : s.size ≤ 4097) (h1 : zok (bts s) = true) (h2 : (zdig (bts s)).length ≤ 4096) : zcod s = 0 ∧ zval s = znum (bts s) := by
  have : zcod s = 0 := by unfold zcod; rw [if_neg (by omega), if_neg (by rw [h1]; simp), if_neg (by omega)]
  exact ⟨this, by unfold zval; rw [if_pos this]⟩

/-- Does a text begin with another one? -/
def pfx (s p : ByteArray) : Bool := decide (p.size ≤ s.size) && ((s.extract 0 p.size).toList == p.toList)
theorem pfx_dash (s : ByteArray) : pfx s { data := #[45] } = zneg (bts s) := by
  have e1 : (s.extract 0 1).toList = s.data.toList.take 1 := by
    obtain ⟨⟨l⟩⟩ := s
    rw [ByteArray.extract_mk, ByteArray.toList_eq]
    simp
  have e2 : s.size = s.data.toList.length := by simp only [Array.length_toList]; rfl
  unfold pfx zneg bts
  show (decide (1 ≤ s.size) && ((s.extract 0 1).toList == (⟨#[45]⟩ : ByteArray).toList)) = _
  rw [e1, e2, ByteArray.toList_eq]
  generalize s.data.toList = l
  cases l with
  | nil => rfl
  | cons x t =>
    simp only [List.length_cons, List.take_succ_cons, List.take_zero, List.map_cons, List.head?_cons]
    by_cases h : x = 45
    · subst h; simp
    · have : x.toNat ≠ 45 := fun e => h (UInt8.toNat_inj.1 e)
      have hx1 : (x == 45) = false := beq_eq_false_iff_ne.2 h
      have hx2 : (x.toNat == 45) = false := beq_eq_false_iff_ne.2 this
      simp [hx1, hx2]
theorem pre_any (w : World) (s p : ByteArray) :
    Calls Tryz.prog 89 #[.string s, .string p] w (fun e w' => e = .returned (.bool (pfx s p)) ∧ w = w') := by
  by_cases h : p.size ≤ s.size
  · go_enter Tryz.func89, Tryz.ntmps89
    go_wp2_with fail
    go_ret
    refine ⟨?_, rfl⟩
    show Ending.returned (Value.bool ((s.extract 0 p.size).toList == p.toList)) = _
    unfold pfx; simp [h]
  · go_enter Tryz.func89, Tryz.ntmps89
    go_wp2_with fail
    go_ret
    refine ⟨?_, rfl⟩
    show Ending.returned (Value.bool false) = _
    unfold pfx; simp [h]
theorem cutl_hit (w : World) (s p : ByteArray) (h : pfx s p = true) :
    Calls Tryz.prog 68 #[.string s, .string p] w (fun e w' => e = .returned (.tuple #[.string (s.extract p.size s.size), .bool true]) ∧ w = w') := by
  have H := Lib.hid h
  have hp : p.size ≤ s.size ∨ False := Or.inl (by unfold pfx at h; simp at h; exact h.1)
  clear h
  go_enter Tryz.func68, Tryz.ntmps68
  go_wp2_with fail
  replace hp := hp.resolve_right id
  refine (pre_any w s p).mono ?_
  rintro e w' ⟨rfl, rfl⟩
  rw [H.out]
  go_wp2_with fail
  go_ret2
  exact ⟨rfl, rfl⟩
theorem cutl_miss (w : World) (s p : ByteArray) (h : pfx s p = false) :
    Calls Tryz.prog 68 #[.string s, .string p] w (fun e w' => e = .returned (.tuple #[.string s, .bool false]) ∧ w = w') := by
  have H := Lib.hid h
  have hp : p.size ≤ s.size ∨ True := Or.inr trivial
  clear h
  go_enter Tryz.func68, Tryz.ntmps68
  go_wp2_with fail
  refine (pre_any w s p).mono ?_
  rintro e w' ⟨rfl, rfl⟩
  rw [H.out]
  go_wp2_with fail
  go_ret2
  exact ⟨rfl, rfl⟩
theorem cut_hit (w : World) (s p : ByteArray) (h : pfx s p = true) :
    Calls Tryz.prog 36 #[.string s, .string p] w (fun e w' => e = .returned (.tuple #[.string (s.extract p.size s.size), .bool true]) ∧ w = w') := by
  have H := Lib.hid h
  have hp : p.size ≤ s.size ∨ False := Or.inl (by unfold pfx at h; simp at h; exact h.1)
  clear h
  go_enter Tryz.func36, Tryz.ntmps36
  go_wp2_with fail
  refine (cutl_hit w s p H.out).mono ?_
  rintro e w' ⟨rfl, rfl⟩
  go_wp2_with fail
  go_ret2
  exact ⟨rfl, rfl⟩
theorem cut_miss (w : World) (s p : ByteArray) (h : pfx s p = false) :
    Calls Tryz.prog 36 #[.string s, .string p] w (fun e w' => e = .returned (.tuple #[.string s, .bool false]) ∧ w = w') := by
  have H := Lib.hid h
  have hp : p.size ≤ s.size ∨ True := Or.inr trivial
  clear h
  go_enter Tryz.func36, Tryz.ntmps36
  go_wp2_with fail
  refine (cutl_miss w s p H.out).mono ?_
  rintro e w' ⟨rfl, rfl⟩
  go_wp2_with fail
  go_ret2
  exact ⟨rfl, rfl⟩

set_option maxHeartbeats 2000000 in
theorem long_any (w : World) (s : ByteArray) (hs : s.size ≤ 4097) (h1 : 1 < s.size) :
    Calls Tryz.prog 37 #[.string s] w (RetDec w s) := by
  obtain ⟨x0, ex0⟩ : ∃ x, (s[0]'(by omega)).toNat = x := ⟨_, rfl⟩
  have HB0 : Hid (¬ s.toList = [48] ∧ ¬ s.toList = [] ∧ (bts s).head? = some x0) := by
    refine ⟨fun h => ?_, fun h => ?_, by rw [bts_head s (by omega), ex0]⟩
    · have := (bts_one s).2 h
      have h2 := bts_len s; rw [this] at h2; simp at h2; omega
    · have := (bts_nil s).2 h
      have h2 := bts_len s; rw [this] at h2; simp at h2; omega
  obtain ⟨bb, f9, HK⟩ : ∃ bb : Bool, ((x0 : Int) != 48) = bb ∧ Hid (bb = true ↔ (s.toList = [48] ∨ (s.toList ≠ [] ∧ (bts s).head? ≠ some 48))) := by
    obtain ⟨q1, q2, q3⟩ := HB0.out
    refine ⟨_, rfl, ?_⟩
    show _ ↔ _
    rw [q3]
    by_cases h : x0 = 48
    · subst h
      constructor
      · intro h; cases h
      · rintro (h | ⟨h, h2⟩)
        · exact absurd h q1
        · exact absurd rfl h2
    · have hne : ((x0 : Int) == 48) = false := beq_eq_false_iff_ne.2 (by omega)
      rw [bne, hne]
      exact ⟨fun _ => Or.inr ⟨q2, fun e => h (Option.some.inj e)⟩, fun _ => rfl⟩
  all_goals (
    go_enter Tryz.func37, Tryz.ntmps37
    go_wp2_with fail
    go_loopw [6] (fun i wr => ∃ k : Nat, k ≤ s.size ∧ i = .int .i64 k ∧ w = wr ∧ Hid (∀ j (h : j < s.size), j < k → 48 ≤ (s[j]'h).toNat ∧ (s[j]'h).toNat ≤ 57)) (fun i _ => s.size - (intOf i).toNat)
    case atStart => exact ⟨0, Nat.zero_le _, rfl, rfl, fun j h h0 => absurd h0 (by omega)⟩
    case round =>
      obtain ⟨k, hk, rfl, rfl, hd⟩ := hrel
      by_cases hlt : k < s.size
      · obtain ⟨x, ex⟩ : ∃ x, (s[k]'hlt).toNat = x := ⟨_, rfl⟩
        by_cases hx : 48 ≤ x ∧ x ≤ 57
        · have f1 : decide ((x : Int) < 48) = false := decide_eq_false (by omega)
          have f2 : decide ((57 : Int) < (x : Int)) = false := decide_eq_false (by omega)
          go_wp2_with fail
          go_roundw
          case rel =>
            refine ⟨k + 1, by omega, by go_num, by trivial, fun j h hj => ?_⟩
            rcases Nat.lt_or_ge j k with h1 | h1
            · exact hd.out j h h1
            · obtain rfl : j = k := by omega
              rw [ex]; exact hx
          case measure => simp [intOf]; omega
        · have HF : Hid (RetDec w s (.returned (.bool false)) w) := dec_bad k hlt (by rw [ex]; exact hx)
          go_wp2_with fail
          all_goals first | (go_ret; exact HF.out) | (exfalso; omega)
      · obtain rfl : k = s.size := by omega
        have HE := Lib.hid (dec_end (w := w) hd.out bb HK.out)
        clear hd
        go_wp2_with fail
        go_ret
        exact HE.out)
end Go.Proofs.YtldkddogadmpbaaGreatDoor
