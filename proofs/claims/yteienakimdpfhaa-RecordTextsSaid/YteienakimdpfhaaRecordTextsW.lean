/- RecordTexts: the law's walk. -/
import Derived.Test.YteienakimdpfhaaKText
import Derived.Test.YteienakimdpfhaaKKnown
namespace Go.Proofs.Yteienakimdpfhaa
open Go.RowKit
set_option maxRecDepth 100000
set_option linter.unusedVariables false
set_option linter.unusedSimpArgs false

theorem btl_get {S : ByteArray} {k : Nat} (h : S.size = k + 1) (hs : k < S.size) : (btl S).getLast? = some (S[k]'hs).toNat := by
  have hl := btl_len S
  rw [List.getLast?_eq_getElem?, show (btl S).length - 1 = k from by omega, List.getElem?_eq_getElem (by omega)]
  simp only [btl, List.getElem_map, Array.getElem_toList]
  rfl
theorem run_last (S : ByteArray) (k : Nat) (h : S.size = k + 1) : ∃ x : Nat, (btl S).getLast? = some x ∧ ∀ W, (Instr.index 9 (.string S) (.int .i64 (k : Int))).run Try.prog W = .ok (.int .u8 (x : Int)) W := by
  refine ⟨_, btl_get h (by omega), fun W => ?_⟩
  have := run_index_string (P := Try.prog) (w := W) 9 S .i64 (k : Int) Try.underlying9
  rw [this, dif_pos (by omega)]
  rfl
set_option maxHeartbeats 32000000 in
theorem rt_00 (w : World) (Z S : ByteArray) (s : Option Addr) (n0 n cap : Nat) (l0 l : List Nat) (hZ : ¬ 4000 < Z.size) (hZS : S = Z) (hb : ¬ 4000 < n0) (hbn : n0 = n) (hS : S.size ≤ 4000) (hn : l.length = n) (hl : BySl w s l) (hz : s = none → n = 0 ∧ cap = 0) (hc : n ≤ cap) (hn4 : n ≤ 4000) (hm : cap ≤ 9223372036854775807) (hn0 : n ≤ n0) (hc0 : n0 ≤ cap) :
    Calls Try.prog 8 #[.string Z, .slice s n0 cap] w (RetYes w) := by
  subst hZS
  have q1 : decide ((4000 : Int) < (S.size : Int)) = false := decide_eq_false (by omega)
  have hsl : True := trivial
  subst hbn
  have q2 : decide ((4000 : Int) < (n0 : Int)) = false := decide_eq_false (by omega)
  obtain ⟨z, hz9⟩ : ∃ z, S.size = z := ⟨_, rfl⟩
  have HO := Lib.hid (OfText_any w S hS)
  have hlz := btl_len S
  have hst := strOf_btl S
  have hlast : ∀ k, z = k + 1 → ∃ x : Nat, (btl S).getLast? = some x ∧ ∀ W, (Instr.index 9 (.string S) (.int .i64 (k : Int))).run Try.prog W = .ok (.int .u8 (x : Int)) W := fun k hk => run_last S k (by omega)
  obtain ⟨l9, hl9⟩ : ∃ l9, btl S = l9 := ⟨_, rfl⟩
  rw [hl9] at HO hlz hst hlast
  rw [hz9] at hlz
  have HL := Lib.hid hl
  have HN := Lib.hid hn
  have HZ := Lib.hid hz
  have HST := Lib.hid hst
  have HLZ := Lib.hid hlz
  have hev := evenL_len l9
  obtain ⟨M, hM⟩ : ∃ M, (evenL l9).length = M := ⟨_, rfl⟩
  have htk := evenL_take l9
  rw [hM, hlz] at hev
  rw [hlz] at htk
  obtain ⟨e1, e2, e3⟩ := hev
  have HTK := Lib.hid htk
  have HLET := Lib.hid (fun h => evenL_letters (l := l9) h)
  have HE8 : Hid (∀ W s, BySl W s (evenL l9) → BySl W s l9) := Lib.hid (fun W s h => by rw [← htk]; exact h.take _)
  have HMM := Lib.hid hM
  unfold RetOT at HO
  rw [hM] at HO
  obtain ⟨m9, hm9⟩ : ∃ m9, evenL l9 = m9 := ⟨_, rfl⟩
  rw [hm9] at HO HTK HLET HE8 HMM
  have hzz : z ≤ 4000 := by omega
  clear hl hn hz hst hlz hl9 htk hM hm9 hS
  have hsz : ((S.size : Nat) : Int) = (z : Int) := by omega
  have t1 : (M : Int).tmod 2 = 0 := by
    have h := tmod_nat M 2
    rw [e1] at h
    exact h
  have t2 : (M : Int) % 2 = 0 := by omega
  have t3 : decide ((0 : Int) ≤ (M : Int) - (z : Int)) = true := decide_eq_true (by omega)
  have t4 : decide ((M : Int) - (z : Int) < 2) = true := decide_eq_true (by omega)
  have hcase : (∃ k x, z = k + 1 ∧ x = 0 ∧ ∀ W, (Instr.index 9 (.string S) (.int .i64 (k : Int))).run Try.prog W = .ok (.int .u8 ((x : Nat) : Int)) W) ∨ (l9.getLast? ≠ some 0 ∧ (z = 0 ∨ ∃ k x, z = k + 1 ∧ x ≠ 0 ∧ ∀ W, (Instr.index 9 (.string S) (.int .i64 (k : Int))).run Try.prog W = .ok (.int .u8 ((x : Nat) : Int)) W)) := by
    rcases Nat.eq_zero_or_pos z with h | h
    · right
      refine ⟨?_, Or.inl h⟩
      obtain rfl : l9 = [] := List.length_eq_zero_iff.1 (by have := HLZ.out; omega)
      simp
    · obtain ⟨k, hk⟩ : ∃ k, z = k + 1 := ⟨z - 1, by omega⟩
      obtain ⟨x, h1, h2⟩ := hlast k hk
      by_cases hx : x = 0
      · exact Or.inl ⟨k, x, hk, hx, h2⟩
      · refine Or.inr ⟨?_, Or.inr ⟨k, x, hk, hx, h2⟩⟩
        rw [h1]
        simpa using hx
  clear hlast
  rcases hcase with ⟨k, x, hk, hx, hix⟩ | ⟨hla, hk | ⟨k, x, hk, hx, hix⟩⟩
  · subst hk
    have f1 : decide ((0 : Int) < ((k + 1 : Nat) : Int)) = true := decide_eq_true (by omega)
    have f2 : ((x : Int) == 0) = true := beq_iff_eq.2 (by omega)
    clear hx
    go_enter Try.func8, Try.ntmps8
    go_wp2_with (simp only [hsl])
    refine HO.out.mono ?_
    rintro e w1 ⟨g, c, rfl, hy1, hc1, hcm1, hg1⟩
    have HY1 := Lib.hid hy1
    have HG1 := Lib.hid hg1
    have i2 : ((k + 1 : Nat) : Int) ≤ (c : Int) := by omega
    clear hy1 hg1
    have HGA := HG1
    have HYA := HY1
    go_wp2_with (first | simp only [hix])
    refine (Known_any _).mono ?_
    rintro e w3 ⟨rfl, hg3⟩
    have HG3 := Lib.hid (grown_trans HGA.out hg3)
    have HY3 := Lib.hid (HYA.out.kept hg3)
    clear hg3
    have k3 := conv_by w3 (some ⟨g, 0, none⟩) (k + 1) c l9 HLZ.out (HE8.out w3 _ HY3.out)
    rw [HST.out] at k3
    go_wp2_with (simp only [k3])
    refine (Text_str w3 s n0 cap l HN.out (HL.out.kept HG3.out) HZ.out (by omega) hm).mono ?_
    rintro e w4 ⟨rfl, hg4⟩
    obtain ⟨T, hT⟩ : ∃ T, strOf (lettersL l) = T := ⟨_, rfl⟩
    rw [hT]
    have HT := Lib.hid hT
    have HG4 := Lib.hid (grown_trans HG3.out hg4)
    clear hg4 hT
    go_wp2_with fail
    refine (RText_str w4 s n0 cap l HN.out (HL.out.kept HG4.out) HZ.out (by omega) hm).mono ?_
    rintro e w5 ⟨rfl, hg5⟩
    rw [HT.out]
    have HG5 := Lib.hid (grown_trans HG4.out hg5)
    clear hg5
    go_wp2_with fail
    go_ret
    exact ⟨by simp, HG5.out⟩
  · have HLA := Lib.hid hla
    subst hk
    have hix : True := trivial
    clear hla
    go_enter Try.func8, Try.ntmps8
    go_wp2_with (simp only [hsl])
    refine HO.out.mono ?_
    rintro e w1 ⟨g, c, rfl, hy1, hc1, hcm1, hg1⟩
    have HY1 := Lib.hid hy1
    have HG1 := Lib.hid hg1
    have i2 : ((0 : Nat) : Int) ≤ (c : Int) := by omega
    clear hy1 hg1
    go_wp2_with (first | simp only [hix])
    refine (Text_str w1 (some ⟨g, 0, none⟩) M c m9 HMM.out HY1.out (fun e => by cases e) (by omega) hcm1).mono ?_
    rw [HLET.out HLA.out, HST.out]
    rintro e w2 ⟨rfl, hg2⟩
    have HGA := Lib.hid (grown_trans HG1.out hg2)
    have HYA := Lib.hid (HY1.out.kept hg2)
    clear hg2
    go_wp2_with (first | simp only [hix])
    refine (Known_any _).mono ?_
    rintro e w3 ⟨rfl, hg3⟩
    have HG3 := Lib.hid (grown_trans HGA.out hg3)
    have HY3 := Lib.hid (HYA.out.kept hg3)
    clear hg3
    have k3 := conv_by w3 (some ⟨g, 0, none⟩) (0) c l9 HLZ.out (HE8.out w3 _ HY3.out)
    rw [HST.out] at k3
    go_wp2_with (simp only [k3])
    refine (Text_str w3 s n0 cap l HN.out (HL.out.kept HG3.out) HZ.out (by omega) hm).mono ?_
    rintro e w4 ⟨rfl, hg4⟩
    obtain ⟨T, hT⟩ : ∃ T, strOf (lettersL l) = T := ⟨_, rfl⟩
    rw [hT]
    have HT := Lib.hid hT
    have HG4 := Lib.hid (grown_trans HG3.out hg4)
    clear hg4 hT
    go_wp2_with fail
    refine (RText_str w4 s n0 cap l HN.out (HL.out.kept HG4.out) HZ.out (by omega) hm).mono ?_
    rintro e w5 ⟨rfl, hg5⟩
    rw [HT.out]
    have HG5 := Lib.hid (grown_trans HG4.out hg5)
    clear hg5
    go_wp2_with fail
    go_ret
    exact ⟨by simp, HG5.out⟩
  · have HLA := Lib.hid hla
    subst hk
    have f1 : decide ((0 : Int) < ((k + 1 : Nat) : Int)) = true := decide_eq_true (by omega)
    have f2 : ((x : Int) == 0) = false := beq_eq_false_iff_ne.2 (by omega)
    clear hx hla
    go_enter Try.func8, Try.ntmps8
    go_wp2_with (simp only [hsl])
    refine HO.out.mono ?_
    rintro e w1 ⟨g, c, rfl, hy1, hc1, hcm1, hg1⟩
    have HY1 := Lib.hid hy1
    have HG1 := Lib.hid hg1
    have i2 : ((k + 1 : Nat) : Int) ≤ (c : Int) := by omega
    clear hy1 hg1
    go_wp2_with (first | simp only [hix])
    refine (Text_str w1 (some ⟨g, 0, none⟩) M c m9 HMM.out HY1.out (fun e => by cases e) (by omega) hcm1).mono ?_
    rw [HLET.out HLA.out, HST.out]
    rintro e w2 ⟨rfl, hg2⟩
    have HGA := Lib.hid (grown_trans HG1.out hg2)
    have HYA := Lib.hid (HY1.out.kept hg2)
    clear hg2
    go_wp2_with (first | simp only [hix])
    refine (Known_any _).mono ?_
    rintro e w3 ⟨rfl, hg3⟩
    have HG3 := Lib.hid (grown_trans HGA.out hg3)
    have HY3 := Lib.hid (HYA.out.kept hg3)
    clear hg3
    have k3 := conv_by w3 (some ⟨g, 0, none⟩) (k + 1) c l9 HLZ.out (HE8.out w3 _ HY3.out)
    rw [HST.out] at k3
    go_wp2_with (simp only [k3])
    refine (Text_str w3 s n0 cap l HN.out (HL.out.kept HG3.out) HZ.out (by omega) hm).mono ?_
    rintro e w4 ⟨rfl, hg4⟩
    obtain ⟨T, hT⟩ : ∃ T, strOf (lettersL l) = T := ⟨_, rfl⟩
    rw [hT]
    have HT := Lib.hid hT
    have HG4 := Lib.hid (grown_trans HG3.out hg4)
    clear hg4 hT
    go_wp2_with fail
    refine (RText_str w4 s n0 cap l HN.out (HL.out.kept HG4.out) HZ.out (by omega) hm).mono ?_
    rintro e w5 ⟨rfl, hg5⟩
    rw [HT.out]
    have HG5 := Lib.hid (grown_trans HG4.out hg5)
    clear hg5
    go_wp2_with fail
    go_ret
    exact ⟨by simp, HG5.out⟩
set_option maxHeartbeats 32000000 in
theorem rt_01 (w : World) (Z S : ByteArray) (s : Option Addr) (n0 n cap : Nat) (l0 l : List Nat) (hZ : ¬ 4000 < Z.size) (hZS : S = Z) (hb : 4000 < n0) (hbn : n = 4000) (hS : S.size ≤ 4000) (hn : l.length = n) (hl : BySl w s l) (hz : s = none → n = 0 ∧ cap = 0) (hc : n ≤ cap) (hn4 : n ≤ 4000) (hm : cap ≤ 9223372036854775807) (hn0 : n ≤ n0) (hc0 : n0 ≤ cap) :
    Calls Try.prog 8 #[.string Z, .slice s n0 cap] w (RetYes w) := by
  subst hZS
  have q1 : decide ((4000 : Int) < (S.size : Int)) = false := decide_eq_false (by omega)
  have hsl : True := trivial
  have q2 : decide ((4000 : Int) < (n0 : Int)) = true := decide_eq_true (by omega)
  subst hbn
  obtain ⟨a, rfl⟩ : ∃ a, s = some a := by
    cases s with
    | none => have := (hz rfl).1; omega
    | some a => exact ⟨a, rfl⟩
  have i1 : (4000 : Int) ≤ (cap : Int) := by omega
  obtain ⟨z, hz9⟩ : ∃ z, S.size = z := ⟨_, rfl⟩
  have HO := Lib.hid (OfText_any w S hS)
  have hlz := btl_len S
  have hst := strOf_btl S
  have hlast : ∀ k, z = k + 1 → ∃ x : Nat, (btl S).getLast? = some x ∧ ∀ W, (Instr.index 9 (.string S) (.int .i64 (k : Int))).run Try.prog W = .ok (.int .u8 (x : Int)) W := fun k hk => run_last S k (by omega)
  obtain ⟨l9, hl9⟩ : ∃ l9, btl S = l9 := ⟨_, rfl⟩
  rw [hl9] at HO hlz hst hlast
  rw [hz9] at hlz
  have HL := Lib.hid hl
  have HN := Lib.hid hn
  have HZ := Lib.hid hz
  have HST := Lib.hid hst
  have HLZ := Lib.hid hlz
  have hev := evenL_len l9
  obtain ⟨M, hM⟩ : ∃ M, (evenL l9).length = M := ⟨_, rfl⟩
  have htk := evenL_take l9
  rw [hM, hlz] at hev
  rw [hlz] at htk
  obtain ⟨e1, e2, e3⟩ := hev
  have HTK := Lib.hid htk
  have HLET := Lib.hid (fun h => evenL_letters (l := l9) h)
  have HE8 : Hid (∀ W s, BySl W s (evenL l9) → BySl W s l9) := Lib.hid (fun W s h => by rw [← htk]; exact h.take _)
  have HMM := Lib.hid hM
  unfold RetOT at HO
  rw [hM] at HO
  obtain ⟨m9, hm9⟩ : ∃ m9, evenL l9 = m9 := ⟨_, rfl⟩
  rw [hm9] at HO HTK HLET HE8 HMM
  have hzz : z ≤ 4000 := by omega
  clear hl hn hz hst hlz hl9 htk hM hm9 hS
  have hsz : ((S.size : Nat) : Int) = (z : Int) := by omega
  have t1 : (M : Int).tmod 2 = 0 := by
    have h := tmod_nat M 2
    rw [e1] at h
    exact h
  have t2 : (M : Int) % 2 = 0 := by omega
  have t3 : decide ((0 : Int) ≤ (M : Int) - (z : Int)) = true := decide_eq_true (by omega)
  have t4 : decide ((M : Int) - (z : Int) < 2) = true := decide_eq_true (by omega)
  have hcase : (∃ k x, z = k + 1 ∧ x = 0 ∧ ∀ W, (Instr.index 9 (.string S) (.int .i64 (k : Int))).run Try.prog W = .ok (.int .u8 ((x : Nat) : Int)) W) ∨ (l9.getLast? ≠ some 0 ∧ (z = 0 ∨ ∃ k x, z = k + 1 ∧ x ≠ 0 ∧ ∀ W, (Instr.index 9 (.string S) (.int .i64 (k : Int))).run Try.prog W = .ok (.int .u8 ((x : Nat) : Int)) W)) := by
    rcases Nat.eq_zero_or_pos z with h | h
    · right
      refine ⟨?_, Or.inl h⟩
      obtain rfl : l9 = [] := List.length_eq_zero_iff.1 (by have := HLZ.out; omega)
      simp
    · obtain ⟨k, hk⟩ : ∃ k, z = k + 1 := ⟨z - 1, by omega⟩
      obtain ⟨x, h1, h2⟩ := hlast k hk
      by_cases hx : x = 0
      · exact Or.inl ⟨k, x, hk, hx, h2⟩
      · refine Or.inr ⟨?_, Or.inr ⟨k, x, hk, hx, h2⟩⟩
        rw [h1]
        simpa using hx
  clear hlast
  rcases hcase with ⟨k, x, hk, hx, hix⟩ | ⟨hla, hk | ⟨k, x, hk, hx, hix⟩⟩
  · subst hk
    have f1 : decide ((0 : Int) < ((k + 1 : Nat) : Int)) = true := decide_eq_true (by omega)
    have f2 : ((x : Int) == 0) = true := beq_iff_eq.2 (by omega)
    clear hx
    go_enter Try.func8, Try.ntmps8
    go_wp2_with (simp only [hsl])
    refine HO.out.mono ?_
    rintro e w1 ⟨g, c, rfl, hy1, hc1, hcm1, hg1⟩
    have HY1 := Lib.hid hy1
    have HG1 := Lib.hid hg1
    have i2 : ((k + 1 : Nat) : Int) ≤ (c : Int) := by omega
    clear hy1 hg1
    have HGA := HG1
    have HYA := HY1
    go_wp2_with (first | simp only [hix])
    refine (Known_any _).mono ?_
    rintro e w3 ⟨rfl, hg3⟩
    have HG3 := Lib.hid (grown_trans HGA.out hg3)
    have HY3 := Lib.hid (HYA.out.kept hg3)
    clear hg3
    have k3 := conv_by w3 (some ⟨g, 0, none⟩) (k + 1) c l9 HLZ.out (HE8.out w3 _ HY3.out)
    rw [HST.out] at k3
    go_wp2_with (simp only [k3])
    refine (Text_str w3 (some a) 4000 cap l HN.out (HL.out.kept HG3.out) HZ.out (by omega) hm).mono ?_
    rintro e w4 ⟨rfl, hg4⟩
    obtain ⟨T, hT⟩ : ∃ T, strOf (lettersL l) = T := ⟨_, rfl⟩
    rw [hT]
    have HT := Lib.hid hT
    have HG4 := Lib.hid (grown_trans HG3.out hg4)
    clear hg4 hT
    go_wp2_with fail
    refine (RText_str w4 (some a) 4000 cap l HN.out (HL.out.kept HG4.out) HZ.out (by omega) hm).mono ?_
    rintro e w5 ⟨rfl, hg5⟩
    rw [HT.out]
    have HG5 := Lib.hid (grown_trans HG4.out hg5)
    clear hg5
    go_wp2_with fail
    go_ret
    exact ⟨by simp, HG5.out⟩
  · have HLA := Lib.hid hla
    subst hk
    have hix : True := trivial
    clear hla
    go_enter Try.func8, Try.ntmps8
    go_wp2_with (simp only [hsl])
    refine HO.out.mono ?_
    rintro e w1 ⟨g, c, rfl, hy1, hc1, hcm1, hg1⟩
    have HY1 := Lib.hid hy1
    have HG1 := Lib.hid hg1
    have i2 : ((0 : Nat) : Int) ≤ (c : Int) := by omega
    clear hy1 hg1
    go_wp2_with (first | simp only [hix])
    refine (Text_str w1 (some ⟨g, 0, none⟩) M c m9 HMM.out HY1.out (fun e => by cases e) (by omega) hcm1).mono ?_
    rw [HLET.out HLA.out, HST.out]
    rintro e w2 ⟨rfl, hg2⟩
    have HGA := Lib.hid (grown_trans HG1.out hg2)
    have HYA := Lib.hid (HY1.out.kept hg2)
    clear hg2
    go_wp2_with (first | simp only [hix])
    refine (Known_any _).mono ?_
    rintro e w3 ⟨rfl, hg3⟩
    have HG3 := Lib.hid (grown_trans HGA.out hg3)
    have HY3 := Lib.hid (HYA.out.kept hg3)
    clear hg3
    have k3 := conv_by w3 (some ⟨g, 0, none⟩) (0) c l9 HLZ.out (HE8.out w3 _ HY3.out)
    rw [HST.out] at k3
    go_wp2_with (simp only [k3])
    refine (Text_str w3 (some a) 4000 cap l HN.out (HL.out.kept HG3.out) HZ.out (by omega) hm).mono ?_
    rintro e w4 ⟨rfl, hg4⟩
    obtain ⟨T, hT⟩ : ∃ T, strOf (lettersL l) = T := ⟨_, rfl⟩
    rw [hT]
    have HT := Lib.hid hT
    have HG4 := Lib.hid (grown_trans HG3.out hg4)
    clear hg4 hT
    go_wp2_with fail
    refine (RText_str w4 (some a) 4000 cap l HN.out (HL.out.kept HG4.out) HZ.out (by omega) hm).mono ?_
    rintro e w5 ⟨rfl, hg5⟩
    rw [HT.out]
    have HG5 := Lib.hid (grown_trans HG4.out hg5)
    clear hg5
    go_wp2_with fail
    go_ret
    exact ⟨by simp, HG5.out⟩
  · have HLA := Lib.hid hla
    subst hk
    have f1 : decide ((0 : Int) < ((k + 1 : Nat) : Int)) = true := decide_eq_true (by omega)
    have f2 : ((x : Int) == 0) = false := beq_eq_false_iff_ne.2 (by omega)
    clear hx hla
    go_enter Try.func8, Try.ntmps8
    go_wp2_with (simp only [hsl])
    refine HO.out.mono ?_
    rintro e w1 ⟨g, c, rfl, hy1, hc1, hcm1, hg1⟩
    have HY1 := Lib.hid hy1
    have HG1 := Lib.hid hg1
    have i2 : ((k + 1 : Nat) : Int) ≤ (c : Int) := by omega
    clear hy1 hg1
    go_wp2_with (first | simp only [hix])
    refine (Text_str w1 (some ⟨g, 0, none⟩) M c m9 HMM.out HY1.out (fun e => by cases e) (by omega) hcm1).mono ?_
    rw [HLET.out HLA.out, HST.out]
    rintro e w2 ⟨rfl, hg2⟩
    have HGA := Lib.hid (grown_trans HG1.out hg2)
    have HYA := Lib.hid (HY1.out.kept hg2)
    clear hg2
    go_wp2_with (first | simp only [hix])
    refine (Known_any _).mono ?_
    rintro e w3 ⟨rfl, hg3⟩
    have HG3 := Lib.hid (grown_trans HGA.out hg3)
    have HY3 := Lib.hid (HYA.out.kept hg3)
    clear hg3
    have k3 := conv_by w3 (some ⟨g, 0, none⟩) (k + 1) c l9 HLZ.out (HE8.out w3 _ HY3.out)
    rw [HST.out] at k3
    go_wp2_with (simp only [k3])
    refine (Text_str w3 (some a) 4000 cap l HN.out (HL.out.kept HG3.out) HZ.out (by omega) hm).mono ?_
    rintro e w4 ⟨rfl, hg4⟩
    obtain ⟨T, hT⟩ : ∃ T, strOf (lettersL l) = T := ⟨_, rfl⟩
    rw [hT]
    have HT := Lib.hid hT
    have HG4 := Lib.hid (grown_trans HG3.out hg4)
    clear hg4 hT
    go_wp2_with fail
    refine (RText_str w4 (some a) 4000 cap l HN.out (HL.out.kept HG4.out) HZ.out (by omega) hm).mono ?_
    rintro e w5 ⟨rfl, hg5⟩
    rw [HT.out]
    have HG5 := Lib.hid (grown_trans HG4.out hg5)
    clear hg5
    go_wp2_with fail
    go_ret
    exact ⟨by simp, HG5.out⟩
set_option maxHeartbeats 32000000 in
theorem rt_10 (w : World) (Z S : ByteArray) (s : Option Addr) (n0 n cap : Nat) (l0 l : List Nat) (hZ : 4000 < Z.size) (hZS : Z.extract 0 4000 = S) (hb : ¬ 4000 < n0) (hbn : n0 = n) (hS : S.size ≤ 4000) (hn : l.length = n) (hl : BySl w s l) (hz : s = none → n = 0 ∧ cap = 0) (hc : n ≤ cap) (hn4 : n ≤ 4000) (hm : cap ≤ 9223372036854775807) (hn0 : n ≤ n0) (hc0 : n0 ≤ cap) :
    Calls Try.prog 8 #[.string Z, .slice s n0 cap] w (RetYes w) := by
  have q1 : decide ((4000 : Int) < (Z.size : Int)) = true := decide_eq_true (by omega)
  have hsl : True := trivial
  subst hbn
  have q2 : decide ((4000 : Int) < (n0 : Int)) = false := decide_eq_false (by omega)
  obtain ⟨z, hz9⟩ : ∃ z, S.size = z := ⟨_, rfl⟩
  have HO := Lib.hid (OfText_any w S hS)
  have hlz := btl_len S
  have hst := strOf_btl S
  have hlast : ∀ k, z = k + 1 → ∃ x : Nat, (btl S).getLast? = some x ∧ ∀ W, (Instr.index 9 (.string S) (.int .i64 (k : Int))).run Try.prog W = .ok (.int .u8 (x : Int)) W := fun k hk => run_last S k (by omega)
  obtain ⟨l9, hl9⟩ : ∃ l9, btl S = l9 := ⟨_, rfl⟩
  rw [hl9] at HO hlz hst hlast
  rw [hz9] at hlz
  have HL := Lib.hid hl
  have HN := Lib.hid hn
  have HZ := Lib.hid hz
  have HST := Lib.hid hst
  have HLZ := Lib.hid hlz
  have hev := evenL_len l9
  obtain ⟨M, hM⟩ : ∃ M, (evenL l9).length = M := ⟨_, rfl⟩
  have htk := evenL_take l9
  rw [hM, hlz] at hev
  rw [hlz] at htk
  obtain ⟨e1, e2, e3⟩ := hev
  have HTK := Lib.hid htk
  have HLET := Lib.hid (fun h => evenL_letters (l := l9) h)
  have HE8 : Hid (∀ W s, BySl W s (evenL l9) → BySl W s l9) := Lib.hid (fun W s h => by rw [← htk]; exact h.take _)
  have HMM := Lib.hid hM
  unfold RetOT at HO
  rw [hM] at HO
  obtain ⟨m9, hm9⟩ : ∃ m9, evenL l9 = m9 := ⟨_, rfl⟩
  rw [hm9] at HO HTK HLET HE8 HMM
  have hzz : z ≤ 4000 := by omega
  clear hl hn hz hst hlz hl9 htk hM hm9 hS
  have hsz : ((S.size : Nat) : Int) = (z : Int) := by omega
  have t1 : (M : Int).tmod 2 = 0 := by
    have h := tmod_nat M 2
    rw [e1] at h
    exact h
  have t2 : (M : Int) % 2 = 0 := by omega
  have t3 : decide ((0 : Int) ≤ (M : Int) - (z : Int)) = true := decide_eq_true (by omega)
  have t4 : decide ((M : Int) - (z : Int) < 2) = true := decide_eq_true (by omega)
  have hcase : (∃ k x, z = k + 1 ∧ x = 0 ∧ ∀ W, (Instr.index 9 (.string S) (.int .i64 (k : Int))).run Try.prog W = .ok (.int .u8 ((x : Nat) : Int)) W) ∨ (l9.getLast? ≠ some 0 ∧ (z = 0 ∨ ∃ k x, z = k + 1 ∧ x ≠ 0 ∧ ∀ W, (Instr.index 9 (.string S) (.int .i64 (k : Int))).run Try.prog W = .ok (.int .u8 ((x : Nat) : Int)) W)) := by
    rcases Nat.eq_zero_or_pos z with h | h
    · right
      refine ⟨?_, Or.inl h⟩
      obtain rfl : l9 = [] := List.length_eq_zero_iff.1 (by have := HLZ.out; omega)
      simp
    · obtain ⟨k, hk⟩ : ∃ k, z = k + 1 := ⟨z - 1, by omega⟩
      obtain ⟨x, h1, h2⟩ := hlast k hk
      by_cases hx : x = 0
      · exact Or.inl ⟨k, x, hk, hx, h2⟩
      · refine Or.inr ⟨?_, Or.inr ⟨k, x, hk, hx, h2⟩⟩
        rw [h1]
        simpa using hx
  clear hlast
  rcases hcase with ⟨k, x, hk, hx, hix⟩ | ⟨hla, hk | ⟨k, x, hk, hx, hix⟩⟩
  · subst hk
    have f1 : decide ((0 : Int) < ((k + 1 : Nat) : Int)) = true := decide_eq_true (by omega)
    have f2 : ((x : Int) == 0) = true := beq_iff_eq.2 (by omega)
    clear hx
    go_enter Try.func8, Try.ntmps8
    go_wp2_with (simp only [hsl])
    refine HO.out.mono ?_
    rintro e w1 ⟨g, c, rfl, hy1, hc1, hcm1, hg1⟩
    have HY1 := Lib.hid hy1
    have HG1 := Lib.hid hg1
    have i2 : ((k + 1 : Nat) : Int) ≤ (c : Int) := by omega
    clear hy1 hg1
    have HGA := HG1
    have HYA := HY1
    go_wp2_with (first | simp only [hix])
    refine (Known_any _).mono ?_
    rintro e w3 ⟨rfl, hg3⟩
    have HG3 := Lib.hid (grown_trans HGA.out hg3)
    have HY3 := Lib.hid (HYA.out.kept hg3)
    clear hg3
    have k3 := conv_by w3 (some ⟨g, 0, none⟩) (k + 1) c l9 HLZ.out (HE8.out w3 _ HY3.out)
    rw [HST.out] at k3
    go_wp2_with (simp only [k3])
    refine (Text_str w3 s n0 cap l HN.out (HL.out.kept HG3.out) HZ.out (by omega) hm).mono ?_
    rintro e w4 ⟨rfl, hg4⟩
    obtain ⟨T, hT⟩ : ∃ T, strOf (lettersL l) = T := ⟨_, rfl⟩
    rw [hT]
    have HT := Lib.hid hT
    have HG4 := Lib.hid (grown_trans HG3.out hg4)
    clear hg4 hT
    go_wp2_with fail
    refine (RText_str w4 s n0 cap l HN.out (HL.out.kept HG4.out) HZ.out (by omega) hm).mono ?_
    rintro e w5 ⟨rfl, hg5⟩
    rw [HT.out]
    have HG5 := Lib.hid (grown_trans HG4.out hg5)
    clear hg5
    go_wp2_with fail
    go_ret
    exact ⟨by simp, HG5.out⟩
  · have HLA := Lib.hid hla
    subst hk
    have hix : True := trivial
    clear hla
    go_enter Try.func8, Try.ntmps8
    go_wp2_with (simp only [hsl])
    refine HO.out.mono ?_
    rintro e w1 ⟨g, c, rfl, hy1, hc1, hcm1, hg1⟩
    have HY1 := Lib.hid hy1
    have HG1 := Lib.hid hg1
    have i2 : ((0 : Nat) : Int) ≤ (c : Int) := by omega
    clear hy1 hg1
    go_wp2_with (first | simp only [hix])
    refine (Text_str w1 (some ⟨g, 0, none⟩) M c m9 HMM.out HY1.out (fun e => by cases e) (by omega) hcm1).mono ?_
    rw [HLET.out HLA.out, HST.out]
    rintro e w2 ⟨rfl, hg2⟩
    have HGA := Lib.hid (grown_trans HG1.out hg2)
    have HYA := Lib.hid (HY1.out.kept hg2)
    clear hg2
    go_wp2_with (first | simp only [hix])
    refine (Known_any _).mono ?_
    rintro e w3 ⟨rfl, hg3⟩
    have HG3 := Lib.hid (grown_trans HGA.out hg3)
    have HY3 := Lib.hid (HYA.out.kept hg3)
    clear hg3
    have k3 := conv_by w3 (some ⟨g, 0, none⟩) (0) c l9 HLZ.out (HE8.out w3 _ HY3.out)
    rw [HST.out] at k3
    go_wp2_with (simp only [k3])
    refine (Text_str w3 s n0 cap l HN.out (HL.out.kept HG3.out) HZ.out (by omega) hm).mono ?_
    rintro e w4 ⟨rfl, hg4⟩
    obtain ⟨T, hT⟩ : ∃ T, strOf (lettersL l) = T := ⟨_, rfl⟩
    rw [hT]
    have HT := Lib.hid hT
    have HG4 := Lib.hid (grown_trans HG3.out hg4)
    clear hg4 hT
    go_wp2_with fail
    refine (RText_str w4 s n0 cap l HN.out (HL.out.kept HG4.out) HZ.out (by omega) hm).mono ?_
    rintro e w5 ⟨rfl, hg5⟩
    rw [HT.out]
    have HG5 := Lib.hid (grown_trans HG4.out hg5)
    clear hg5
    go_wp2_with fail
    go_ret
    exact ⟨by simp, HG5.out⟩
  · have HLA := Lib.hid hla
    subst hk
    have f1 : decide ((0 : Int) < ((k + 1 : Nat) : Int)) = true := decide_eq_true (by omega)
    have f2 : ((x : Int) == 0) = false := beq_eq_false_iff_ne.2 (by omega)
    clear hx hla
    go_enter Try.func8, Try.ntmps8
    go_wp2_with (simp only [hsl])
    refine HO.out.mono ?_
    rintro e w1 ⟨g, c, rfl, hy1, hc1, hcm1, hg1⟩
    have HY1 := Lib.hid hy1
    have HG1 := Lib.hid hg1
    have i2 : ((k + 1 : Nat) : Int) ≤ (c : Int) := by omega
    clear hy1 hg1
    go_wp2_with (first | simp only [hix])
    refine (Text_str w1 (some ⟨g, 0, none⟩) M c m9 HMM.out HY1.out (fun e => by cases e) (by omega) hcm1).mono ?_
    rw [HLET.out HLA.out, HST.out]
    rintro e w2 ⟨rfl, hg2⟩
    have HGA := Lib.hid (grown_trans HG1.out hg2)
    have HYA := Lib.hid (HY1.out.kept hg2)
    clear hg2
    go_wp2_with (first | simp only [hix])
    refine (Known_any _).mono ?_
    rintro e w3 ⟨rfl, hg3⟩
    have HG3 := Lib.hid (grown_trans HGA.out hg3)
    have HY3 := Lib.hid (HYA.out.kept hg3)
    clear hg3
    have k3 := conv_by w3 (some ⟨g, 0, none⟩) (k + 1) c l9 HLZ.out (HE8.out w3 _ HY3.out)
    rw [HST.out] at k3
    go_wp2_with (simp only [k3])
    refine (Text_str w3 s n0 cap l HN.out (HL.out.kept HG3.out) HZ.out (by omega) hm).mono ?_
    rintro e w4 ⟨rfl, hg4⟩
    obtain ⟨T, hT⟩ : ∃ T, strOf (lettersL l) = T := ⟨_, rfl⟩
    rw [hT]
    have HT := Lib.hid hT
    have HG4 := Lib.hid (grown_trans HG3.out hg4)
    clear hg4 hT
    go_wp2_with fail
    refine (RText_str w4 s n0 cap l HN.out (HL.out.kept HG4.out) HZ.out (by omega) hm).mono ?_
    rintro e w5 ⟨rfl, hg5⟩
    rw [HT.out]
    have HG5 := Lib.hid (grown_trans HG4.out hg5)
    clear hg5
    go_wp2_with fail
    go_ret
    exact ⟨by simp, HG5.out⟩
set_option maxHeartbeats 32000000 in
theorem rt_11 (w : World) (Z S : ByteArray) (s : Option Addr) (n0 n cap : Nat) (l0 l : List Nat) (hZ : 4000 < Z.size) (hZS : Z.extract 0 4000 = S) (hb : 4000 < n0) (hbn : n = 4000) (hS : S.size ≤ 4000) (hn : l.length = n) (hl : BySl w s l) (hz : s = none → n = 0 ∧ cap = 0) (hc : n ≤ cap) (hn4 : n ≤ 4000) (hm : cap ≤ 9223372036854775807) (hn0 : n ≤ n0) (hc0 : n0 ≤ cap) :
    Calls Try.prog 8 #[.string Z, .slice s n0 cap] w (RetYes w) := by
  have q1 : decide ((4000 : Int) < (Z.size : Int)) = true := decide_eq_true (by omega)
  have hsl : True := trivial
  have q2 : decide ((4000 : Int) < (n0 : Int)) = true := decide_eq_true (by omega)
  subst hbn
  obtain ⟨a, rfl⟩ : ∃ a, s = some a := by
    cases s with
    | none => have := (hz rfl).1; omega
    | some a => exact ⟨a, rfl⟩
  have i1 : (4000 : Int) ≤ (cap : Int) := by omega
  obtain ⟨z, hz9⟩ : ∃ z, S.size = z := ⟨_, rfl⟩
  have HO := Lib.hid (OfText_any w S hS)
  have hlz := btl_len S
  have hst := strOf_btl S
  have hlast : ∀ k, z = k + 1 → ∃ x : Nat, (btl S).getLast? = some x ∧ ∀ W, (Instr.index 9 (.string S) (.int .i64 (k : Int))).run Try.prog W = .ok (.int .u8 (x : Int)) W := fun k hk => run_last S k (by omega)
  obtain ⟨l9, hl9⟩ : ∃ l9, btl S = l9 := ⟨_, rfl⟩
  rw [hl9] at HO hlz hst hlast
  rw [hz9] at hlz
  have HL := Lib.hid hl
  have HN := Lib.hid hn
  have HZ := Lib.hid hz
  have HST := Lib.hid hst
  have HLZ := Lib.hid hlz
  have hev := evenL_len l9
  obtain ⟨M, hM⟩ : ∃ M, (evenL l9).length = M := ⟨_, rfl⟩
  have htk := evenL_take l9
  rw [hM, hlz] at hev
  rw [hlz] at htk
  obtain ⟨e1, e2, e3⟩ := hev
  have HTK := Lib.hid htk
  have HLET := Lib.hid (fun h => evenL_letters (l := l9) h)
  have HE8 : Hid (∀ W s, BySl W s (evenL l9) → BySl W s l9) := Lib.hid (fun W s h => by rw [← htk]; exact h.take _)
  have HMM := Lib.hid hM
  unfold RetOT at HO
  rw [hM] at HO
  obtain ⟨m9, hm9⟩ : ∃ m9, evenL l9 = m9 := ⟨_, rfl⟩
  rw [hm9] at HO HTK HLET HE8 HMM
  have hzz : z ≤ 4000 := by omega
  clear hl hn hz hst hlz hl9 htk hM hm9 hS
  have hsz : ((S.size : Nat) : Int) = (z : Int) := by omega
  have t1 : (M : Int).tmod 2 = 0 := by
    have h := tmod_nat M 2
    rw [e1] at h
    exact h
  have t2 : (M : Int) % 2 = 0 := by omega
  have t3 : decide ((0 : Int) ≤ (M : Int) - (z : Int)) = true := decide_eq_true (by omega)
  have t4 : decide ((M : Int) - (z : Int) < 2) = true := decide_eq_true (by omega)
  have hcase : (∃ k x, z = k + 1 ∧ x = 0 ∧ ∀ W, (Instr.index 9 (.string S) (.int .i64 (k : Int))).run Try.prog W = .ok (.int .u8 ((x : Nat) : Int)) W) ∨ (l9.getLast? ≠ some 0 ∧ (z = 0 ∨ ∃ k x, z = k + 1 ∧ x ≠ 0 ∧ ∀ W, (Instr.index 9 (.string S) (.int .i64 (k : Int))).run Try.prog W = .ok (.int .u8 ((x : Nat) : Int)) W)) := by
    rcases Nat.eq_zero_or_pos z with h | h
    · right
      refine ⟨?_, Or.inl h⟩
      obtain rfl : l9 = [] := List.length_eq_zero_iff.1 (by have := HLZ.out; omega)
      simp
    · obtain ⟨k, hk⟩ : ∃ k, z = k + 1 := ⟨z - 1, by omega⟩
      obtain ⟨x, h1, h2⟩ := hlast k hk
      by_cases hx : x = 0
      · exact Or.inl ⟨k, x, hk, hx, h2⟩
      · refine Or.inr ⟨?_, Or.inr ⟨k, x, hk, hx, h2⟩⟩
        rw [h1]
        simpa using hx
  clear hlast
  rcases hcase with ⟨k, x, hk, hx, hix⟩ | ⟨hla, hk | ⟨k, x, hk, hx, hix⟩⟩
  · subst hk
    have f1 : decide ((0 : Int) < ((k + 1 : Nat) : Int)) = true := decide_eq_true (by omega)
    have f2 : ((x : Int) == 0) = true := beq_iff_eq.2 (by omega)
    clear hx
    go_enter Try.func8, Try.ntmps8
    go_wp2_with (simp only [hsl])
    refine HO.out.mono ?_
    rintro e w1 ⟨g, c, rfl, hy1, hc1, hcm1, hg1⟩
    have HY1 := Lib.hid hy1
    have HG1 := Lib.hid hg1
    have i2 : ((k + 1 : Nat) : Int) ≤ (c : Int) := by omega
    clear hy1 hg1
    have HGA := HG1
    have HYA := HY1
    go_wp2_with (first | simp only [hix])
    refine (Known_any _).mono ?_
    rintro e w3 ⟨rfl, hg3⟩
    have HG3 := Lib.hid (grown_trans HGA.out hg3)
    have HY3 := Lib.hid (HYA.out.kept hg3)
    clear hg3
    have k3 := conv_by w3 (some ⟨g, 0, none⟩) (k + 1) c l9 HLZ.out (HE8.out w3 _ HY3.out)
    rw [HST.out] at k3
    go_wp2_with (simp only [k3])
    refine (Text_str w3 (some a) 4000 cap l HN.out (HL.out.kept HG3.out) HZ.out (by omega) hm).mono ?_
    rintro e w4 ⟨rfl, hg4⟩
    obtain ⟨T, hT⟩ : ∃ T, strOf (lettersL l) = T := ⟨_, rfl⟩
    rw [hT]
    have HT := Lib.hid hT
    have HG4 := Lib.hid (grown_trans HG3.out hg4)
    clear hg4 hT
    go_wp2_with fail
    refine (RText_str w4 (some a) 4000 cap l HN.out (HL.out.kept HG4.out) HZ.out (by omega) hm).mono ?_
    rintro e w5 ⟨rfl, hg5⟩
    rw [HT.out]
    have HG5 := Lib.hid (grown_trans HG4.out hg5)
    clear hg5
    go_wp2_with fail
    go_ret
    exact ⟨by simp, HG5.out⟩
  · have HLA := Lib.hid hla
    subst hk
    have hix : True := trivial
    clear hla
    go_enter Try.func8, Try.ntmps8
    go_wp2_with (simp only [hsl])
    refine HO.out.mono ?_
    rintro e w1 ⟨g, c, rfl, hy1, hc1, hcm1, hg1⟩
    have HY1 := Lib.hid hy1
    have HG1 := Lib.hid hg1
    have i2 : ((0 : Nat) : Int) ≤ (c : Int) := by omega
    clear hy1 hg1
    go_wp2_with (first | simp only [hix])
    refine (Text_str w1 (some ⟨g, 0, none⟩) M c m9 HMM.out HY1.out (fun e => by cases e) (by omega) hcm1).mono ?_
    rw [HLET.out HLA.out, HST.out]
    rintro e w2 ⟨rfl, hg2⟩
    have HGA := Lib.hid (grown_trans HG1.out hg2)
    have HYA := Lib.hid (HY1.out.kept hg2)
    clear hg2
    go_wp2_with (first | simp only [hix])
    refine (Known_any _).mono ?_
    rintro e w3 ⟨rfl, hg3⟩
    have HG3 := Lib.hid (grown_trans HGA.out hg3)
    have HY3 := Lib.hid (HYA.out.kept hg3)
    clear hg3
    have k3 := conv_by w3 (some ⟨g, 0, none⟩) (0) c l9 HLZ.out (HE8.out w3 _ HY3.out)
    rw [HST.out] at k3
    go_wp2_with (simp only [k3])
    refine (Text_str w3 (some a) 4000 cap l HN.out (HL.out.kept HG3.out) HZ.out (by omega) hm).mono ?_
    rintro e w4 ⟨rfl, hg4⟩
    obtain ⟨T, hT⟩ : ∃ T, strOf (lettersL l) = T := ⟨_, rfl⟩
    rw [hT]
    have HT := Lib.hid hT
    have HG4 := Lib.hid (grown_trans HG3.out hg4)
    clear hg4 hT
    go_wp2_with fail
    refine (RText_str w4 (some a) 4000 cap l HN.out (HL.out.kept HG4.out) HZ.out (by omega) hm).mono ?_
    rintro e w5 ⟨rfl, hg5⟩
    rw [HT.out]
    have HG5 := Lib.hid (grown_trans HG4.out hg5)
    clear hg5
    go_wp2_with fail
    go_ret
    exact ⟨by simp, HG5.out⟩
  · have HLA := Lib.hid hla
    subst hk
    have f1 : decide ((0 : Int) < ((k + 1 : Nat) : Int)) = true := decide_eq_true (by omega)
    have f2 : ((x : Int) == 0) = false := beq_eq_false_iff_ne.2 (by omega)
    clear hx hla
    go_enter Try.func8, Try.ntmps8
    go_wp2_with (simp only [hsl])
    refine HO.out.mono ?_
    rintro e w1 ⟨g, c, rfl, hy1, hc1, hcm1, hg1⟩
    have HY1 := Lib.hid hy1
    have HG1 := Lib.hid hg1
    have i2 : ((k + 1 : Nat) : Int) ≤ (c : Int) := by omega
    clear hy1 hg1
    go_wp2_with (first | simp only [hix])
    refine (Text_str w1 (some ⟨g, 0, none⟩) M c m9 HMM.out HY1.out (fun e => by cases e) (by omega) hcm1).mono ?_
    rw [HLET.out HLA.out, HST.out]
    rintro e w2 ⟨rfl, hg2⟩
    have HGA := Lib.hid (grown_trans HG1.out hg2)
    have HYA := Lib.hid (HY1.out.kept hg2)
    clear hg2
    go_wp2_with (first | simp only [hix])
    refine (Known_any _).mono ?_
    rintro e w3 ⟨rfl, hg3⟩
    have HG3 := Lib.hid (grown_trans HGA.out hg3)
    have HY3 := Lib.hid (HYA.out.kept hg3)
    clear hg3
    have k3 := conv_by w3 (some ⟨g, 0, none⟩) (k + 1) c l9 HLZ.out (HE8.out w3 _ HY3.out)
    rw [HST.out] at k3
    go_wp2_with (simp only [k3])
    refine (Text_str w3 (some a) 4000 cap l HN.out (HL.out.kept HG3.out) HZ.out (by omega) hm).mono ?_
    rintro e w4 ⟨rfl, hg4⟩
    obtain ⟨T, hT⟩ : ∃ T, strOf (lettersL l) = T := ⟨_, rfl⟩
    rw [hT]
    have HT := Lib.hid hT
    have HG4 := Lib.hid (grown_trans HG3.out hg4)
    clear hg4 hT
    go_wp2_with fail
    refine (RText_str w4 (some a) 4000 cap l HN.out (HL.out.kept HG4.out) HZ.out (by omega) hm).mono ?_
    rintro e w5 ⟨rfl, hg5⟩
    rw [HT.out]
    have HG5 := Lib.hid (grown_trans HG4.out hg5)
    clear hg5
    go_wp2_with fail
    go_ret
    exact ⟨by simp, HG5.out⟩
theorem recordTexts_walk (w : World) (Z : ByteArray) (hZ : Z.size ≤ maxLen) (s : Option Addr) (n cap : Nat) (l : List Nat) (hn : l.length = n) (hl : BySl w s l) (hz : s = none → n = 0 ∧ cap = 0) (hc : n ≤ cap) (hm : cap ≤ 9223372036854775807) :
    Calls Try.prog 8 #[.string Z, .slice s n cap] w (RetYes w) := by
  have hex : 4000 < Z.size → (Z.extract 0 4000).size ≤ 4000 := fun h => by rw [ByteArray.size_extract]; omega
  have hz2 : s = none → 4000 = 0 ∧ cap = 0 ∨ n = 0 := fun e => Or.inr (hz e).1
  by_cases h1 : 4000 < Z.size
  · by_cases h2 : 4000 < n
    · exact rt_11 w Z _ s n 4000 cap l (l.take 4000) h1 rfl h2 rfl (hex h1) (by rw [List.length_take]; omega) (hl.take _) (fun e => by have := (hz e).1; omega) (by omega) (Nat.le_refl _) hm (by omega) hc
    · exact rt_10 w Z _ s n n cap l l h1 rfl h2 rfl (hex h1) hn hl hz hc (by omega) hm (Nat.le_refl _) hc
  · by_cases h2 : 4000 < n
    · exact rt_01 w Z _ s n 4000 cap l (l.take 4000) h1 rfl h2 rfl (by omega) (by rw [List.length_take]; omega) (hl.take _) (fun e => by have := (hz e).1; omega) (by omega) (Nat.le_refl _) hm (by omega) hc
    · exact rt_00 w Z _ s n n cap l l h1 rfl h2 rfl (by omega) hn hl hz hc (by omega) hm (Nat.le_refl _) hc
end Go.Proofs.Yteienakimdpfhaa
