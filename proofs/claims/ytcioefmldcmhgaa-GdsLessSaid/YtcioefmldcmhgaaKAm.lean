/- Records: the document's words: among, name, text. -/
import Derived.Test.YtcioefmldcmhgaaKSg
namespace Go.Proofs.Ytcioefmldcmhgaa
open Go.RowKit
set_option maxRecDepth 100000
set_option linter.unusedVariables false
set_option linter.unusedSimpArgs false

theorem by_new (w : World) (l : List Nat) (h : ∀ x ∈ l, x < 256) : BySl (w.alloc (.cells (bvs l).toArray 5)) (some ⟨w.heap.size, 0, none⟩) l := by
  refine ByBlk.sl ⟨⟨_, heap_new w _ _ rfl, fun i hi => ?_⟩, h⟩
  simp [bvs, List.getElem?_eq_getElem hi]
theorem get_at {l : List Nat} {k : Nat} (h : k < l.length) : l.getD k 0 = l[k] := by rw [List.getD_eq_getElem?_getD, List.getElem?_eq_getElem h]; rfl
set_option maxHeartbeats 16000000 in
theorem Among_any (w : World) (k : Nat) (a : Addr) (n cap : Nat) (l : List Nat) (hn : l.length = n) (hl : BySl w (some a) l) (hm : n ≤ 9223372036854775807) :
    Calls Try.prog 81 #[.int .u8 (k : Int), .slice (some a) n cap] w (RetB w (decide (k ∈ l))) := by
  have HL := Lib.hid hl
  have HN := Lib.hid hn
  clear hl hn
  go_enter Try.func81, Try.ntmps81
  go_wp2_with fail
  go_loop [5] (fun i => ∃ j : Nat, j ≤ n ∧ Hid (∀ i, i < j → l.getD i 0 ≠ k) ∧ i = .int .i64 (j : Int)) (fun i => n - (intOf i).toNat)
  case atStart => exact ⟨0, Nat.zero_le _, Lib.hid (fun i hi => by omega), rfl⟩
  case round =>
    obtain ⟨j, hj, HZ, rfl⟩ := hrel
    by_cases hlt : j < n
    · have f3 : decide ((j : Int) < (n : Int)) = true := decide_eq_true (by omega)
      have hcell := HL.out.get j (by rw [HN.out]; exact hlt)
      have hjl : j < l.length := by rw [HN.out]; exact hlt
      obtain ⟨y, hy⟩ : ∃ y, l.getD j 0 = y := ⟨_, rfl⟩
      rw [hy] at hcell
      have HY := Lib.hid hy
      have HJ := Lib.hid hjl
      clear hy hjl
      by_cases hy0 : y = k
      · have f4 : ((y : Int) == (k : Int)) = true := beq_iff_eq.2 (by omega)
        have hF : Hid (RetB w (decide (k ∈ l)) (.returned (.bool true)) w) := Lib.hid ⟨by rw [decide_eq_true (by rw [← hy0, ← HY.out, get_at HJ.out]; exact List.getElem_mem _)], grown_refl _ _⟩
        clear hy0
        go_wp2_with fail
        go_ret
        exact hF.out
      · have f4 : ((y : Int) == (k : Int)) = false := beq_eq_false_iff_ne.2 (by omega)
        have HY0 := Lib.hid hy0
        clear hy0
        go_wp2_with fail
        go_round
        case rel => exact ⟨j + 1, by omega, Lib.hid (fun i hi => by
          rcases Nat.lt_or_ge i j with h | h
          · exact HZ.out i h
          · rw [show i = j from by omega, HY.out]; exact HY0.out), by go_num⟩
        case measure => simp [intOf]; omega
    · have f3 : decide ((j : Int) < (n : Int)) = false := decide_eq_false (by omega)
      have hF : Hid (RetB w (decide (k ∈ l)) (.returned (.bool false)) w) := Lib.hid ⟨by
        rw [decide_eq_false (fun h => by
          obtain ⟨i, hi, he⟩ := List.getElem_of_mem h
          have := HZ.out i (by have := HN.out; omega)
          rw [get_at hi, he] at this
          exact this rfl)], grown_refl _ _⟩
      go_wp2_with fail
      go_ret
      exact hF.out
set_option maxHeartbeats 16000000 in
theorem Name_0 (w : World) (x : Nat) (h1 : 0 ≤ x) (h2 : x ≤ 35) : Calls Try.prog 87 #[.int .u8 (x : Int)] w (RetB w false) := by
  have a0 : decide ((65 : Int) ≤ (x : Int)) = false := decide_eq_false (by omega)
  have a1 : decide ((97 : Int) ≤ (x : Int)) = false := decide_eq_false (by omega)
  have a2 : decide ((48 : Int) ≤ (x : Int)) = false := decide_eq_false (by omega)
  have c0 : decide ((x : Int) ≤ 90) = true := decide_eq_true (by omega)
  have c1 : decide ((x : Int) ≤ 122) = true := decide_eq_true (by omega)
  have c2 : decide ((x : Int) ≤ 57) = true := decide_eq_true (by omega)
  have e0 : ((x : Int) == 95) = false := beq_eq_false_iff_ne.2 (by omega)
  have e1 : ((x : Int) == 63) = false := beq_eq_false_iff_ne.2 (by omega)
  have e2 : ((x : Int) == 36) = false := beq_eq_false_iff_ne.2 (by omega)
  clear h1 h2
  go_enter Try.func87, Try.ntmps87
  go_wp2_with fail
  go_ret
  exact ⟨rfl, grown_refl _ _⟩
set_option maxHeartbeats 16000000 in
theorem Name_36 (w : World) (x : Nat) (h1 : 36 ≤ x) (h2 : x ≤ 36) : Calls Try.prog 87 #[.int .u8 (x : Int)] w (RetB w true) := by
  have a0 : decide ((65 : Int) ≤ (x : Int)) = false := decide_eq_false (by omega)
  have a1 : decide ((97 : Int) ≤ (x : Int)) = false := decide_eq_false (by omega)
  have a2 : decide ((48 : Int) ≤ (x : Int)) = false := decide_eq_false (by omega)
  have c0 : decide ((x : Int) ≤ 90) = true := decide_eq_true (by omega)
  have c1 : decide ((x : Int) ≤ 122) = true := decide_eq_true (by omega)
  have c2 : decide ((x : Int) ≤ 57) = true := decide_eq_true (by omega)
  have e0 : ((x : Int) == 95) = false := beq_eq_false_iff_ne.2 (by omega)
  have e1 : ((x : Int) == 63) = false := beq_eq_false_iff_ne.2 (by omega)
  have e2 : ((x : Int) == 36) = true := beq_iff_eq.2 (by omega)
  clear h1 h2
  go_enter Try.func87, Try.ntmps87
  go_wp2_with fail
  go_ret
  exact ⟨rfl, grown_refl _ _⟩
set_option maxHeartbeats 16000000 in
theorem Name_37 (w : World) (x : Nat) (h1 : 37 ≤ x) (h2 : x ≤ 47) : Calls Try.prog 87 #[.int .u8 (x : Int)] w (RetB w false) := by
  have a0 : decide ((65 : Int) ≤ (x : Int)) = false := decide_eq_false (by omega)
  have a1 : decide ((97 : Int) ≤ (x : Int)) = false := decide_eq_false (by omega)
  have a2 : decide ((48 : Int) ≤ (x : Int)) = false := decide_eq_false (by omega)
  have c0 : decide ((x : Int) ≤ 90) = true := decide_eq_true (by omega)
  have c1 : decide ((x : Int) ≤ 122) = true := decide_eq_true (by omega)
  have c2 : decide ((x : Int) ≤ 57) = true := decide_eq_true (by omega)
  have e0 : ((x : Int) == 95) = false := beq_eq_false_iff_ne.2 (by omega)
  have e1 : ((x : Int) == 63) = false := beq_eq_false_iff_ne.2 (by omega)
  have e2 : ((x : Int) == 36) = false := beq_eq_false_iff_ne.2 (by omega)
  clear h1 h2
  go_enter Try.func87, Try.ntmps87
  go_wp2_with fail
  go_ret
  exact ⟨rfl, grown_refl _ _⟩
set_option maxHeartbeats 16000000 in
theorem Name_48 (w : World) (x : Nat) (h1 : 48 ≤ x) (h2 : x ≤ 57) : Calls Try.prog 87 #[.int .u8 (x : Int)] w (RetB w true) := by
  have a0 : decide ((65 : Int) ≤ (x : Int)) = false := decide_eq_false (by omega)
  have a1 : decide ((97 : Int) ≤ (x : Int)) = false := decide_eq_false (by omega)
  have a2 : decide ((48 : Int) ≤ (x : Int)) = true := decide_eq_true (by omega)
  have c0 : decide ((x : Int) ≤ 90) = true := decide_eq_true (by omega)
  have c1 : decide ((x : Int) ≤ 122) = true := decide_eq_true (by omega)
  have c2 : decide ((x : Int) ≤ 57) = true := decide_eq_true (by omega)
  have e0 : ((x : Int) == 95) = false := beq_eq_false_iff_ne.2 (by omega)
  have e1 : ((x : Int) == 63) = false := beq_eq_false_iff_ne.2 (by omega)
  have e2 : ((x : Int) == 36) = false := beq_eq_false_iff_ne.2 (by omega)
  clear h1 h2
  go_enter Try.func87, Try.ntmps87
  go_wp2_with fail
  go_ret
  exact ⟨rfl, grown_refl _ _⟩
set_option maxHeartbeats 16000000 in
theorem Name_58 (w : World) (x : Nat) (h1 : 58 ≤ x) (h2 : x ≤ 62) : Calls Try.prog 87 #[.int .u8 (x : Int)] w (RetB w false) := by
  have a0 : decide ((65 : Int) ≤ (x : Int)) = false := decide_eq_false (by omega)
  have a1 : decide ((97 : Int) ≤ (x : Int)) = false := decide_eq_false (by omega)
  have a2 : decide ((48 : Int) ≤ (x : Int)) = true := decide_eq_true (by omega)
  have c0 : decide ((x : Int) ≤ 90) = true := decide_eq_true (by omega)
  have c1 : decide ((x : Int) ≤ 122) = true := decide_eq_true (by omega)
  have c2 : decide ((x : Int) ≤ 57) = false := decide_eq_false (by omega)
  have e0 : ((x : Int) == 95) = false := beq_eq_false_iff_ne.2 (by omega)
  have e1 : ((x : Int) == 63) = false := beq_eq_false_iff_ne.2 (by omega)
  have e2 : ((x : Int) == 36) = false := beq_eq_false_iff_ne.2 (by omega)
  clear h1 h2
  go_enter Try.func87, Try.ntmps87
  go_wp2_with fail
  go_ret
  exact ⟨rfl, grown_refl _ _⟩
set_option maxHeartbeats 16000000 in
theorem Name_63 (w : World) (x : Nat) (h1 : 63 ≤ x) (h2 : x ≤ 63) : Calls Try.prog 87 #[.int .u8 (x : Int)] w (RetB w true) := by
  have a0 : decide ((65 : Int) ≤ (x : Int)) = false := decide_eq_false (by omega)
  have a1 : decide ((97 : Int) ≤ (x : Int)) = false := decide_eq_false (by omega)
  have a2 : decide ((48 : Int) ≤ (x : Int)) = true := decide_eq_true (by omega)
  have c0 : decide ((x : Int) ≤ 90) = true := decide_eq_true (by omega)
  have c1 : decide ((x : Int) ≤ 122) = true := decide_eq_true (by omega)
  have c2 : decide ((x : Int) ≤ 57) = false := decide_eq_false (by omega)
  have e0 : ((x : Int) == 95) = false := beq_eq_false_iff_ne.2 (by omega)
  have e1 : ((x : Int) == 63) = true := beq_iff_eq.2 (by omega)
  have e2 : ((x : Int) == 36) = false := beq_eq_false_iff_ne.2 (by omega)
  clear h1 h2
  go_enter Try.func87, Try.ntmps87
  go_wp2_with fail
  go_ret
  exact ⟨rfl, grown_refl _ _⟩
set_option maxHeartbeats 16000000 in
theorem Name_64 (w : World) (x : Nat) (h1 : 64 ≤ x) (h2 : x ≤ 64) : Calls Try.prog 87 #[.int .u8 (x : Int)] w (RetB w false) := by
  have a0 : decide ((65 : Int) ≤ (x : Int)) = false := decide_eq_false (by omega)
  have a1 : decide ((97 : Int) ≤ (x : Int)) = false := decide_eq_false (by omega)
  have a2 : decide ((48 : Int) ≤ (x : Int)) = true := decide_eq_true (by omega)
  have c0 : decide ((x : Int) ≤ 90) = true := decide_eq_true (by omega)
  have c1 : decide ((x : Int) ≤ 122) = true := decide_eq_true (by omega)
  have c2 : decide ((x : Int) ≤ 57) = false := decide_eq_false (by omega)
  have e0 : ((x : Int) == 95) = false := beq_eq_false_iff_ne.2 (by omega)
  have e1 : ((x : Int) == 63) = false := beq_eq_false_iff_ne.2 (by omega)
  have e2 : ((x : Int) == 36) = false := beq_eq_false_iff_ne.2 (by omega)
  clear h1 h2
  go_enter Try.func87, Try.ntmps87
  go_wp2_with fail
  go_ret
  exact ⟨rfl, grown_refl _ _⟩
set_option maxHeartbeats 16000000 in
theorem Name_65 (w : World) (x : Nat) (h1 : 65 ≤ x) (h2 : x ≤ 90) : Calls Try.prog 87 #[.int .u8 (x : Int)] w (RetB w true) := by
  have a0 : decide ((65 : Int) ≤ (x : Int)) = true := decide_eq_true (by omega)
  have a1 : decide ((97 : Int) ≤ (x : Int)) = false := decide_eq_false (by omega)
  have a2 : decide ((48 : Int) ≤ (x : Int)) = true := decide_eq_true (by omega)
  have c0 : decide ((x : Int) ≤ 90) = true := decide_eq_true (by omega)
  have c1 : decide ((x : Int) ≤ 122) = true := decide_eq_true (by omega)
  have c2 : decide ((x : Int) ≤ 57) = false := decide_eq_false (by omega)
  have e0 : ((x : Int) == 95) = false := beq_eq_false_iff_ne.2 (by omega)
  have e1 : ((x : Int) == 63) = false := beq_eq_false_iff_ne.2 (by omega)
  have e2 : ((x : Int) == 36) = false := beq_eq_false_iff_ne.2 (by omega)
  clear h1 h2
  go_enter Try.func87, Try.ntmps87
  go_wp2_with fail
  go_ret
  exact ⟨rfl, grown_refl _ _⟩
set_option maxHeartbeats 16000000 in
theorem Name_91 (w : World) (x : Nat) (h1 : 91 ≤ x) (h2 : x ≤ 94) : Calls Try.prog 87 #[.int .u8 (x : Int)] w (RetB w false) := by
  have a0 : decide ((65 : Int) ≤ (x : Int)) = true := decide_eq_true (by omega)
  have a1 : decide ((97 : Int) ≤ (x : Int)) = false := decide_eq_false (by omega)
  have a2 : decide ((48 : Int) ≤ (x : Int)) = true := decide_eq_true (by omega)
  have c0 : decide ((x : Int) ≤ 90) = false := decide_eq_false (by omega)
  have c1 : decide ((x : Int) ≤ 122) = true := decide_eq_true (by omega)
  have c2 : decide ((x : Int) ≤ 57) = false := decide_eq_false (by omega)
  have e0 : ((x : Int) == 95) = false := beq_eq_false_iff_ne.2 (by omega)
  have e1 : ((x : Int) == 63) = false := beq_eq_false_iff_ne.2 (by omega)
  have e2 : ((x : Int) == 36) = false := beq_eq_false_iff_ne.2 (by omega)
  clear h1 h2
  go_enter Try.func87, Try.ntmps87
  go_wp2_with fail
  go_ret
  exact ⟨rfl, grown_refl _ _⟩
set_option maxHeartbeats 16000000 in
theorem Name_95 (w : World) (x : Nat) (h1 : 95 ≤ x) (h2 : x ≤ 95) : Calls Try.prog 87 #[.int .u8 (x : Int)] w (RetB w true) := by
  have a0 : decide ((65 : Int) ≤ (x : Int)) = true := decide_eq_true (by omega)
  have a1 : decide ((97 : Int) ≤ (x : Int)) = false := decide_eq_false (by omega)
  have a2 : decide ((48 : Int) ≤ (x : Int)) = true := decide_eq_true (by omega)
  have c0 : decide ((x : Int) ≤ 90) = false := decide_eq_false (by omega)
  have c1 : decide ((x : Int) ≤ 122) = true := decide_eq_true (by omega)
  have c2 : decide ((x : Int) ≤ 57) = false := decide_eq_false (by omega)
  have e0 : ((x : Int) == 95) = true := beq_iff_eq.2 (by omega)
  have e1 : ((x : Int) == 63) = false := beq_eq_false_iff_ne.2 (by omega)
  have e2 : ((x : Int) == 36) = false := beq_eq_false_iff_ne.2 (by omega)
  clear h1 h2
  go_enter Try.func87, Try.ntmps87
  go_wp2_with fail
  go_ret
  exact ⟨rfl, grown_refl _ _⟩
set_option maxHeartbeats 16000000 in
theorem Name_96 (w : World) (x : Nat) (h1 : 96 ≤ x) (h2 : x ≤ 96) : Calls Try.prog 87 #[.int .u8 (x : Int)] w (RetB w false) := by
  have a0 : decide ((65 : Int) ≤ (x : Int)) = true := decide_eq_true (by omega)
  have a1 : decide ((97 : Int) ≤ (x : Int)) = false := decide_eq_false (by omega)
  have a2 : decide ((48 : Int) ≤ (x : Int)) = true := decide_eq_true (by omega)
  have c0 : decide ((x : Int) ≤ 90) = false := decide_eq_false (by omega)
  have c1 : decide ((x : Int) ≤ 122) = true := decide_eq_true (by omega)
  have c2 : decide ((x : Int) ≤ 57) = false := decide_eq_false (by omega)
  have e0 : ((x : Int) == 95) = false := beq_eq_false_iff_ne.2 (by omega)
  have e1 : ((x : Int) == 63) = false := beq_eq_false_iff_ne.2 (by omega)
  have e2 : ((x : Int) == 36) = false := beq_eq_false_iff_ne.2 (by omega)
  clear h1 h2
  go_enter Try.func87, Try.ntmps87
  go_wp2_with fail
  go_ret
  exact ⟨rfl, grown_refl _ _⟩
set_option maxHeartbeats 16000000 in
theorem Name_97 (w : World) (x : Nat) (h1 : 97 ≤ x) (h2 : x ≤ 122) : Calls Try.prog 87 #[.int .u8 (x : Int)] w (RetB w true) := by
  have a0 : decide ((65 : Int) ≤ (x : Int)) = true := decide_eq_true (by omega)
  have a1 : decide ((97 : Int) ≤ (x : Int)) = true := decide_eq_true (by omega)
  have a2 : decide ((48 : Int) ≤ (x : Int)) = true := decide_eq_true (by omega)
  have c0 : decide ((x : Int) ≤ 90) = false := decide_eq_false (by omega)
  have c1 : decide ((x : Int) ≤ 122) = true := decide_eq_true (by omega)
  have c2 : decide ((x : Int) ≤ 57) = false := decide_eq_false (by omega)
  have e0 : ((x : Int) == 95) = false := beq_eq_false_iff_ne.2 (by omega)
  have e1 : ((x : Int) == 63) = false := beq_eq_false_iff_ne.2 (by omega)
  have e2 : ((x : Int) == 36) = false := beq_eq_false_iff_ne.2 (by omega)
  clear h1 h2
  go_enter Try.func87, Try.ntmps87
  go_wp2_with fail
  go_ret
  exact ⟨rfl, grown_refl _ _⟩
set_option maxHeartbeats 16000000 in
theorem Name_123 (w : World) (x : Nat) (h1 : 123 ≤ x) (h2 : x ≤ 255) : Calls Try.prog 87 #[.int .u8 (x : Int)] w (RetB w false) := by
  have a0 : decide ((65 : Int) ≤ (x : Int)) = true := decide_eq_true (by omega)
  have a1 : decide ((97 : Int) ≤ (x : Int)) = true := decide_eq_true (by omega)
  have a2 : decide ((48 : Int) ≤ (x : Int)) = true := decide_eq_true (by omega)
  have c0 : decide ((x : Int) ≤ 90) = false := decide_eq_false (by omega)
  have c1 : decide ((x : Int) ≤ 122) = false := decide_eq_false (by omega)
  have c2 : decide ((x : Int) ≤ 57) = false := decide_eq_false (by omega)
  have e0 : ((x : Int) == 95) = false := beq_eq_false_iff_ne.2 (by omega)
  have e1 : ((x : Int) == 63) = false := beq_eq_false_iff_ne.2 (by omega)
  have e2 : ((x : Int) == 36) = false := beq_eq_false_iff_ne.2 (by omega)
  clear h1 h2
  go_enter Try.func87, Try.ntmps87
  go_wp2_with fail
  go_ret
  exact ⟨rfl, grown_refl _ _⟩
theorem Name_any (w : World) (x : Nat) (hx : x < 256) : Calls Try.prog 87 #[.int .u8 (x : Int)] w (RetB w (nameB x)) := by
  by_cases h35 : x ≤ 35
  · have e : nameB x = false := by unfold nameB; exact decide_eq_false (by omega)
    rw [e]; exact Name_0 w x (by omega) h35
  by_cases h36 : x ≤ 36
  · have e : nameB x = true := by unfold nameB; exact decide_eq_true (by omega)
    rw [e]; exact Name_36 w x (by omega) h36
  by_cases h47 : x ≤ 47
  · have e : nameB x = false := by unfold nameB; exact decide_eq_false (by omega)
    rw [e]; exact Name_37 w x (by omega) h47
  by_cases h57 : x ≤ 57
  · have e : nameB x = true := by unfold nameB; exact decide_eq_true (by omega)
    rw [e]; exact Name_48 w x (by omega) h57
  by_cases h62 : x ≤ 62
  · have e : nameB x = false := by unfold nameB; exact decide_eq_false (by omega)
    rw [e]; exact Name_58 w x (by omega) h62
  by_cases h63 : x ≤ 63
  · have e : nameB x = true := by unfold nameB; exact decide_eq_true (by omega)
    rw [e]; exact Name_63 w x (by omega) h63
  by_cases h64 : x ≤ 64
  · have e : nameB x = false := by unfold nameB; exact decide_eq_false (by omega)
    rw [e]; exact Name_64 w x (by omega) h64
  by_cases h90 : x ≤ 90
  · have e : nameB x = true := by unfold nameB; exact decide_eq_true (by omega)
    rw [e]; exact Name_65 w x (by omega) h90
  by_cases h94 : x ≤ 94
  · have e : nameB x = false := by unfold nameB; exact decide_eq_false (by omega)
    rw [e]; exact Name_91 w x (by omega) h94
  by_cases h95 : x ≤ 95
  · have e : nameB x = true := by unfold nameB; exact decide_eq_true (by omega)
    rw [e]; exact Name_95 w x (by omega) h95
  by_cases h96 : x ≤ 96
  · have e : nameB x = false := by unfold nameB; exact decide_eq_false (by omega)
    rw [e]; exact Name_96 w x (by omega) h96
  by_cases h122 : x ≤ 122
  · have e : nameB x = true := by unfold nameB; exact decide_eq_true (by omega)
    rw [e]; exact Name_97 w x (by omega) h122
  by_cases h255 : x ≤ 255
  · have e : nameB x = false := by unfold nameB; exact decide_eq_false (by omega)
    rw [e]; exact Name_123 w x (by omega) h255
  omega
theorem text_bad {l : List Nat} {most : Nat} {names : Bool} (h : l.length = 0 ∨ l.length % 2 ≠ 0 ∨ most < l.length) : textB l most names = false := by
  unfold textB
  rcases h with h | h | h
  · rw [decide_eq_false (by omega)]; rfl
  · rw [decide_eq_false (p := l.length % 2 = 0) (by omega)]; simp
  · rw [decide_eq_false (p := l.length ≤ most) (by omega)]; simp
theorem text_all {l : List Nat} {most : Nat} {names : Bool} (h0 : l.length ≠ 0) (h1 : l.length % 2 = 0) (h2 : l.length ≤ most) : textB l most names = (List.range l.length).all (placeB names l) := by
  unfold textB
  rw [decide_eq_true h0, decide_eq_true h1, decide_eq_true h2]; rfl
theorem text_no {l : List Nat} {most j : Nat} {names : Bool} (h0 : l.length ≠ 0) (h1 : l.length % 2 = 0) (h2 : l.length ≤ most) (hj : j < l.length) (h : placeB names l j = false) : textB l most names = false := by
  rw [text_all h0 h1 h2, List.all_eq_false]
  exact ⟨j, List.mem_range.2 hj, by rw [h]; decide⟩
theorem text_yes {l : List Nat} {most : Nat} {names : Bool} (h0 : l.length ≠ 0) (h1 : l.length % 2 = 0) (h2 : l.length ≤ most) (h : ∀ j, j < l.length → placeB names l j = true) : textB l most names = true := by
  rw [text_all h0 h1 h2, List.all_eq_true]
  intro j hj
  exact h j (List.mem_range.1 hj)
set_option maxHeartbeats 16000000 in
theorem Text_any (w : World) (s : Option Addr) (n cap most : Nat) (l : List Nat) (hn : l.length = n) (hl : BySl w s l) (hm : n ≤ 9223372036854775807) (hmost : most ≤ 9223372036854775807) :
    Calls Try.prog 82 #[.slice s n cap, .int .i64 (most : Int), .bool false] w (RetB w (textB l most false)) := by
  have HL := Lib.hid hl
  have HN := Lib.hid hn
  have HQ : Hid (∀ c : Bool, c = textB l most false → ∀ W, w.grownBy W none → RetB w (textB l most false) (.returned (.bool c)) W) := Lib.hid (fun c hc W hW => ⟨by rw [hc], hW⟩)
  obtain ⟨P, hP⟩ : ∃ P, RetB w (textB l most false) = P := ⟨_, rfl⟩
  rw [hP] at HQ ⊢
  clear hP
  have q1 := tmod_nat n 2
  have q2 : ((n : Int) % 2) = ((n % 2 : Nat) : Int) := by omega
  by_cases hb0 : n = 0
  · have f1 : ((n : Int) == 0) = true := beq_iff_eq.2 (by omega)
    have hF := Lib.hid (text_bad (l := l) (most := most) (names := false) (Or.inl (by omega)))
    clear hl hn hb0
    go_enter Try.func82, Try.ntmps82
    go_wp2_with fail
    exact HQ.out _ hF.out.symm _ (grown_refl _ _)
  have f1 : ((n : Int) == 0) = false := beq_eq_false_iff_ne.2 (by omega)
  by_cases hb1 : n % 2 = 0
  · have f2 : (((n % 2 : Nat) : Int) != 0) = false := by rw [hb1]; rfl
    by_cases hb2 : most < n
    · have f3 : decide (most < n) = true := decide_eq_true hb2
      have hF := Lib.hid (text_bad (l := l) (most := most) (names := false) (Or.inr (Or.inr (by omega))))
      clear hl hn hb0
      obtain ⟨R, hR⟩ : ∃ R, n % 2 = R := ⟨_, rfl⟩
      rw [hR] at q1 q2 f2
      clear hR hb1 hb2
      go_enter Try.func82, Try.ntmps82
      go_wp2_with fail
      exact HQ.out _ hF.out.symm _ (grown_refl _ _)
    · have f3 : decide (most < n) = false := decide_eq_false hb2
      have hno := fun j hj h => text_no (l := l) (most := most) (j := j) (names := false) (by omega) (by rw [hn]; exact hb1) (by omega) hj h
      have hyes := fun h => text_yes (l := l) (most := most) (names := false) (by omega) (by rw [hn]; exact hb1) (by omega) h
      have HNO := Lib.hid hno
      have HYES := Lib.hid hyes
      obtain ⟨R, hR⟩ : ∃ R, n % 2 = R := ⟨_, rfl⟩
      rw [hR] at q1 q2 f2
      clear hl hn hno hyes hR hb1 hb2
      obtain ⟨N1, hN1⟩ : ∃ N1 : Nat, n = N1 + 1 := ⟨n - 1, by omega⟩
      have HN1 := Lib.hid hN1
      clear hN1
      have H0 : w.grownBy w none := grown_refl _ _
      go_enter Try.func82, Try.ntmps82
      go_wp2_with fail
      go_loopg [7, 8] n (fun gh i lst wr => ∃ j : Nat, j ≤ n ∧ n - j ≤ gh ∧ Hid (∀ i, i < j → placeB false l i = true) ∧ i = .int .i64 (j : Int) ∧ w.grownBy wr none)
      case atStart => exact ⟨0, Nat.zero_le _, Nat.le_refl _, Lib.hid (fun i hi => by omega), rfl, H0⟩
      case round =>
        clear H0 q1 q2 f2
        obtain ⟨j, hj, hgh, HZ, rfl, hG⟩ := hrel
        by_cases hlt : j < n
        · have f4 : decide ((j : Int) < (n : Int)) = true := decide_eq_true (by omega)
          obtain ⟨a, rfl⟩ : ∃ a, s = some a := by
            rcases HL.out.1 with e | ⟨a, e, _⟩
            · have := HN.out; rw [e] at this; simp at this; omega
            · exact ⟨a, e⟩
          have hcell := (HL.out.kept hG).get j (by rw [HN.out]; exact hlt)
          have hxb := HL.out.lt j
          obtain ⟨y, hy⟩ : ∃ y, l.getD j 0 = y := ⟨_, rfl⟩
          rw [hy] at hcell hxb
          have HY := Lib.hid hy
          have HJ := Lib.hid (show j < l.length by rw [HN.out]; exact hlt)
          have HG := Lib.hid hG
          clear hy hG
          by_cases hl1 : j = N1 ∧ y = 0
          · have f5 : ((j : Int) == (n : Int) - 1) = true := beq_iff_eq.2 (by have := HN1.out; omega)
            have f6 : ((y : Int) == 0) = true := beq_iff_eq.2 (by omega)
            have hp : Hid (placeB false l j = true) := Lib.hid (by
              unfold placeB
              rw [decide_eq_true (p := j + 1 = l.length) (by have := HN.out; have := HN1.out; omega), decide_eq_true (p := l.getD j 0 = 0) (by rw [HY.out]; exact hl1.2)]; rfl)
            clear hl1
            go_wp2_with fail
            go_roundg (n - (j + 1))
            case measure => omega
            case rel => exact ⟨j + 1, by omega, Nat.le_refl _, Lib.hid (fun i hi => by
              rcases Nat.lt_or_ge i j with h | h
              · exact HZ.out i h
              · rw [show i = j from by omega]; exact hp.out), by go_num, HG.out⟩
          · by_cases hy0 : y = 0
            · have f5 : ((j : Int) == (n : Int) - 1) = false := beq_eq_false_iff_ne.2 (by have := HN1.out; omega)
              have f6 : ((y : Int) == 0) = true := beq_iff_eq.2 (by omega)
              have hp : Hid (placeB false l j = false) := Lib.hid (by
                unfold placeB
                rw [decide_eq_false (p := j + 1 = l.length) (by have := HN.out; have := HN1.out; omega), decide_eq_false (p := l.getD j 0 ≠ 0) (by rw [HY.out]; omega)]; rfl)
              clear hl1 hy0
              go_wp2_with fail
              exact HQ.out _ (HNO.out j HJ.out hp.out).symm _ HG.out
            · have f6 : ((y : Int) == 0) = false := beq_eq_false_iff_ne.2 (by omega)
              by_cases hj1 : j = N1
              · have f5 : ((j : Int) == (n : Int) - 1) = true := beq_iff_eq.2 (by have := HN1.out; omega)
                have hp : Hid (placeB false l j = true) := Lib.hid (by
                  unfold placeB
                  rw [decide_eq_true (p := l.getD j 0 ≠ 0) (by rw [HY.out]; exact hy0)]; simp)
                clear hl1 hy0 hj1
                go_wp2_with fail
                go_roundg (n - (j + 1))
                case measure => omega
                case rel => exact ⟨j + 1, by omega, Nat.le_refl _, Lib.hid (fun i hi => by
                  rcases Nat.lt_or_ge i j with h | h
                  · exact HZ.out i h
                  · rw [show i = j from by omega]; exact hp.out), by go_num, HG.out⟩
              · have f5 : ((j : Int) == (n : Int) - 1) = false := beq_eq_false_iff_ne.2 (by have := HN1.out; omega)
                have hp : Hid (placeB false l j = true) := Lib.hid (by
                  unfold placeB
                  rw [decide_eq_true (p := l.getD j 0 ≠ 0) (by rw [HY.out]; exact hy0)]; simp)
                clear hl1 hy0 hj1
                go_wp2_with fail
                go_roundg (n - (j + 1))
                case measure => omega
                case rel => exact ⟨j + 1, by omega, Nat.le_refl _, Lib.hid (fun i hi => by
                  rcases Nat.lt_or_ge i j with h | h
                  · exact HZ.out i h
                  · rw [show i = j from by omega]; exact hp.out), by go_num, HG.out⟩
        · have f4 : decide ((j : Int) < (n : Int)) = false := decide_eq_false (by omega)
          have hF := Lib.hid (HYES.out (fun i hi => HZ.out i (by have := HN.out; omega)))
          have HG := Lib.hid hG
          clear hG
          go_wp2_with fail
          exact HQ.out _ hF.out.symm _ HG.out
  · have f2 : (((n % 2 : Nat) : Int) != 0) = true := bne_iff_ne.2 (by omega)
    have hF := Lib.hid (text_bad (l := l) (most := most) (names := false) (Or.inr (Or.inl (by omega))))
    clear hl hn hb0
    obtain ⟨R, hR⟩ : ∃ R, n % 2 = R := ⟨_, rfl⟩
    rw [hR] at q1 q2 f2
    clear hR hb1
    go_enter Try.func82, Try.ntmps82
    go_wp2_with fail
    exact HQ.out _ hF.out.symm _ (grown_refl _ _)
set_option maxHeartbeats 16000000 in
theorem Text_names (w : World) (s : Option Addr) (n cap most : Nat) (l : List Nat) (hn : l.length = n) (hl : BySl w s l) (hm : n ≤ 9223372036854775807) (hmost : most ≤ 9223372036854775807) :
    Calls Try.prog 82 #[.slice s n cap, .int .i64 (most : Int), .bool true] w (RetB w (textB l most true)) := by
  have HL := Lib.hid hl
  have HN := Lib.hid hn
  have HQ : Hid (∀ c : Bool, c = textB l most true → ∀ W, w.grownBy W none → RetB w (textB l most true) (.returned (.bool c)) W) := Lib.hid (fun c hc W hW => ⟨by rw [hc], hW⟩)
  obtain ⟨P, hP⟩ : ∃ P, RetB w (textB l most true) = P := ⟨_, rfl⟩
  rw [hP] at HQ ⊢
  clear hP
  have q1 := tmod_nat n 2
  have q2 : ((n : Int) % 2) = ((n % 2 : Nat) : Int) := by omega
  by_cases hb0 : n = 0
  · have f1 : ((n : Int) == 0) = true := beq_iff_eq.2 (by omega)
    have hF := Lib.hid (text_bad (l := l) (most := most) (names := true) (Or.inl (by omega)))
    clear hl hn hb0
    go_enter Try.func82, Try.ntmps82
    go_wp2_with fail
    exact HQ.out _ hF.out.symm _ (grown_refl _ _)
  have f1 : ((n : Int) == 0) = false := beq_eq_false_iff_ne.2 (by omega)
  by_cases hb1 : n % 2 = 0
  · have f2 : (((n % 2 : Nat) : Int) != 0) = false := by rw [hb1]; rfl
    by_cases hb2 : most < n
    · have f3 : decide (most < n) = true := decide_eq_true hb2
      have hF := Lib.hid (text_bad (l := l) (most := most) (names := true) (Or.inr (Or.inr (by omega))))
      clear hl hn hb0
      obtain ⟨R, hR⟩ : ∃ R, n % 2 = R := ⟨_, rfl⟩
      rw [hR] at q1 q2 f2
      clear hR hb1 hb2
      go_enter Try.func82, Try.ntmps82
      go_wp2_with fail
      exact HQ.out _ hF.out.symm _ (grown_refl _ _)
    · have f3 : decide (most < n) = false := decide_eq_false hb2
      have hno := fun j hj h => text_no (l := l) (most := most) (j := j) (names := true) (by omega) (by rw [hn]; exact hb1) (by omega) hj h
      have hyes := fun h => text_yes (l := l) (most := most) (names := true) (by omega) (by rw [hn]; exact hb1) (by omega) h
      have HNO := Lib.hid hno
      have HYES := Lib.hid hyes
      obtain ⟨R, hR⟩ : ∃ R, n % 2 = R := ⟨_, rfl⟩
      rw [hR] at q1 q2 f2
      clear hl hn hno hyes hR hb1 hb2
      obtain ⟨N1, hN1⟩ : ∃ N1 : Nat, n = N1 + 1 := ⟨n - 1, by omega⟩
      have HN1 := Lib.hid hN1
      clear hN1
      have H0 : w.grownBy w none := grown_refl _ _
      go_enter Try.func82, Try.ntmps82
      go_wp2_with fail
      go_loopg [7, 8] n (fun gh i lst wr => ∃ j : Nat, j ≤ n ∧ n - j ≤ gh ∧ Hid (∀ i, i < j → placeB true l i = true) ∧ i = .int .i64 (j : Int) ∧ w.grownBy wr none)
      case atStart => exact ⟨0, Nat.zero_le _, Nat.le_refl _, Lib.hid (fun i hi => by omega), rfl, H0⟩
      case round =>
        clear H0 q1 q2 f2
        obtain ⟨j, hj, hgh, HZ, rfl, hG⟩ := hrel
        by_cases hlt : j < n
        · have f4 : decide ((j : Int) < (n : Int)) = true := decide_eq_true (by omega)
          obtain ⟨a, rfl⟩ : ∃ a, s = some a := by
            rcases HL.out.1 with e | ⟨a, e, _⟩
            · have := HN.out; rw [e] at this; simp at this; omega
            · exact ⟨a, e⟩
          have hcell := (HL.out.kept hG).get j (by rw [HN.out]; exact hlt)
          have hxb := HL.out.lt j
          obtain ⟨y, hy⟩ : ∃ y, l.getD j 0 = y := ⟨_, rfl⟩
          rw [hy] at hcell hxb
          have HY := Lib.hid hy
          have HJ := Lib.hid (show j < l.length by rw [HN.out]; exact hlt)
          have HG := Lib.hid hG
          clear hy hG
          by_cases hl1 : j = N1 ∧ y = 0
          · have f5 : ((j : Int) == (n : Int) - 1) = true := beq_iff_eq.2 (by have := HN1.out; omega)
            have f6 : ((y : Int) == 0) = true := beq_iff_eq.2 (by omega)
            have hp : Hid (placeB true l j = true) := Lib.hid (by
              unfold placeB
              rw [decide_eq_true (p := j + 1 = l.length) (by have := HN.out; have := HN1.out; omega), decide_eq_true (p := l.getD j 0 = 0) (by rw [HY.out]; exact hl1.2)]; rfl)
            clear hl1
            go_wp2_with fail
            go_roundg (n - (j + 1))
            case measure => omega
            case rel => exact ⟨j + 1, by omega, Nat.le_refl _, Lib.hid (fun i hi => by
              rcases Nat.lt_or_ge i j with h | h
              · exact HZ.out i h
              · rw [show i = j from by omega]; exact hp.out), by go_num, HG.out⟩
          · by_cases hy0 : y = 0
            · have f5 : ((j : Int) == (n : Int) - 1) = false := beq_eq_false_iff_ne.2 (by have := HN1.out; omega)
              have f6 : ((y : Int) == 0) = true := beq_iff_eq.2 (by omega)
              have hp : Hid (placeB true l j = false) := Lib.hid (by
                unfold placeB
                rw [decide_eq_false (p := j + 1 = l.length) (by have := HN.out; have := HN1.out; omega), decide_eq_false (p := l.getD j 0 ≠ 0) (by rw [HY.out]; omega)]; rfl)
              clear hl1 hy0
              go_wp2_with fail
              exact HQ.out _ (HNO.out j HJ.out hp.out).symm _ HG.out
            · have f6 : ((y : Int) == 0) = false := beq_eq_false_iff_ne.2 (by omega)
              by_cases hj1 : j = N1
              · have f5 : ((j : Int) == (n : Int) - 1) = true := beq_iff_eq.2 (by have := HN1.out; omega)
                have HNM := Lib.hid (fun W => Name_any W y hxb)
                have hp : Hid (placeB true l j = (decide (j + 1 = l.length) && decide (l.getD j 0 = 0) || nameB y)) := Lib.hid (by
                  unfold placeB
                  rw [decide_eq_true (p := l.getD j 0 ≠ 0) (by rw [HY.out]; exact hy0), HY.out]; simp)
                have hp2 : Hid (placeB true l j = nameB y) := Lib.hid (by rw [hp.out, decide_eq_false (p := l.getD j 0 = 0) (by rw [HY.out]; exact hy0)]; simp)
                clear hl1 hy0 hp hj1
                obtain ⟨B, hB⟩ : ∃ B, nameB y = B := ⟨_, rfl⟩
                rw [hB] at HNM hp2
                clear hB
                cases B
                · go_wp2_with fail
                  refine (HNM.out _).mono ?_
                  rintro e w1 ⟨rfl, hg1⟩
                  have HG1 := Lib.hid (grown_trans HG.out hg1)
                  clear hg1
                  go_wp2_with fail
                  exact HQ.out _ (HNO.out j HJ.out hp2.out).symm _ HG1.out
                · go_wp2_with fail
                  refine (HNM.out _).mono ?_
                  rintro e w1 ⟨rfl, hg1⟩
                  have HG1 := Lib.hid (grown_trans HG.out hg1)
                  clear hg1
                  go_wp2_with fail
                  go_roundg (n - (j + 1))
                  case measure => omega
                  case rel => exact ⟨j + 1, by omega, Nat.le_refl _, Lib.hid (fun i hi => by
                    rcases Nat.lt_or_ge i j with h | h
                    · exact HZ.out i h
                    · rw [show i = j from by omega]; exact hp2.out), by go_num, HG1.out⟩
              · have f5 : ((j : Int) == (n : Int) - 1) = false := beq_eq_false_iff_ne.2 (by have := HN1.out; omega)
                have HNM := Lib.hid (fun W => Name_any W y hxb)
                have hp : Hid (placeB true l j = (decide (j + 1 = l.length) && decide (l.getD j 0 = 0) || nameB y)) := Lib.hid (by
                  unfold placeB
                  rw [decide_eq_true (p := l.getD j 0 ≠ 0) (by rw [HY.out]; exact hy0), HY.out]; simp)
                have hp2 : Hid (placeB true l j = nameB y) := Lib.hid (by rw [hp.out, decide_eq_false (p := l.getD j 0 = 0) (by rw [HY.out]; exact hy0)]; simp)
                clear hl1 hy0 hp hj1
                obtain ⟨B, hB⟩ : ∃ B, nameB y = B := ⟨_, rfl⟩
                rw [hB] at HNM hp2
                clear hB
                cases B
                · go_wp2_with fail
                  refine (HNM.out _).mono ?_
                  rintro e w1 ⟨rfl, hg1⟩
                  have HG1 := Lib.hid (grown_trans HG.out hg1)
                  clear hg1
                  go_wp2_with fail
                  exact HQ.out _ (HNO.out j HJ.out hp2.out).symm _ HG1.out
                · go_wp2_with fail
                  refine (HNM.out _).mono ?_
                  rintro e w1 ⟨rfl, hg1⟩
                  have HG1 := Lib.hid (grown_trans HG.out hg1)
                  clear hg1
                  go_wp2_with fail
                  go_roundg (n - (j + 1))
                  case measure => omega
                  case rel => exact ⟨j + 1, by omega, Nat.le_refl _, Lib.hid (fun i hi => by
                    rcases Nat.lt_or_ge i j with h | h
                    · exact HZ.out i h
                    · rw [show i = j from by omega]; exact hp2.out), by go_num, HG1.out⟩
        · have f4 : decide ((j : Int) < (n : Int)) = false := decide_eq_false (by omega)
          have hF := Lib.hid (HYES.out (fun i hi => HZ.out i (by have := HN.out; omega)))
          have HG := Lib.hid hG
          clear hG
          go_wp2_with fail
          exact HQ.out _ hF.out.symm _ HG.out
  · have f2 : (((n % 2 : Nat) : Int) != 0) = true := bne_iff_ne.2 (by omega)
    have hF := Lib.hid (text_bad (l := l) (most := most) (names := true) (Or.inr (Or.inl (by omega))))
    clear hl hn hb0
    obtain ⟨R, hR⟩ : ∃ R, n % 2 = R := ⟨_, rfl⟩
    rw [hR] at q1 q2 f2
    clear hR hb1
    go_enter Try.func82, Try.ntmps82
    go_wp2_with fail
    exact HQ.out _ hF.out.symm _ (grown_refl _ _)
end Go.Proofs.Ytcioefmldcmhgaa
