/- Records: which signs a text may have: spells. -/
import Derived.Test.YtcioefmldcmhgaaKSp
namespace Go.Proofs.Ytcioefmldcmhgaa
open Go.RowKit
set_option maxRecDepth 100000
set_option linter.unusedVariables false
set_option linter.unusedSimpArgs false

set_option maxHeartbeats 16000000 in
theorem InText_any (w : World) (x : Nat) : Calls Try.prog 89 #[.int .u8 (x : Int)] w (RetB w (decide (x ≠ 0))) := by
  obtain ⟨B, hB⟩ : ∃ B, decide (x ≠ 0) = B := ⟨_, rfl⟩
  have f1 : ((x : Int) != 0) = B := by
    rw [← hB]
    by_cases h : x = 0
    · subst h; rfl
    · rw [decide_eq_true h]; exact bne_iff_ne.2 (by omega)
  rw [hB]
  clear hB
  go_enter Try.func89, Try.ntmps89
  go_wp2_with fail
  go_ret
  exact ⟨rfl, grown_refl _ _⟩
set_option maxHeartbeats 16000000 in
theorem InName_0 (w : World) (x : Nat) (h1 : 0 ≤ x) (h2 : x ≤ 35) : Calls Try.prog 90 #[.int .u8 (x : Int)] w (RetB w false) := by
  have a0 : decide ((65 : Int) ≤ (x : Int)) = false := decide_eq_false (by omega)
  have a1 : decide ((97 : Int) ≤ (x : Int)) = false := decide_eq_false (by omega)
  have a2 : decide ((48 : Int) ≤ (x : Int)) = false := decide_eq_false (by omega)
  have c0 : decide ((x : Int) ≤ 90) = true := decide_eq_true (by omega)
  have c1 : decide ((x : Int) ≤ 122) = true := decide_eq_true (by omega)
  have c2 : decide ((x : Int) ≤ 57) = true := decide_eq_true (by omega)
  have e0 : ((x : Int) == 95) = false := beq_eq_false_iff_ne.2 (by omega)
  have e1 : ((x : Int) == 63) = false := beq_eq_false_iff_ne.2 (by omega)
  have e2 : ((x : Int) == 36) = false := beq_eq_false_iff_ne.2 (by omega)
  clear h1 h2
  go_enter Try.func90, Try.ntmps90
  go_wp2_with fail
  go_ret
  exact ⟨rfl, grown_refl _ _⟩
set_option maxHeartbeats 16000000 in
theorem InName_36 (w : World) (x : Nat) (h1 : 36 ≤ x) (h2 : x ≤ 36) : Calls Try.prog 90 #[.int .u8 (x : Int)] w (RetB w true) := by
  have a0 : decide ((65 : Int) ≤ (x : Int)) = false := decide_eq_false (by omega)
  have a1 : decide ((97 : Int) ≤ (x : Int)) = false := decide_eq_false (by omega)
  have a2 : decide ((48 : Int) ≤ (x : Int)) = false := decide_eq_false (by omega)
  have c0 : decide ((x : Int) ≤ 90) = true := decide_eq_true (by omega)
  have c1 : decide ((x : Int) ≤ 122) = true := decide_eq_true (by omega)
  have c2 : decide ((x : Int) ≤ 57) = true := decide_eq_true (by omega)
  have e0 : ((x : Int) == 95) = false := beq_eq_false_iff_ne.2 (by omega)
  have e1 : ((x : Int) == 63) = false := beq_eq_false_iff_ne.2 (by omega)
  have e2 : ((x : Int) == 36) = true := beq_iff_eq.2 (by omega)
  clear h1 h2
  go_enter Try.func90, Try.ntmps90
  go_wp2_with fail
  go_ret
  exact ⟨rfl, grown_refl _ _⟩
set_option maxHeartbeats 16000000 in
theorem InName_37 (w : World) (x : Nat) (h1 : 37 ≤ x) (h2 : x ≤ 47) : Calls Try.prog 90 #[.int .u8 (x : Int)] w (RetB w false) := by
  have a0 : decide ((65 : Int) ≤ (x : Int)) = false := decide_eq_false (by omega)
  have a1 : decide ((97 : Int) ≤ (x : Int)) = false := decide_eq_false (by omega)
  have a2 : decide ((48 : Int) ≤ (x : Int)) = false := decide_eq_false (by omega)
  have c0 : decide ((x : Int) ≤ 90) = true := decide_eq_true (by omega)
  have c1 : decide ((x : Int) ≤ 122) = true := decide_eq_true (by omega)
  have c2 : decide ((x : Int) ≤ 57) = true := decide_eq_true (by omega)
  have e0 : ((x : Int) == 95) = false := beq_eq_false_iff_ne.2 (by omega)
  have e1 : ((x : Int) == 63) = false := beq_eq_false_iff_ne.2 (by omega)
  have e2 : ((x : Int) == 36) = false := beq_eq_false_iff_ne.2 (by omega)
  clear h1 h2
  go_enter Try.func90, Try.ntmps90
  go_wp2_with fail
  go_ret
  exact ⟨rfl, grown_refl _ _⟩
set_option maxHeartbeats 16000000 in
theorem InName_48 (w : World) (x : Nat) (h1 : 48 ≤ x) (h2 : x ≤ 57) : Calls Try.prog 90 #[.int .u8 (x : Int)] w (RetB w true) := by
  have a0 : decide ((65 : Int) ≤ (x : Int)) = false := decide_eq_false (by omega)
  have a1 : decide ((97 : Int) ≤ (x : Int)) = false := decide_eq_false (by omega)
  have a2 : decide ((48 : Int) ≤ (x : Int)) = true := decide_eq_true (by omega)
  have c0 : decide ((x : Int) ≤ 90) = true := decide_eq_true (by omega)
  have c1 : decide ((x : Int) ≤ 122) = true := decide_eq_true (by omega)
  have c2 : decide ((x : Int) ≤ 57) = true := decide_eq_true (by omega)
  have e0 : ((x : Int) == 95) = false := beq_eq_false_iff_ne.2 (by omega)
  have e1 : ((x : Int) == 63) = false := beq_eq_false_iff_ne.2 (by omega)
  have e2 : ((x : Int) == 36) = false := beq_eq_false_iff_ne.2 (by omega)
  clear h1 h2
  go_enter Try.func90, Try.ntmps90
  go_wp2_with fail
  go_ret
  exact ⟨rfl, grown_refl _ _⟩
set_option maxHeartbeats 16000000 in
theorem InName_58 (w : World) (x : Nat) (h1 : 58 ≤ x) (h2 : x ≤ 62) : Calls Try.prog 90 #[.int .u8 (x : Int)] w (RetB w false) := by
  have a0 : decide ((65 : Int) ≤ (x : Int)) = false := decide_eq_false (by omega)
  have a1 : decide ((97 : Int) ≤ (x : Int)) = false := decide_eq_false (by omega)
  have a2 : decide ((48 : Int) ≤ (x : Int)) = true := decide_eq_true (by omega)
  have c0 : decide ((x : Int) ≤ 90) = true := decide_eq_true (by omega)
  have c1 : decide ((x : Int) ≤ 122) = true := decide_eq_true (by omega)
  have c2 : decide ((x : Int) ≤ 57) = false := decide_eq_false (by omega)
  have e0 : ((x : Int) == 95) = false := beq_eq_false_iff_ne.2 (by omega)
  have e1 : ((x : Int) == 63) = false := beq_eq_false_iff_ne.2 (by omega)
  have e2 : ((x : Int) == 36) = false := beq_eq_false_iff_ne.2 (by omega)
  clear h1 h2
  go_enter Try.func90, Try.ntmps90
  go_wp2_with fail
  go_ret
  exact ⟨rfl, grown_refl _ _⟩
set_option maxHeartbeats 16000000 in
theorem InName_63 (w : World) (x : Nat) (h1 : 63 ≤ x) (h2 : x ≤ 63) : Calls Try.prog 90 #[.int .u8 (x : Int)] w (RetB w true) := by
  have a0 : decide ((65 : Int) ≤ (x : Int)) = false := decide_eq_false (by omega)
  have a1 : decide ((97 : Int) ≤ (x : Int)) = false := decide_eq_false (by omega)
  have a2 : decide ((48 : Int) ≤ (x : Int)) = true := decide_eq_true (by omega)
  have c0 : decide ((x : Int) ≤ 90) = true := decide_eq_true (by omega)
  have c1 : decide ((x : Int) ≤ 122) = true := decide_eq_true (by omega)
  have c2 : decide ((x : Int) ≤ 57) = false := decide_eq_false (by omega)
  have e0 : ((x : Int) == 95) = false := beq_eq_false_iff_ne.2 (by omega)
  have e1 : ((x : Int) == 63) = true := beq_iff_eq.2 (by omega)
  have e2 : ((x : Int) == 36) = false := beq_eq_false_iff_ne.2 (by omega)
  clear h1 h2
  go_enter Try.func90, Try.ntmps90
  go_wp2_with fail
  go_ret
  exact ⟨rfl, grown_refl _ _⟩
set_option maxHeartbeats 16000000 in
theorem InName_64 (w : World) (x : Nat) (h1 : 64 ≤ x) (h2 : x ≤ 64) : Calls Try.prog 90 #[.int .u8 (x : Int)] w (RetB w false) := by
  have a0 : decide ((65 : Int) ≤ (x : Int)) = false := decide_eq_false (by omega)
  have a1 : decide ((97 : Int) ≤ (x : Int)) = false := decide_eq_false (by omega)
  have a2 : decide ((48 : Int) ≤ (x : Int)) = true := decide_eq_true (by omega)
  have c0 : decide ((x : Int) ≤ 90) = true := decide_eq_true (by omega)
  have c1 : decide ((x : Int) ≤ 122) = true := decide_eq_true (by omega)
  have c2 : decide ((x : Int) ≤ 57) = false := decide_eq_false (by omega)
  have e0 : ((x : Int) == 95) = false := beq_eq_false_iff_ne.2 (by omega)
  have e1 : ((x : Int) == 63) = false := beq_eq_false_iff_ne.2 (by omega)
  have e2 : ((x : Int) == 36) = false := beq_eq_false_iff_ne.2 (by omega)
  clear h1 h2
  go_enter Try.func90, Try.ntmps90
  go_wp2_with fail
  go_ret
  exact ⟨rfl, grown_refl _ _⟩
set_option maxHeartbeats 16000000 in
theorem InName_65 (w : World) (x : Nat) (h1 : 65 ≤ x) (h2 : x ≤ 90) : Calls Try.prog 90 #[.int .u8 (x : Int)] w (RetB w true) := by
  have a0 : decide ((65 : Int) ≤ (x : Int)) = true := decide_eq_true (by omega)
  have a1 : decide ((97 : Int) ≤ (x : Int)) = false := decide_eq_false (by omega)
  have a2 : decide ((48 : Int) ≤ (x : Int)) = true := decide_eq_true (by omega)
  have c0 : decide ((x : Int) ≤ 90) = true := decide_eq_true (by omega)
  have c1 : decide ((x : Int) ≤ 122) = true := decide_eq_true (by omega)
  have c2 : decide ((x : Int) ≤ 57) = false := decide_eq_false (by omega)
  have e0 : ((x : Int) == 95) = false := beq_eq_false_iff_ne.2 (by omega)
  have e1 : ((x : Int) == 63) = false := beq_eq_false_iff_ne.2 (by omega)
  have e2 : ((x : Int) == 36) = false := beq_eq_false_iff_ne.2 (by omega)
  clear h1 h2
  go_enter Try.func90, Try.ntmps90
  go_wp2_with fail
  go_ret
  exact ⟨rfl, grown_refl _ _⟩
set_option maxHeartbeats 16000000 in
theorem InName_91 (w : World) (x : Nat) (h1 : 91 ≤ x) (h2 : x ≤ 94) : Calls Try.prog 90 #[.int .u8 (x : Int)] w (RetB w false) := by
  have a0 : decide ((65 : Int) ≤ (x : Int)) = true := decide_eq_true (by omega)
  have a1 : decide ((97 : Int) ≤ (x : Int)) = false := decide_eq_false (by omega)
  have a2 : decide ((48 : Int) ≤ (x : Int)) = true := decide_eq_true (by omega)
  have c0 : decide ((x : Int) ≤ 90) = false := decide_eq_false (by omega)
  have c1 : decide ((x : Int) ≤ 122) = true := decide_eq_true (by omega)
  have c2 : decide ((x : Int) ≤ 57) = false := decide_eq_false (by omega)
  have e0 : ((x : Int) == 95) = false := beq_eq_false_iff_ne.2 (by omega)
  have e1 : ((x : Int) == 63) = false := beq_eq_false_iff_ne.2 (by omega)
  have e2 : ((x : Int) == 36) = false := beq_eq_false_iff_ne.2 (by omega)
  clear h1 h2
  go_enter Try.func90, Try.ntmps90
  go_wp2_with fail
  go_ret
  exact ⟨rfl, grown_refl _ _⟩
set_option maxHeartbeats 16000000 in
theorem InName_95 (w : World) (x : Nat) (h1 : 95 ≤ x) (h2 : x ≤ 95) : Calls Try.prog 90 #[.int .u8 (x : Int)] w (RetB w true) := by
  have a0 : decide ((65 : Int) ≤ (x : Int)) = true := decide_eq_true (by omega)
  have a1 : decide ((97 : Int) ≤ (x : Int)) = false := decide_eq_false (by omega)
  have a2 : decide ((48 : Int) ≤ (x : Int)) = true := decide_eq_true (by omega)
  have c0 : decide ((x : Int) ≤ 90) = false := decide_eq_false (by omega)
  have c1 : decide ((x : Int) ≤ 122) = true := decide_eq_true (by omega)
  have c2 : decide ((x : Int) ≤ 57) = false := decide_eq_false (by omega)
  have e0 : ((x : Int) == 95) = true := beq_iff_eq.2 (by omega)
  have e1 : ((x : Int) == 63) = false := beq_eq_false_iff_ne.2 (by omega)
  have e2 : ((x : Int) == 36) = false := beq_eq_false_iff_ne.2 (by omega)
  clear h1 h2
  go_enter Try.func90, Try.ntmps90
  go_wp2_with fail
  go_ret
  exact ⟨rfl, grown_refl _ _⟩
set_option maxHeartbeats 16000000 in
theorem InName_96 (w : World) (x : Nat) (h1 : 96 ≤ x) (h2 : x ≤ 96) : Calls Try.prog 90 #[.int .u8 (x : Int)] w (RetB w false) := by
  have a0 : decide ((65 : Int) ≤ (x : Int)) = true := decide_eq_true (by omega)
  have a1 : decide ((97 : Int) ≤ (x : Int)) = false := decide_eq_false (by omega)
  have a2 : decide ((48 : Int) ≤ (x : Int)) = true := decide_eq_true (by omega)
  have c0 : decide ((x : Int) ≤ 90) = false := decide_eq_false (by omega)
  have c1 : decide ((x : Int) ≤ 122) = true := decide_eq_true (by omega)
  have c2 : decide ((x : Int) ≤ 57) = false := decide_eq_false (by omega)
  have e0 : ((x : Int) == 95) = false := beq_eq_false_iff_ne.2 (by omega)
  have e1 : ((x : Int) == 63) = false := beq_eq_false_iff_ne.2 (by omega)
  have e2 : ((x : Int) == 36) = false := beq_eq_false_iff_ne.2 (by omega)
  clear h1 h2
  go_enter Try.func90, Try.ntmps90
  go_wp2_with fail
  go_ret
  exact ⟨rfl, grown_refl _ _⟩
set_option maxHeartbeats 16000000 in
theorem InName_97 (w : World) (x : Nat) (h1 : 97 ≤ x) (h2 : x ≤ 122) : Calls Try.prog 90 #[.int .u8 (x : Int)] w (RetB w true) := by
  have a0 : decide ((65 : Int) ≤ (x : Int)) = true := decide_eq_true (by omega)
  have a1 : decide ((97 : Int) ≤ (x : Int)) = true := decide_eq_true (by omega)
  have a2 : decide ((48 : Int) ≤ (x : Int)) = true := decide_eq_true (by omega)
  have c0 : decide ((x : Int) ≤ 90) = false := decide_eq_false (by omega)
  have c1 : decide ((x : Int) ≤ 122) = true := decide_eq_true (by omega)
  have c2 : decide ((x : Int) ≤ 57) = false := decide_eq_false (by omega)
  have e0 : ((x : Int) == 95) = false := beq_eq_false_iff_ne.2 (by omega)
  have e1 : ((x : Int) == 63) = false := beq_eq_false_iff_ne.2 (by omega)
  have e2 : ((x : Int) == 36) = false := beq_eq_false_iff_ne.2 (by omega)
  clear h1 h2
  go_enter Try.func90, Try.ntmps90
  go_wp2_with fail
  go_ret
  exact ⟨rfl, grown_refl _ _⟩
set_option maxHeartbeats 16000000 in
theorem InName_123 (w : World) (x : Nat) (h1 : 123 ≤ x) (h2 : x ≤ 255) : Calls Try.prog 90 #[.int .u8 (x : Int)] w (RetB w false) := by
  have a0 : decide ((65 : Int) ≤ (x : Int)) = true := decide_eq_true (by omega)
  have a1 : decide ((97 : Int) ≤ (x : Int)) = true := decide_eq_true (by omega)
  have a2 : decide ((48 : Int) ≤ (x : Int)) = true := decide_eq_true (by omega)
  have c0 : decide ((x : Int) ≤ 90) = false := decide_eq_false (by omega)
  have c1 : decide ((x : Int) ≤ 122) = false := decide_eq_false (by omega)
  have c2 : decide ((x : Int) ≤ 57) = false := decide_eq_false (by omega)
  have e0 : ((x : Int) == 95) = false := beq_eq_false_iff_ne.2 (by omega)
  have e1 : ((x : Int) == 63) = false := beq_eq_false_iff_ne.2 (by omega)
  have e2 : ((x : Int) == 36) = false := beq_eq_false_iff_ne.2 (by omega)
  clear h1 h2
  go_enter Try.func90, Try.ntmps90
  go_wp2_with fail
  go_ret
  exact ⟨rfl, grown_refl _ _⟩
theorem InName_any (w : World) (x : Nat) (hx : x < 256) : Calls Try.prog 90 #[.int .u8 (x : Int)] w (RetB w (nameB x)) := by
  by_cases h35 : x ≤ 35
  · have e : nameB x = false := by unfold nameB; exact decide_eq_false (by omega)
    rw [e]; exact InName_0 w x (by omega) h35
  by_cases h36 : x ≤ 36
  · have e : nameB x = true := by unfold nameB; exact decide_eq_true (by omega)
    rw [e]; exact InName_36 w x (by omega) h36
  by_cases h47 : x ≤ 47
  · have e : nameB x = false := by unfold nameB; exact decide_eq_false (by omega)
    rw [e]; exact InName_37 w x (by omega) h47
  by_cases h57 : x ≤ 57
  · have e : nameB x = true := by unfold nameB; exact decide_eq_true (by omega)
    rw [e]; exact InName_48 w x (by omega) h57
  by_cases h62 : x ≤ 62
  · have e : nameB x = false := by unfold nameB; exact decide_eq_false (by omega)
    rw [e]; exact InName_58 w x (by omega) h62
  by_cases h63 : x ≤ 63
  · have e : nameB x = true := by unfold nameB; exact decide_eq_true (by omega)
    rw [e]; exact InName_63 w x (by omega) h63
  by_cases h64 : x ≤ 64
  · have e : nameB x = false := by unfold nameB; exact decide_eq_false (by omega)
    rw [e]; exact InName_64 w x (by omega) h64
  by_cases h90 : x ≤ 90
  · have e : nameB x = true := by unfold nameB; exact decide_eq_true (by omega)
    rw [e]; exact InName_65 w x (by omega) h90
  by_cases h94 : x ≤ 94
  · have e : nameB x = false := by unfold nameB; exact decide_eq_false (by omega)
    rw [e]; exact InName_91 w x (by omega) h94
  by_cases h95 : x ≤ 95
  · have e : nameB x = true := by unfold nameB; exact decide_eq_true (by omega)
    rw [e]; exact InName_95 w x (by omega) h95
  by_cases h96 : x ≤ 96
  · have e : nameB x = false := by unfold nameB; exact decide_eq_false (by omega)
    rw [e]; exact InName_96 w x (by omega) h96
  by_cases h122 : x ≤ 122
  · have e : nameB x = true := by unfold nameB; exact decide_eq_true (by omega)
    rw [e]; exact InName_97 w x (by omega) h122
  by_cases h255 : x ≤ 255
  · have e : nameB x = false := by unfold nameB; exact decide_eq_false (by omega)
    rw [e]; exact InName_123 w x (by omega) h255
  omega
theorem sig_any (w : World) (g x : Nat) (hg : g = 1 ∨ g = 2) (hx : x < 256) : (g = 1 → Calls Try.prog 89 #[.int .u8 (x : Int)] w (RetB w (signB g x))) ∧ (g = 2 → Calls Try.prog 90 #[.int .u8 (x : Int)] w (RetB w (signB g x))) := by
  constructor
  · rintro rfl; exact InText_any w x
  · rintro rfl; exact InName_any w x hx
set_option maxHeartbeats 16000000 in
theorem Wrong_any (w : World) (q d p m g x : Nat) (hg : g = 1 ∨ g = 2) (hx : x < 256) (hb : w.heap[q]? = some (.cells #[.int .u8 (d : Int), .int .i64 (p : Int), .int .i64 (m : Int), sigV g] 112 (0, 0))) :
    Calls Try.prog 91 #[.int .u8 (x : Int), .pointer (some ⟨q, 0, none⟩)] w (RetB w (!signB g x)) := by
  obtain ⟨D0, D1, D2, D3, _, _, _, _⟩ := box_cells4 hb
  have hs := sig_any w g x hg hx
  obtain ⟨B, hB⟩ : ∃ B, signB g x = B := ⟨_, rfl⟩
  rw [hB] at hs ⊢
  have HS := Lib.hid hs
  clear hs hB hb
  rcases hg with rfl | rfl
  · change w.cell? ⟨q, 3, none⟩ = some (.func (.func 89) #[] #[]) at D3
    go_enter Try.func91, Try.ntmps91
    go_wp2_with fail
    refine (HS.out.1 trivial).mono ?_
    rintro e w1 ⟨rfl, hg⟩
    go_wp2_with fail
    go_ret
    exact ⟨rfl, hg⟩
  · change w.cell? ⟨q, 3, none⟩ = some (.func (.func 90) #[] #[]) at D3
    go_enter Try.func91, Try.ntmps91
    go_wp2_with fail
    refine (HS.out.2 trivial).mono ?_
    rintro e w1 ⟨rfl, hg⟩
    go_wp2_with fail
    go_ret
    exact ⟨rfl, hg⟩
def RetIdx (w : World) (c : Bool) (e : Ending) (w' : World) : Prop := ∃ r : Int, e = .returned (.int .i64 r) ∧ decide (0 ≤ r) = c ∧ w.grownBy w' none
set_option maxHeartbeats 16000000 in
theorem IndexFunc_any (w : World) (s : Option Addr) (n cap q d p m g : Nat) (l : List Nat) (hn : l.length = n) (hl : BySl w s l) (hg : g = 1 ∨ g = 2) (hm : n ≤ 9223372036854775807)
    (hb : w.heap[q]? = some (.cells #[.int .u8 (d : Int), .int .i64 (p : Int), .int .i64 (m : Int), sigV g] 112 (0, 0))) :
    Calls Try.prog 93 #[.slice s n cap, .func (.func 91) #[] #[.pointer (some ⟨q, 0, none⟩)]] w (RetIdx w (!l.all (signB g))) := by
  have HB := Lib.hid hb
  have HL := Lib.hid hl
  have HN := Lib.hid hn
  have HG := Lib.hid hg
  have h0 : w.grownBy w none := grown_refl _ _
  clear hb hl hn hg
  go_enter Try.func93, Try.ntmps93
  go_wp2_with fail
  go_loopg [8] n (fun gh i wr => ∃ k : Nat, k ≤ n ∧ n - k ≤ gh ∧ i = .int .i64 (k : Int) ∧ Hid (∀ j, j < k → signB g (l.getD j 0) = true) ∧ w.grownBy wr none)
  case atStart => exact ⟨0, Nat.zero_le _, Nat.le_refl _, rfl, Lib.hid (fun j hj => by omega), h0⟩
  case round =>
    clear h0
    obtain ⟨k, hk, hgh, rfl, HA, hG⟩ := hrel
    by_cases hlt : k < n
    · have f1 : decide ((k : Int) < (n : Int)) = true := decide_eq_true (by omega)
      have hll := HL.out.kept hG
      obtain ⟨a, rfl⟩ : ∃ a, s = some a := by
        rcases HL.out.1 with e | ⟨a, e, _⟩
        · have := HN.out; rw [e] at this; simp at this; omega
        · exact ⟨a, e⟩
      have hcell := hll.get k (by rw [HN.out]; exact hlt)
      have hxb := hll.lt k
      obtain ⟨x, hx⟩ : ∃ x, l.getD k 0 = x := ⟨_, rfl⟩
      rw [hx] at hcell hxb
      have HX := Lib.hid hx
      have HW := Lib.hid (Wrong_any wr q d p m g x HG.out hxb (heap_kept hG HB.out))
      have HGr := Lib.hid hG
      obtain ⟨B, hB⟩ : ∃ B, signB g x = B := ⟨_, rfl⟩
      rw [hB] at HW
      have HBB := Lib.hid hB
      clear hx hB hll hG hxb
      cases B
      · have hF : Hid (∀ W, w.grownBy W none → RetIdx w (!l.all (signB g)) (.returned (.int .i64 (k : Int))) W) := Lib.hid (fun W hW => ⟨(k : Int), rfl, by
          have e : l.all (signB g) = false := by
            rw [List.all_eq_false]
            have hkl : k < l.length := by rw [HN.out]; exact hlt
            refine ⟨l[k], List.getElem_mem _, ?_⟩
            have : l.getD k 0 = l[k] := by rw [List.getD_eq_getElem?_getD, List.getElem?_eq_getElem hkl]; rfl
            rw [← this, HX.out, HBB.out]; decide
          rw [e]; exact decide_eq_true (by omega), hW⟩)
        go_wp2_with fail
        refine HW.out.mono ?_
        rintro e w1 ⟨rfl, hg1⟩
        have hG1 := grown_trans HGr.out hg1
        go_wp2_with fail
        go_ret
        exact hF.out _ hG1
      · go_wp2_with fail
        refine HW.out.mono ?_
        rintro e w1 ⟨rfl, hg1⟩
        have hG1 := grown_trans HGr.out hg1
        go_wp2_with fail
        go_roundg (n - (k + 1))
        case measure => omega
        case rel => exact ⟨k + 1, by omega, Nat.le_refl _, by go_num, Lib.hid (fun j hj => by
          rcases Nat.lt_or_ge j k with h | h
          · exact HA.out j h
          · rw [show j = k from by omega, HX.out, HBB.out]), hG1⟩
    · have f1 : decide ((k : Int) < (n : Int)) = false := decide_eq_false (by omega)
      have hF : Hid (RetIdx w (!l.all (signB g)) (.returned (.int .i64 (-1))) wr) := Lib.hid ⟨-1, rfl, by
        have e : l.all (signB g) = true := by
          rw [List.all_eq_true]
          intro x hx
          obtain ⟨j, hj, rfl⟩ := List.getElem_of_mem hx
          have h2 := HA.out j (by have := HN.out; omega)
          rwa [List.getD_eq_getElem?_getD, List.getElem?_eq_getElem hj] at h2
        rw [e]; rfl, hG⟩
      clear hG
      go_wp2_with fail
      go_ret
      exact hF.out
set_option maxHeartbeats 16000000 in
theorem ContainsFunc_any (w : World) (s : Option Addr) (n cap q d p m g : Nat) (l : List Nat) (hn : l.length = n) (hl : BySl w s l) (hg : g = 1 ∨ g = 2) (hm : n ≤ 9223372036854775807)
    (hb : w.heap[q]? = some (.cells #[.int .u8 (d : Int), .int .i64 (p : Int), .int .i64 (m : Int), sigV g] 112 (0, 0))) :
    Calls Try.prog 92 #[.slice s n cap, .func (.func 91) #[] #[.pointer (some ⟨q, 0, none⟩)]] w (RetB w (!l.all (signB g))) := by
  have HI := Lib.hid (IndexFunc_any w s n cap q d p m g l hn hl hg hm hb)
  obtain ⟨B, hB⟩ : ∃ B, (!l.all (signB g)) = B := ⟨_, rfl⟩
  rw [hB] at HI ⊢
  clear hb hl hn hg hB
  go_enter Try.func92, Try.ntmps92
  go_wp2_with fail
  refine HI.out.mono ?_
  rintro e w1 ⟨r, rfl, hr, hg⟩
  go_wp2_with fail
  go_ret
  exact ⟨rfl, hg⟩
set_option maxHeartbeats 16000000 in
theorem Spells_t1 (w : World) (s : Option Addr) (n cap d p m : Nat) (l : List Nat) (hn : l.length = n) (hl : BySl w s l) (hz : s = none → n = 0 ∧ cap = 0) (hc : n ≤ cap) (hm : cap ≤ 9223372036854775807) :
    Calls Try.prog 86 #[.agg #[.int .u8 (d : Int), .int .i64 (p : Int), .int .i64 (m : Int), (.func (.func 89) #[] #[])], .slice s n cap] w (RetB w (spellsB 1 l)) := by
  have hmf : ∀ (fn : Fn) (first cap : Array Value) (w : World), (Instr.makeFunc fn first cap).run Try.prog w = .ok (.func fn first cap) w := fun _ _ _ _ => rfl
  have g2 := World.grownBy_alloc w (.cells #[.int .u8 (d : Int), .int .i64 (p : Int), .int .i64 (m : Int), (.func (.func 89) #[] #[])] 112) none
  have b2 := heap_new w (.cells #[.int .u8 (d : Int), .int .i64 (p : Int), .int .i64 (m : Int), (.func (.func 89) #[] #[])] 112) w.heap.size rfl
  obtain ⟨D0, D1, D2, D3, _, _, _, _⟩ := box_cells4 b2
  have heq : ∀ W, (binOp .eql 87 (.func (.func 89) #[] #[]) .nilFunc).run Try.prog W = .ok (.bool false) W := fun _ => by kernel_rfl
  have e : spellsB 1 l = (decide (0 < (lettersL l).length) && (lettersL l).all (signB 1)) := by
    unfold spellsB
    rfl
  rw [e]
  have hlt := letters_take l
  have hln := letters_len l
  rw [hn] at hln
  have HL := Lib.hid (Letters_any _ s n cap l hn (hl.kept g2) hz hc hm)
  have hl2 : ∀ W, w.grownBy W none → BySl W s (lettersL l) := fun W h => by rw [hlt]; exact (hl.kept h).take _
  unfold RetLet at HL
  obtain ⟨m2, hm2⟩ : ∃ m2, lettersL l = m2 := ⟨_, rfl⟩
  rw [hm2] at hl2 hln HL ⊢
  have HB := Lib.hid b2
  have HG2 := Lib.hid g2
  have HL2 := Lib.hid hl2
  obtain ⟨k, hk⟩ : ∃ k, m2.length = k := ⟨_, rfl⟩
  rw [hk] at HL hln ⊢
  have HK := Lib.hid hk
  clear hl hz hn e hl2 hlt hm2 hk b2 g2
  go_enter Try.func86, Try.ntmps86
  go_wp2_with (simp only [heq])
  refine HL.out.mono ?_
  rintro e w1 ⟨rfl, hg1⟩
  have HG1 := Lib.hid hg1
  clear hg1
  by_cases h0 : 0 < k
  · have f1 : decide ((0 : Int) < (k : Int)) = true := decide_eq_true (by omega)
    have f2 : decide (0 < k) = true := decide_eq_true h0
    have HC := Lib.hid (ContainsFunc_any w1 s k cap w.heap.size d p m 1 m2 HK.out (HL2.out _ (grown_trans HG2.out HG1.out)) (by omega) (by omega) (heap_kept HG1.out HB.out))
    obtain ⟨B, hB⟩ : ∃ B, m2.all (signB 1) = B := ⟨_, rfl⟩
    rw [hB] at HC
    have HBB := Lib.hid hB
    clear hB
    go_wp2_with fail
    refine HC.out.mono ?_
    rintro e w2 ⟨rfl, hg2⟩
    go_wp2_with fail
    go_ret
    exact ⟨by rw [f2, HBB.out]; simp, grown_trans (grown_trans HG2.out HG1.out) hg2⟩
  · have f1 : decide ((0 : Int) < (k : Int)) = false := decide_eq_false (by omega)
    have f2 : decide (0 < k) = false := decide_eq_false h0
    go_wp2_with fail
    go_ret
    exact ⟨by rw [f2]; rfl, grown_trans HG2.out HG1.out⟩
set_option maxHeartbeats 16000000 in
theorem Spells_t2 (w : World) (s : Option Addr) (n cap d p m : Nat) (l : List Nat) (hn : l.length = n) (hl : BySl w s l) (hz : s = none → n = 0 ∧ cap = 0) (hc : n ≤ cap) (hm : cap ≤ 9223372036854775807) :
    Calls Try.prog 86 #[.agg #[.int .u8 (d : Int), .int .i64 (p : Int), .int .i64 (m : Int), (.func (.func 90) #[] #[])], .slice s n cap] w (RetB w (spellsB 2 l)) := by
  have hmf : ∀ (fn : Fn) (first cap : Array Value) (w : World), (Instr.makeFunc fn first cap).run Try.prog w = .ok (.func fn first cap) w := fun _ _ _ _ => rfl
  have g2 := World.grownBy_alloc w (.cells #[.int .u8 (d : Int), .int .i64 (p : Int), .int .i64 (m : Int), (.func (.func 90) #[] #[])] 112) none
  have b2 := heap_new w (.cells #[.int .u8 (d : Int), .int .i64 (p : Int), .int .i64 (m : Int), (.func (.func 90) #[] #[])] 112) w.heap.size rfl
  obtain ⟨D0, D1, D2, D3, _, _, _, _⟩ := box_cells4 b2
  have heq : ∀ W, (binOp .eql 87 (.func (.func 90) #[] #[]) .nilFunc).run Try.prog W = .ok (.bool false) W := fun _ => by kernel_rfl
  have e : spellsB 2 l = (decide (0 < (lettersL l).length) && (lettersL l).all (signB 2)) := by
    unfold spellsB
    rfl
  rw [e]
  have hlt := letters_take l
  have hln := letters_len l
  rw [hn] at hln
  have HL := Lib.hid (Letters_any _ s n cap l hn (hl.kept g2) hz hc hm)
  have hl2 : ∀ W, w.grownBy W none → BySl W s (lettersL l) := fun W h => by rw [hlt]; exact (hl.kept h).take _
  unfold RetLet at HL
  obtain ⟨m2, hm2⟩ : ∃ m2, lettersL l = m2 := ⟨_, rfl⟩
  rw [hm2] at hl2 hln HL ⊢
  have HB := Lib.hid b2
  have HG2 := Lib.hid g2
  have HL2 := Lib.hid hl2
  obtain ⟨k, hk⟩ : ∃ k, m2.length = k := ⟨_, rfl⟩
  rw [hk] at HL hln ⊢
  have HK := Lib.hid hk
  clear hl hz hn e hl2 hlt hm2 hk b2 g2
  go_enter Try.func86, Try.ntmps86
  go_wp2_with (simp only [heq])
  refine HL.out.mono ?_
  rintro e w1 ⟨rfl, hg1⟩
  have HG1 := Lib.hid hg1
  clear hg1
  by_cases h0 : 0 < k
  · have f1 : decide ((0 : Int) < (k : Int)) = true := decide_eq_true (by omega)
    have f2 : decide (0 < k) = true := decide_eq_true h0
    have HC := Lib.hid (ContainsFunc_any w1 s k cap w.heap.size d p m 2 m2 HK.out (HL2.out _ (grown_trans HG2.out HG1.out)) (by omega) (by omega) (heap_kept HG1.out HB.out))
    obtain ⟨B, hB⟩ : ∃ B, m2.all (signB 2) = B := ⟨_, rfl⟩
    rw [hB] at HC
    have HBB := Lib.hid hB
    clear hB
    go_wp2_with fail
    refine HC.out.mono ?_
    rintro e w2 ⟨rfl, hg2⟩
    go_wp2_with fail
    go_ret
    exact ⟨by rw [f2, HBB.out]; simp, grown_trans (grown_trans HG2.out HG1.out) hg2⟩
  · have f1 : decide ((0 : Int) < (k : Int)) = false := decide_eq_false (by omega)
    have f2 : decide (0 < k) = false := decide_eq_false h0
    go_wp2_with fail
    go_ret
    exact ⟨by rw [f2]; rfl, grown_trans HG2.out HG1.out⟩
set_option maxHeartbeats 16000000 in
theorem Spells_none (w : World) (s : Option Addr) (n cap d p m : Nat) :
    Calls Try.prog 86 #[.agg #[.int .u8 (d : Int), .int .i64 (p : Int), .int .i64 (m : Int), .nilFunc], .slice s n cap] w (RetB w true) := by
  have g2 := World.grownBy_alloc w (.cells #[.int .u8 (d : Int), .int .i64 (p : Int), .int .i64 (m : Int), .nilFunc] 112) none
  have b2 := heap_new w (.cells #[.int .u8 (d : Int), .int .i64 (p : Int), .int .i64 (m : Int), .nilFunc] 112) w.heap.size rfl
  obtain ⟨D0, D1, D2, D3, _, _, _, _⟩ := box_cells4 b2
  clear b2
  have heq : ∀ W, (binOp .eql 87 .nilFunc .nilFunc).run Try.prog W = .ok (.bool true) W := fun _ => by kernel_rfl
  go_enter Try.func86, Try.ntmps86
  go_wp2_with (simp only [heq])
  go_ret
  exact ⟨rfl, g2⟩
theorem Spells_any (w : World) (s : Option Addr) (n cap d p m g : Nat) (l : List Nat) (hn : l.length = n) (hl : BySl w s l) (hz : s = none → n = 0 ∧ cap = 0) (hc : n ≤ cap) (hm : cap ≤ 9223372036854775807) (hg : g ≤ 2) :
    Calls Try.prog 86 #[.agg #[.int .u8 (d : Int), .int .i64 (p : Int), .int .i64 (m : Int), sigV g], .slice s n cap] w (RetB w (spellsB g l)) := by
  rcases Nat.eq_zero_or_pos g with rfl | h
  · exact Spells_none w s n cap d p m
  · rcases (show g = 1 ∨ g = 2 by omega) with rfl | rfl
    · exact Spells_t1 w s n cap d p m l hn hl hz hc hm
    · exact Spells_t2 w s n cap d p m l hn hl hz hc hm
end Go.Proofs.Ytcioefmldcmhgaa
