/- Records: Right, of all records. -/
import Derived.Test.YtcioefmldcmhgaaKSg
namespace Go.Proofs.Ytcioefmldcmhgaa
open Go.RowKit
set_option maxRecDepth 100000
set_option linter.unusedVariables false
set_option linter.unusedSimpArgs false

def FrmOk (f : Frm) : Prop := (f.2.2.1 = 0 ∨ 0 < f.2.1) ∧ f.2.1 ≤ 176 ∧ f.2.2.2 ≤ 2
theorem ite_frm {c : Prop} [Decidable c] {a : Frm} {b : Option Frm} (ha : FrmOk a) (hb : ∀ f, b = some f → FrmOk f) : ∀ f, (if c then some a else b) = some f → FrmOk f := by
  intro f h
  by_cases hc : c
  · rw [if_pos hc] at h; cases h; exact ha
  · rw [if_neg hc] at h; exact hb f h
theorem frm_ok {k : Nat} {f : Frm} (h : frm k = some f) : (f.2.2.1 = 0 ∨ 0 < f.2.1) ∧ f.2.1 ≤ 176 ∧ f.2.2.2 ≤ 2 := by
  revert h f
  show ∀ f, frm k = some f → FrmOk f
  unfold frm
  repeat (refine ite_frm (by unfold FrmOk; decide) ?_)
  intro f h; cases h
set_option maxHeartbeats 16000000 in
theorem Right_s0 (w : World) (s : Option Addr) (k d dd p m n cap : Nat) (l : List Nat) (hf : frm k = some (dd, p, m, 0)) (hn : l.length = n) (hl : BySl w s l) (hz : s = none → n = 0 ∧ cap = 0) (hc : n ≤ cap) (hm : cap ≤ 9223372036854775807) :
    Calls Try.prog 79 #[.agg #[.int .u8 (k : Int), .int .u8 (d : Int), .slice s n cap]] w (RetB w (rightB k d l)) := by
  obtain ⟨k1, k2, _⟩ := frm_ok hf
  dsimp only at k1 k2
  have hR : rightB k d l = (decide (d = dd) && (fitsB p m n && spellsB 0 l)) := by rw [frm_some hf, hn]
  rw [hR]
  have HFr := Lib.hid (fun W => ((FrameOf_any W k).mono (R' := RetFrm W (frV (dd, p, m, 0)) true) (fun e w' h => by
    rcases h with ⟨f, h1, h2⟩ | ⟨h1, _⟩
    · rw [hf] at h1; cases h1; exact h2
    · rw [hf] at h1; cases h1)))
  have HFi := Lib.hid (fun W => Fits_any W dd p m n .nilFunc k1 (by omega) (by omega))
  have HSp := Lib.hid (fun W (h : w.grownBy W none) => Spells_any W s n cap dd p m 0 l hn (hl.kept h) hz hc hm (by omega))
  clear hf hR hn hl hz k1 k2
  obtain ⟨A, hA⟩ : ∃ A, fitsB p m n = A := ⟨_, rfl⟩
  obtain ⟨B, hB⟩ : ∃ B, spellsB 0 l = B := ⟨_, rfl⟩
  rw [hA, hB]
  rw [hA] at HFi
  rw [hB] at HSp
  clear hA hB
  have g1 := World.grownBy_alloc w (.cells #[.int .u8 (k : Int), .int .u8 (d : Int), .slice s n cap] 45) none
  have b1 := heap_new w (.cells #[.int .u8 (k : Int), .int .u8 (d : Int), .slice s n cap] 45) w.heap.size rfl
  obtain ⟨C0, C1, C2, _, _, _⟩ := box_cells3 b1
  have HQ : Hid (∀ c : Bool, c = (decide (d = dd) && (A && B)) → ∀ W, w.grownBy W none → RetB w (decide (d = dd) && (A && B)) (.returned (.bool c)) W) := Lib.hid (fun c hc W hW => ⟨by rw [hc], hW⟩)
  obtain ⟨P, hP⟩ : ∃ P, RetB w (decide (d = dd) && (A && B)) = P := ⟨_, rfl⟩
  rw [hP] at HQ ⊢
  clear hP
  go_enter Try.func79, Try.ntmps79
  go_wp2_with fail
  refine (HFr.out _).mono ?_
  rintro e w1 ⟨rfl, hg1⟩
  replace g1 := grown_trans g1 hg1
  replace b1 := heap_kept hg1 b1
  clear hg1 C0 C1 C2
  have gA := World.grownBy_alloc w1 (.cells #[.int .u8 (dd : Int), .int .i64 (p : Int), .int .i64 (m : Int), .nilFunc] 112) none
  have b2 := heap_new w1 (.cells #[.int .u8 (dd : Int), .int .i64 (p : Int), .int .i64 (m : Int), .nilFunc] 112) w1.heap.size rfl
  replace b1 := heap_kept gA b1
  replace g1 := grown_trans g1 gA
  clear gA
  have hr : frV (dd, p, m, 0) = .agg #[.int .u8 (dd : Int), .int .i64 (p : Int), .int .i64 (m : Int), .nilFunc] := rfl
  rw [hr]
  clear hr
  obtain ⟨C0, C1, C2, _, _, _⟩ := box_cells3 b1
  obtain ⟨D0, D1, D2, D3, _, _, _, _⟩ := box_cells4 b2
  by_cases hd : d = dd
  · have f1 : ((d : Int) == (dd : Int)) = true := beq_iff_eq.2 (by omega)
    have f2 : decide (d = dd) = true := decide_eq_true hd
    rw [f2] at HQ
    clear hd f2
    go_wp2_with fail
    refine (HFi.out _).mono ?_
    rintro e w2 ⟨rfl, hg2⟩
    replace b1 := heap_kept hg2 b1
    replace b2 := heap_kept hg2 b2
    replace g1 := grown_trans g1 hg2
    clear hg2 C0 C1 C2 D0 D1 D2 D3
    obtain ⟨C0, C1, C2, _, _, _⟩ := box_cells3 b1
    obtain ⟨D0, D1, D2, D3, _, _, _, _⟩ := box_cells4 b2
    cases A
    · go_wp2_with fail
      exact HQ.out _ rfl _ g1
    · go_wp2_with fail
      refine (HSp.out _ g1).mono ?_
      rintro e w3 ⟨rfl, hg3⟩
      go_wp2_with fail
      exact HQ.out _ (by simp) _ (grown_trans g1 hg3)
  · have f1 : ((d : Int) == (dd : Int)) = false := beq_eq_false_iff_ne.2 (by omega)
    have f2 : decide (d = dd) = false := decide_eq_false hd
    rw [f2] at HQ
    clear hd f2
    go_wp2_with fail
    exact HQ.out _ rfl _ g1
set_option maxHeartbeats 16000000 in
theorem Right_s1 (w : World) (s : Option Addr) (k d dd p m n cap : Nat) (l : List Nat) (hf : frm k = some (dd, p, m, 1)) (hn : l.length = n) (hl : BySl w s l) (hz : s = none → n = 0 ∧ cap = 0) (hc : n ≤ cap) (hm : cap ≤ 9223372036854775807) :
    Calls Try.prog 79 #[.agg #[.int .u8 (k : Int), .int .u8 (d : Int), .slice s n cap]] w (RetB w (rightB k d l)) := by
  obtain ⟨k1, k2, _⟩ := frm_ok hf
  dsimp only at k1 k2
  have hR : rightB k d l = (decide (d = dd) && (fitsB p m n && spellsB 1 l)) := by rw [frm_some hf, hn]
  rw [hR]
  have HFr := Lib.hid (fun W => ((FrameOf_any W k).mono (R' := RetFrm W (frV (dd, p, m, 1)) true) (fun e w' h => by
    rcases h with ⟨f, h1, h2⟩ | ⟨h1, _⟩
    · rw [hf] at h1; cases h1; exact h2
    · rw [hf] at h1; cases h1)))
  have HFi := Lib.hid (fun W => Fits_any W dd p m n (.func (.func 89) #[] #[]) k1 (by omega) (by omega))
  have HSp := Lib.hid (fun W (h : w.grownBy W none) => Spells_any W s n cap dd p m 1 l hn (hl.kept h) hz hc hm (by omega))
  clear hf hR hn hl hz k1 k2
  obtain ⟨A, hA⟩ : ∃ A, fitsB p m n = A := ⟨_, rfl⟩
  obtain ⟨B, hB⟩ : ∃ B, spellsB 1 l = B := ⟨_, rfl⟩
  rw [hA, hB]
  rw [hA] at HFi
  rw [hB] at HSp
  clear hA hB
  have g1 := World.grownBy_alloc w (.cells #[.int .u8 (k : Int), .int .u8 (d : Int), .slice s n cap] 45) none
  have b1 := heap_new w (.cells #[.int .u8 (k : Int), .int .u8 (d : Int), .slice s n cap] 45) w.heap.size rfl
  obtain ⟨C0, C1, C2, _, _, _⟩ := box_cells3 b1
  have HQ : Hid (∀ c : Bool, c = (decide (d = dd) && (A && B)) → ∀ W, w.grownBy W none → RetB w (decide (d = dd) && (A && B)) (.returned (.bool c)) W) := Lib.hid (fun c hc W hW => ⟨by rw [hc], hW⟩)
  obtain ⟨P, hP⟩ : ∃ P, RetB w (decide (d = dd) && (A && B)) = P := ⟨_, rfl⟩
  rw [hP] at HQ ⊢
  clear hP
  go_enter Try.func79, Try.ntmps79
  go_wp2_with fail
  refine (HFr.out _).mono ?_
  rintro e w1 ⟨rfl, hg1⟩
  replace g1 := grown_trans g1 hg1
  replace b1 := heap_kept hg1 b1
  clear hg1 C0 C1 C2
  have gA := World.grownBy_alloc w1 (.cells #[.int .u8 (dd : Int), .int .i64 (p : Int), .int .i64 (m : Int), (.func (.func 89) #[] #[])] 112) none
  have b2 := heap_new w1 (.cells #[.int .u8 (dd : Int), .int .i64 (p : Int), .int .i64 (m : Int), (.func (.func 89) #[] #[])] 112) w1.heap.size rfl
  replace b1 := heap_kept gA b1
  replace g1 := grown_trans g1 gA
  clear gA
  have hr : frV (dd, p, m, 1) = .agg #[.int .u8 (dd : Int), .int .i64 (p : Int), .int .i64 (m : Int), (.func (.func 89) #[] #[])] := rfl
  rw [hr]
  clear hr
  obtain ⟨C0, C1, C2, _, _, _⟩ := box_cells3 b1
  obtain ⟨D0, D1, D2, D3, _, _, _, _⟩ := box_cells4 b2
  by_cases hd : d = dd
  · have f1 : ((d : Int) == (dd : Int)) = true := beq_iff_eq.2 (by omega)
    have f2 : decide (d = dd) = true := decide_eq_true hd
    rw [f2] at HQ
    clear hd f2
    go_wp2_with fail
    refine (HFi.out _).mono ?_
    rintro e w2 ⟨rfl, hg2⟩
    replace b1 := heap_kept hg2 b1
    replace b2 := heap_kept hg2 b2
    replace g1 := grown_trans g1 hg2
    clear hg2 C0 C1 C2 D0 D1 D2 D3
    obtain ⟨C0, C1, C2, _, _, _⟩ := box_cells3 b1
    obtain ⟨D0, D1, D2, D3, _, _, _, _⟩ := box_cells4 b2
    cases A
    · go_wp2_with fail
      exact HQ.out _ rfl _ g1
    · go_wp2_with fail
      refine (HSp.out _ g1).mono ?_
      rintro e w3 ⟨rfl, hg3⟩
      go_wp2_with fail
      exact HQ.out _ (by simp) _ (grown_trans g1 hg3)
  · have f1 : ((d : Int) == (dd : Int)) = false := beq_eq_false_iff_ne.2 (by omega)
    have f2 : decide (d = dd) = false := decide_eq_false hd
    rw [f2] at HQ
    clear hd f2
    go_wp2_with fail
    exact HQ.out _ rfl _ g1
set_option maxHeartbeats 16000000 in
theorem Right_s2 (w : World) (s : Option Addr) (k d dd p m n cap : Nat) (l : List Nat) (hf : frm k = some (dd, p, m, 2)) (hn : l.length = n) (hl : BySl w s l) (hz : s = none → n = 0 ∧ cap = 0) (hc : n ≤ cap) (hm : cap ≤ 9223372036854775807) :
    Calls Try.prog 79 #[.agg #[.int .u8 (k : Int), .int .u8 (d : Int), .slice s n cap]] w (RetB w (rightB k d l)) := by
  obtain ⟨k1, k2, _⟩ := frm_ok hf
  dsimp only at k1 k2
  have hR : rightB k d l = (decide (d = dd) && (fitsB p m n && spellsB 2 l)) := by rw [frm_some hf, hn]
  rw [hR]
  have HFr := Lib.hid (fun W => ((FrameOf_any W k).mono (R' := RetFrm W (frV (dd, p, m, 2)) true) (fun e w' h => by
    rcases h with ⟨f, h1, h2⟩ | ⟨h1, _⟩
    · rw [hf] at h1; cases h1; exact h2
    · rw [hf] at h1; cases h1)))
  have HFi := Lib.hid (fun W => Fits_any W dd p m n (.func (.func 90) #[] #[]) k1 (by omega) (by omega))
  have HSp := Lib.hid (fun W (h : w.grownBy W none) => Spells_any W s n cap dd p m 2 l hn (hl.kept h) hz hc hm (by omega))
  clear hf hR hn hl hz k1 k2
  obtain ⟨A, hA⟩ : ∃ A, fitsB p m n = A := ⟨_, rfl⟩
  obtain ⟨B, hB⟩ : ∃ B, spellsB 2 l = B := ⟨_, rfl⟩
  rw [hA, hB]
  rw [hA] at HFi
  rw [hB] at HSp
  clear hA hB
  have g1 := World.grownBy_alloc w (.cells #[.int .u8 (k : Int), .int .u8 (d : Int), .slice s n cap] 45) none
  have b1 := heap_new w (.cells #[.int .u8 (k : Int), .int .u8 (d : Int), .slice s n cap] 45) w.heap.size rfl
  obtain ⟨C0, C1, C2, _, _, _⟩ := box_cells3 b1
  have HQ : Hid (∀ c : Bool, c = (decide (d = dd) && (A && B)) → ∀ W, w.grownBy W none → RetB w (decide (d = dd) && (A && B)) (.returned (.bool c)) W) := Lib.hid (fun c hc W hW => ⟨by rw [hc], hW⟩)
  obtain ⟨P, hP⟩ : ∃ P, RetB w (decide (d = dd) && (A && B)) = P := ⟨_, rfl⟩
  rw [hP] at HQ ⊢
  clear hP
  go_enter Try.func79, Try.ntmps79
  go_wp2_with fail
  refine (HFr.out _).mono ?_
  rintro e w1 ⟨rfl, hg1⟩
  replace g1 := grown_trans g1 hg1
  replace b1 := heap_kept hg1 b1
  clear hg1 C0 C1 C2
  have gA := World.grownBy_alloc w1 (.cells #[.int .u8 (dd : Int), .int .i64 (p : Int), .int .i64 (m : Int), (.func (.func 90) #[] #[])] 112) none
  have b2 := heap_new w1 (.cells #[.int .u8 (dd : Int), .int .i64 (p : Int), .int .i64 (m : Int), (.func (.func 90) #[] #[])] 112) w1.heap.size rfl
  replace b1 := heap_kept gA b1
  replace g1 := grown_trans g1 gA
  clear gA
  have hr : frV (dd, p, m, 2) = .agg #[.int .u8 (dd : Int), .int .i64 (p : Int), .int .i64 (m : Int), (.func (.func 90) #[] #[])] := rfl
  rw [hr]
  clear hr
  obtain ⟨C0, C1, C2, _, _, _⟩ := box_cells3 b1
  obtain ⟨D0, D1, D2, D3, _, _, _, _⟩ := box_cells4 b2
  by_cases hd : d = dd
  · have f1 : ((d : Int) == (dd : Int)) = true := beq_iff_eq.2 (by omega)
    have f2 : decide (d = dd) = true := decide_eq_true hd
    rw [f2] at HQ
    clear hd f2
    go_wp2_with fail
    refine (HFi.out _).mono ?_
    rintro e w2 ⟨rfl, hg2⟩
    replace b1 := heap_kept hg2 b1
    replace b2 := heap_kept hg2 b2
    replace g1 := grown_trans g1 hg2
    clear hg2 C0 C1 C2 D0 D1 D2 D3
    obtain ⟨C0, C1, C2, _, _, _⟩ := box_cells3 b1
    obtain ⟨D0, D1, D2, D3, _, _, _, _⟩ := box_cells4 b2
    cases A
    · go_wp2_with fail
      exact HQ.out _ rfl _ g1
    · go_wp2_with fail
      refine (HSp.out _ g1).mono ?_
      rintro e w3 ⟨rfl, hg3⟩
      go_wp2_with fail
      exact HQ.out _ (by simp) _ (grown_trans g1 hg3)
  · have f1 : ((d : Int) == (dd : Int)) = false := beq_eq_false_iff_ne.2 (by omega)
    have f2 : decide (d = dd) = false := decide_eq_false hd
    rw [f2] at HQ
    clear hd f2
    go_wp2_with fail
    exact HQ.out _ rfl _ g1
set_option maxHeartbeats 16000000 in
theorem Right_no (w : World) (s : Option Addr) (k d n cap : Nat) (hf : frm k = none) :
    Calls Try.prog 79 #[.agg #[.int .u8 (k : Int), .int .u8 (d : Int), .slice s n cap]] w (RetB w false) := by
  have HFr := Lib.hid (fun W => ((FrameOf_any W k).mono (R' := RetFrm W (.agg #[.int .u8 0, .int .i64 0, .int .i64 0, .nilFunc]) false) (fun e w' h => by
    rcases h with ⟨f, h1, h2⟩ | ⟨_, h1⟩
    · rw [hf] at h1; cases h1
    · exact h1)))
  clear hf
  have g1 := World.grownBy_alloc w (.cells #[.int .u8 (k : Int), .int .u8 (d : Int), .slice s n cap] 45) none
  have b1 := heap_new w (.cells #[.int .u8 (k : Int), .int .u8 (d : Int), .slice s n cap] 45) w.heap.size rfl
  obtain ⟨C0, C1, C2, _, _, _⟩ := box_cells3 b1
  go_enter Try.func79, Try.ntmps79
  go_wp2_with fail
  refine (HFr.out _).mono ?_
  rintro e w1 ⟨rfl, hg1⟩
  replace g1 := grown_trans g1 hg1
  have gA := World.grownBy_alloc w1 (.cells #[.int .u8 0, .int .i64 0, .int .i64 0, .nilFunc] 112) none
  replace g1 := grown_trans g1 gA
  clear hg1 C0 C1 C2 gA
  go_wp2_with fail
  go_ret
  exact ⟨rfl, g1⟩
theorem Right_any (w : World) (s : Option Addr) (k d n cap : Nat) (l : List Nat) (hn : l.length = n) (hl : BySl w s l) (hz : s = none → n = 0 ∧ cap = 0) (hc : n ≤ cap) (hm : cap ≤ 9223372036854775807) :
    Calls Try.prog 79 #[.agg #[.int .u8 (k : Int), .int .u8 (d : Int), .slice s n cap]] w (RetB w (rightB k d l)) := by
  cases hf : frm k with
  | none => rw [frm_none hf]; exact Right_no w s k d n cap hf
  | some f =>
    obtain ⟨dd, p, m, g⟩ := f
    have := (frm_ok hf).2.2
    dsimp only at this
    rcases (show g = 0 ∨ g = 1 ∨ g = 2 by omega) with rfl | rfl | rfl
    · exact Right_s0 w s k d dd p m n cap l hf hn hl hz hc hm
    · exact Right_s1 w s k d dd p m n cap l hf hn hl hz hc hm
    · exact Right_s2 w s k d dd p m n cap l hf hn hl hz hc hm
theorem Right_0 (w : World) (s : Option Addr) (cap : Nat) (l : List Nat) (hn : l.length = 2) (hl : BySl w s l) (hz : s = none → 2 = 0 ∧ cap = 0) (hc : 2 ≤ cap) (hm : cap ≤ 9223372036854775807) : Calls Try.prog 79 #[.agg #[.int .u8 0, .int .u8 2, .slice s 2 cap]] w (RetYes w) := by
  have h := Right_any w s 0 2 2 cap l hn hl hz hc hm
  have e : rightB 0 2 l = true := by rw [frm_some (f := (2, 2, 1, 0)) rfl, hn]; rfl
  rw [e] at h
  exact h
theorem Right_4 (w : World) (s : Option Addr) (cap : Nat) (l : List Nat) (hn : l.length = 0) (hl : BySl w s l) (hz : s = none → 0 = 0 ∧ cap = 0) (hc : 0 ≤ cap) (hm : cap ≤ 9223372036854775807) : Calls Try.prog 79 #[.agg #[.int .u8 4, .int .u8 0, .slice s 0 cap]] w (RetYes w) := by
  have h := Right_any w s 4 0 0 cap l hn hl hz hc hm
  have e : rightB 4 0 l = true := by rw [frm_some (f := (0, 0, 0, 0)) rfl, hn]; rfl
  rw [e] at h
  exact h
end Go.Proofs.Ytcioefmldcmhgaa
