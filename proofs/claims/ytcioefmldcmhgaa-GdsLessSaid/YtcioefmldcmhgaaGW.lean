/- Streams as trees: whole, check, Valid. -/
import Derived.Test.YtcioefmldcmhgaaGV
namespace Go.Proofs.Ytcioefmldcmhgaa
open Go.RowKit
set_option maxRecDepth 100000
set_option linter.unusedVariables false
set_option linter.unusedSimpArgs false

/-- Nothing is thrown, or a misfit. -/
def RetOk (w : World) (b : Bool) (e : Ending) (w' : World) : Prop := w.grownBy w' none ∧ ((b = true ∧ e = .returned (.tuple #[])) ∨ (b = false ∧ e = mis))
/-- All of a list fits a rule. -/
def fitR (r : Ru) (l : List KRec) : Bool := decide (run r l = some [])
set_option maxHeartbeats 16000000 in
theorem Whole_any (w : World) (F : Nat) (r : Ru) (s : Option Addr) (n cap : Nat) (rs : List KRec) (hn : rs.length = n) (hl : RcSl w s rs) (hs : Small rs) (hok : SlOk s n cap)
    (hcf : ∀ (args : Array Value) (W : World), (callFunc F args).run Try.prog W = .ok (.enter F args) W)
    (HR : Hid (∀ (c : Lst), c.ok → ∀ W g m, Ps c g W m → Calls Try.prog F #[.pointer (some ⟨g, 0, none⟩)] W (RetRu c g W (run r m)))) :
    Calls Try.prog 59 #[.slice s n cap, .func (.func F) #[] #[]] w (RetOk w (fitR r rs)) := by
  obtain ⟨c, hc⟩ : ∃ c : Lst, c = ⟨w, s, n, cap, rs⟩ := ⟨_, rfl⟩
  have hk : c.ok := by rw [hc]; exact ⟨hn, hl, hs, hok.1, hok.2.1, hok.2.2⟩
  have hO := Over_any c w (by rw [hc]; exact grown_refl _ _)
  rw [show c.s = s from by rw [hc], show c.n = n from by rw [hc], show c.cap = cap from by rw [hc]] at hO
  have HO := Lib.hid hO
  have HK := Lib.hid hk
  have HKn : Hid (c.rs.length = n) := Lib.hid (by rw [hc]; exact hn)
  have HRS : Hid (c.rs = rs) := Lib.hid (by rw [hc])
  have HC := Lib.hid (HR.out c hk)
  clear hO hk hc hl hs hok hn HR
  go_enter Try.func59, Try.ntmps59
  go_wp2_with fail
  refine HO.out.mono ?_
  rintro e w1 ⟨rfl, hg1, hp1⟩
  have HP1 := Lib.hid (hp1 HKn.out)
  have HG1 := Lib.hid hg1
  clear hg1 hp1
  go_wp2_with fail
  refine (HC.out w1 w.heap.size c.rs HP1.out).mono ?_
  rintro e w2 (⟨hT, rfl, hg2⟩ | ⟨t, hT, rfl, hg2, hp2⟩)
  · have hF : Hid (RetOk w (fitR r rs) mis w2) := Lib.hid ⟨grown_new HG1.out hg2 (Nat.le_refl _), Or.inr ⟨decide_eq_false (by rw [← HRS.out, hT]; simp), rfl⟩⟩
    clear hT hg2
    go_wp2_with fail
    exact ⟨rfl, hF.out⟩
  · have HG2 := Lib.hid (grown_new HG1.out hg2 (Nat.le_refl _))
    have HT := Lib.hid hT
    have HP2 := Lib.hid hp2
    clear hT hg2 hp2
    go_wp2_with fail
    refine (End_any c w2 w.heap.size t HP2.out).mono ?_
    rintro e w3 ⟨hg3, ⟨ht, rfl⟩ | ⟨ht, rfl⟩⟩
    · have hF : Hid (RetOk w (fitR r rs) (.returned (.tuple #[])) w3) := Lib.hid ⟨grown_trans HG2.out hg3, Or.inl ⟨decide_eq_true (by rw [← HRS.out, HT.out, ht]), rfl⟩⟩
      clear ht hg3
      go_wp2_with fail
      first | go_end0 | refine bodyPost_ret (results_none rfl _ _ _) rfl ?_
      exact hF.out
    · have hF : Hid (RetOk w (fitR r rs) mis w3) := Lib.hid ⟨grown_trans HG2.out hg3, Or.inr ⟨decide_eq_false (by rw [← HRS.out, HT.out]; intro h; exact ht (Option.some.inj h)), rfl⟩⟩
      clear ht hg3
      go_wp2_with fail
      exact ⟨rfl, hF.out⟩
theorem WholeV (w : World) (F : Nat) (r : Ru) (v : Value) (rs : List KRec) (hv : RecsV w v rs)
    (hcf : ∀ (args : Array Value) (W : World), (callFunc F args).run Try.prog W = .ok (.enter F args) W)
    (HR : Hid (∀ (c : Lst), c.ok → ∀ W g m, Ps c g W m → Calls Try.prog F #[.pointer (some ⟨g, 0, none⟩)] W (RetRu c g W (run r m)))) :
    Calls Try.prog 59 #[v, .func (.func F) #[] #[]] w (RetOk w (fitR r rs)) := by
  obtain ⟨s, c, rfl, h1, h2, h3⟩ := hv
  exact Whole_any w F r s rs.length c rs rfl h1 h3 h2 hcf HR
def okI (x : KItem) : Bool := fitR elementRu x.1 && fitR .props x.2
def okC (c : KCell) : Bool := fitR titleRu c.1 && c.2.all okI
def okL (t : KLib) : Bool := fitR headRu t.1 && t.2.all okC
theorem okI_iff (x : KItem) : okI x = true ↔ IsItem x := by simp [okI, IsItem, fitR]
theorem okC_iff (c : KCell) : okC c = true ↔ IsCell c := by simp [okC, IsCell, fitR, okI_iff]
theorem okL_iff (t : KLib) : okL t = true ↔ IsLib t := by simp [okL, IsLib, fitR, okC_iff]
theorem okL_head {t : KLib} (h : fitR headRu t.1 = false) : okL t = false := by simp [okL, h]
theorem okL_cell {t : KLib} {i : Nat} (hi : i < t.2.length) (h : okC t.2[i] = false) : okL t = false := by
  cases hk : okL t with
  | false => rfl
  | true =>
    unfold okL at hk
    rw [Bool.and_eq_true, List.all_eq_true] at hk
    rw [hk.2 _ (List.getElem_mem hi)] at h; cases h
theorem okC_item {c : KCell} {i : Nat} (hi : i < c.2.length) (h : okI c.2[i] = false) : okC c = false := by
  cases hk : okC c with
  | false => rfl
  | true =>
    unfold okC at hk
    rw [Bool.and_eq_true, List.all_eq_true] at hk
    rw [hk.2 _ (List.getElem_mem hi)] at h; cases h
theorem okL_all {t : KLib} (h : fitR headRu t.1 = true) (h2 : ∀ i (hi : i < t.2.length), okC t.2[i] = true) : okL t = true := by
  unfold okL
  rw [h, Bool.true_and, List.all_eq_true]
  intro c hc
  obtain ⟨i, hi, rfl⟩ := List.getElem_of_mem hc
  exact h2 i hi
theorem okC_all {c : KCell} (h : fitR titleRu c.1 = true) (h2 : ∀ i (hi : i < c.2.length), okI c.2[i] = true) : okC c = true := by
  unfold okC
  rw [h, Bool.true_and, List.all_eq_true]
  intro x hx
  obtain ⟨i, hi, rfl⟩ := List.getElem_of_mem hx
  exact h2 i hi
theorem okC_head {c : KCell} (h : fitR titleRu c.1 = false) : okC c = false := by simp [okC, h]
theorem okI_1 {x : KItem} (h : fitR elementRu x.1 = false) : okI x = false := by simp [okI, h]
theorem okI_2 {x : KItem} (h : fitR .props x.2 = false) : okI x = false := by simp [okI, h]
theorem okI_3 {x : KItem} (h : fitR elementRu x.1 = true) (h2 : fitR .props x.2 = true) : okI x = true := by simp [okI, h, h2]
end Go.Proofs.Ytcioefmldcmhgaa
