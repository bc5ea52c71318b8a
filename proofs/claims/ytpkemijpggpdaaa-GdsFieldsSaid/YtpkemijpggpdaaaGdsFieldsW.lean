/- GdsFields: the law's walk. -/
import Derived.Test.YtpkemijpggpdaaaGA5
import Derived.Test.YtpkemijpggpdaaaGLaw2
import Derived.Test.YtpkemijpggpdaaaGN
namespace Go.Proofs.Ytpkemijpggpdaaa
open Go.RowKit
set_option maxRecDepth 100000
set_option linter.unusedVariables false
set_option linter.unusedSimpArgs false

/-- A library of one cell. -/
theorem lib_one {W : World} {g : Nat} {x y : Value} {c : KCell} (hx : RecsV W x c.1) (hy : ItemsV W y c.2) (h : W.heap[g]? = some (.cells #[x, y] 50 (0, 0))) : LibV W (.agg #[.slice none 0 0, .slice (some ⟨g, 0, none⟩) 1 1]) ([], [c]) := by
  obtain ⟨H0, H1, _, _⟩ := box_cells2 h
  refine ⟨_, _, rfl, ⟨none, 0, rfl, fun i hi => by simp at hi, ⟨fun _ => ⟨rfl, rfl⟩, Nat.le_refl _, by omega⟩, Small.nil⟩, ⟨some ⟨g, 0, none⟩, 1, rfl, fun i hi => ?_, (fun e => by cases e), Nat.le_refl _, by omega⟩⟩
  have : i = 0 := by simp at hi; exact hi
  subst this
  exact ⟨_, x, y, rfl, by simpa [Addr.add] using H0, by simpa [Addr.add] using H1, hx, hy⟩
theorem addr_of (g j : Nat) : (⟨g, 0, none⟩ : Addr).add j = ⟨g, j, none⟩ := by unfold Addr.add; split <;> simp_all
/-- A row of bytes that may be written: whole, in a block of its own. -/
def XorSt (base : Nat) (W : World) (s : Option Addr) (n : Nat) : Prop := n = 0 ∨ ∃ g cur, s = some ⟨g, 0, none⟩ ∧ base ≤ g ∧ W.heap[g]? = some (.cells cur 5 (0, 0)) ∧ ∀ i, i < n → ∃ y : Int, cur[i]? = some (.int .u8 y)
theorem xor_st {W : World} {base m c : Nat} {s : Option Addr} {l : List Nat} (h : OwnB W base (.slice s m c) l) (hm : l.length = m) : XorSt base W s m := by
  obtain ⟨⟨h1, h2⟩, _⟩ := h
  rcases h2 with ⟨_, e⟩ | ⟨g, cap', cur, e, hg', hh, hc, hcm, hs, ht⟩
  · exact Or.inl (by omega)
  · injection e with e1 e2 e3
    refine Or.inr ⟨g, cur, e1, hg', hh, fun i hi => ?_⟩
    have h3 : (bvs l)[i]? = some (.int .u8 ((l.getD i 0 : Nat) : Int)) := by
      have : i < l.length := by omega
      simp [bvs, this]
    rw [← ht, List.getElem?_take] at h3
    split at h3
    · exact ⟨_, by simpa using h3⟩
    · cases h3
theorem XorSt.kept {base n : Nat} {W W' : World} {s : Option Addr} (h : XorSt base W s n) (hg : W.grownBy W' none) : XorSt base W' s n := by
  rcases h with h | ⟨g, cur, e, hb, hh, hx⟩
  · exact Or.inl h
  · exact Or.inr ⟨g, cur, e, hb, heap_kept hg hh, hx⟩
theorem XorSt.at {base n j : Nat} {W : World} {s : Option Addr} (h : XorSt base W s n) (hj : j < n) : ∃ (g : Nat) (y : Int), s = some ⟨g, 0, none⟩ ∧ base ≤ g ∧ W.cell? ⟨g, j, none⟩ = some (.int .u8 y) ∧ W.frozen? ⟨g, j, none⟩ = false ∧ (∀ (k : Nat) (cs : Array Value) (te : TypeId), W.heap[k]? = some (.cells cs te (0, 0)) → te ≠ 5 → k ≠ g) ∧ ∀ v : Int, XorSt base (W.setCell ⟨g, j, none⟩ (.int .u8 v)) s n := by
  rcases h with h | ⟨g, cur, e, hb, hh, hx⟩
  · omega
  · obtain ⟨y, hy⟩ := hx j hj
    refine ⟨g, y, e, hb, by simp [World.cell?, hh, hy], by simp [World.frozen?, hh], ?_, ?_⟩
    · rintro k cs te hk hte rfl
      rw [hh] at hk
      injection hk with hk
      injection hk with _ h2 _
      exact hte h2.symm
    · intro v
      refine Or.inr ⟨g, cur.setIfInBounds j (.int .u8 v), e, hb, by simp [World.setCell, Array.getElem?_modify, hh], fun i hi => ?_⟩
      obtain ⟨z, hz⟩ := hx i hi
      rw [Array.getElem?_setIfInBounds]
      split
      · rename_i e9
        subst e9
        have : j < cur.size := (Array.getElem?_eq_some_iff.1 hz).1
        rw [if_pos this]
        exact ⟨v, rfl⟩
      · exact ⟨z, hz⟩
theorem wf_u8 {z : Int} (h : (Lit.int .u8 z).wf = true) : ∃ k : Nat, z = (k : Int) := by
  have h2 : IntKind.u8.min ≤ z ∧ z ≤ IntKind.u8.max := by simpa [Lit.wf] using h
  have e1 : IntKind.u8.min = 0 := by decide
  exact ⟨z.toNat, by omega⟩
set_option maxHeartbeats 64000000 in
theorem gdsFields_walk (w : World) (v : Value) (c : KCell) (hv : CellV w v c) (hz : SizC c) (kd : Nat) :
    Calls Try.prog 8 #[v, .int .u8 (kd : Int)] w (RetYes w) := by
  obtain ⟨u0, u1, rfl, h0, h1⟩ := hv
  obtain ⟨s0, c0, rfl, hok0⟩ := h0.shape
  obtain ⟨s1, c1, rfl, hpi, hok1⟩ := ItemsV.open h1
  obtain ⟨n0, hn0⟩ : ∃ n, c.1.length = n := ⟨_, rfl⟩
  obtain ⟨n1, hn1⟩ : ∃ n, c.2.length = n := ⟨_, rfl⟩
  rw [hn0] at h0 hok0 ⊢
  rw [hn1] at h1 hok1 ⊢
  have g1 := World.grownBy_alloc w (.cells #[.slice s0 n0 c0, .slice s1 n1 c1] 50) none
  have b1 := heap_new w (.cells #[.slice s0 n0 c0, .slice s1 n1 c1] 50) w.heap.size rfl
  obtain ⟨C0, C1, _, _⟩ := box_cells2 b1
  have HU0 := Lib.hid h0
  have HU1 := Lib.hid h1
  have HPI := Lib.hid hpi
  have HN1 := Lib.hid hn1
  have HZC := Lib.hid hz
  have hn1m : n1 ≤ 9223372036854775807 := Nat.le_trans hok1.2.1 hok1.2.2
  have HSIZ : Hid (SizL ([], [c])) := Lib.hid ⟨⟨by simp, fun r h => by simp at h⟩, fun x hx => by simp at hx; subst hx; exact hz⟩
  clear h0 h1 hpi hn0 hn1 hz
  go_enter Try.func8, Try.ntmps8
  go_wp2_with fail
  generalize (w.alloc (.cells #[.slice s0 n0 c0, .slice s1 n1 c1] 50)) = wa at *
  have HG := Lib.hid g1
  have HB := Lib.hid b1
  have gD : wa.grownBy (wa.drew.alloc (.cells #[.slice s0 n0 c0, .slice s1 n1 c1] 50)) none := grown_trans (grown_drew (grown_refl _ _)) (World.grownBy_alloc wa.drew (.cells #[.slice s0 n0 c0, .slice s1 n1 c1] 50) none)
  have HGD := Lib.hid gD
  have bD := heap_new wa.drew (.cells #[.slice s0 n0 c0, .slice s1 n1 c1] 50) wa.heap.size rfl
  have HLIB : Hid (LibV (wa.drew.alloc (.cells #[.slice s0 n0 c0, .slice s1 n1 c1] 50)) (.agg #[.slice none 0 0, .slice (some ⟨wa.heap.size, 0, none⟩) 1 1]) ([], [c])) := Lib.hid (lib_one (HU0.out.kept (grown_trans g1 gD)) (HU1.out.kept (grown_trans g1 gD)) bD)
  obtain ⟨D0, D1, _, _⟩ := box_cells2 (heap_kept gD b1)
  clear g1 b1 gD bD
  refine wp_region_held_drew (S := fun w' => w'.cell? ⟨w.heap.size, 0, none⟩ = some (.slice s0 n0 c0) ∧ w'.cell? ⟨w.heap.size, 1, none⟩ = some (.slice s1 n1 c1)) (by kernel_rfl) (by exact ⟨C0, C1⟩) (fun hHeld => ?_)
  refine wpAnyH_take (i := 0) (v := ?_) rfl (by kernel_rfl) (by kernel_rfl) (by kernel_rfl) (fun _ _ _ h => h) (Or.inl ⟨by rfl, ?_⟩) (by assumption) ?_
  rotate_left
  · (intro w hSw; (try dsimp only at hSw); go_simp; (try with_reducible rfl))
  try simp only [Act.put, List.getElem_toArray, List.getElem_cons_zero, List.getElem_cons_succ, List.setIfInBounds_toArray, List.set_cons_zero, List.set_cons_succ]
  refine wpAnyH_ready (rs := [1]) (by kernel_rfl) (by simp) ?_
  refine AllReadyH.cons rfl (fun K hK => ?_) AllReadyH.nil
  go_simp
  (skip)
  (try go_wp2_with fail)
  refine hK.out _ _ (by exact ⟨D0, D1⟩) (fun hHeld => ?_)
  clear hK K
  try simp only [Act.put, List.getElem_toArray, List.getElem_cons_zero, List.getElem_cons_succ, List.setIfInBounds_toArray, List.set_cons_zero, List.set_cons_succ]
  refine wpAnyH_take (i := 2) (v := ?_) rfl (by kernel_rfl) (by kernel_rfl) (by kernel_rfl) (fun _ _ _ h => h) (Or.inl ⟨by rfl, ?_⟩) (by assumption) ?_
  rotate_left
  · (intro w hSw; (try dsimp only at hSw); go_simp; (try with_reducible rfl))
  try simp only [Act.put, List.getElem_toArray, List.getElem_cons_zero, List.getElem_cons_succ, List.setIfInBounds_toArray, List.set_cons_zero, List.set_cons_succ]
  refine wpAnyH_ready (rs := [3]) (by kernel_rfl) (by simp) ?_
  refine AllReadyH.cons rfl (fun K hK => ?_) AllReadyH.nil
  go_simp
  (refine (GFew_any (wa.drew.alloc (.cells #[.slice s0 n0 c0, .slice s1 n1 c1] 50)) _ ([], [c]) HLIB.out HSIZ.out).mono ?_; rintro e w1 ⟨bf, rfl, hg1, _⟩; have HG1 := Lib.hid (grown_trans HGD.out hg1); obtain ⟨E0, E1, _, _⟩ := box_cells2 (heap_kept HG1.out HB.out); clear hg1)
  (try go_wp2_with fail)
  refine hK.out _ _ (by exact ⟨E0, E1⟩) (fun hHeld => ?_)
  clear hK K
  try simp only [Act.put, List.getElem_toArray, List.getElem_cons_zero, List.getElem_cons_succ, List.setIfInBounds_toArray, List.set_cons_zero, List.set_cons_succ]
  refine wpAnyH_take (i := 4) (v := ?_) rfl (by kernel_rfl) (by kernel_rfl) (by kernel_rfl) (fun _ _ _ h => h) (Or.inl ⟨by rfl, ?_⟩) (by assumption) ?_
  rotate_left
  · (intro w hSw; (try dsimp only at hSw); go_simp; (try with_reducible rfl))
  try simp only [Act.put, List.getElem_toArray, List.getElem_cons_zero, List.getElem_cons_succ, List.setIfInBounds_toArray, List.set_cons_zero, List.set_cons_succ]
  refine wpAnyH_take (i := 5) (v := ?_) rfl (by kernel_rfl) (by kernel_rfl) (by kernel_rfl) (fun _ _ _ h => h) (Or.inl ⟨by rfl, ?_⟩) (by assumption) ?_
  rotate_left
  · (intro w hSw; (try dsimp only at hSw); go_simp; (try with_reducible rfl))
  try simp only [Act.put, List.getElem_toArray, List.getElem_cons_zero, List.getElem_cons_succ, List.setIfInBounds_toArray, List.set_cons_zero, List.set_cons_succ]
  have HGN := Lib.hid (grown_trans HG.out HG1.out)
  cases bf with
  | false =>
    refine wpAnyH_take (i := 6) (v := undef) rfl (by kernel_rfl) (by kernel_rfl) (by kernel_rfl) (fun _ _ _ h => h) (Or.inr ⟨by rfl, rfl⟩) (by assumption) ?_
    try simp only [Act.put, List.getElem_toArray, List.getElem_cons_zero, List.getElem_cons_succ, List.setIfInBounds_toArray, List.set_cons_zero, List.set_cons_succ]
    refine wpAnyH_take (i := 7) (v := undef) rfl (by kernel_rfl) (by kernel_rfl) (by kernel_rfl) (fun _ _ _ h => h) (Or.inr ⟨by rfl, rfl⟩) (by assumption) ?_
    try simp only [Act.put, List.getElem_toArray, List.getElem_cons_zero, List.getElem_cons_succ, List.setIfInBounds_toArray, List.set_cons_zero, List.set_cons_succ]
    refine wpAnyH_take (i := 8) (v := undef) rfl (by kernel_rfl) (by kernel_rfl) (by kernel_rfl) (fun _ _ _ h => h) (Or.inr ⟨by rfl, rfl⟩) (by assumption) ?_
    try simp only [Act.put, List.getElem_toArray, List.getElem_cons_zero, List.getElem_cons_succ, List.setIfInBounds_toArray, List.set_cons_zero, List.set_cons_succ]
    refine wpAnyH_take (i := 9) (v := undef) rfl (by kernel_rfl) (by kernel_rfl) (by kernel_rfl) (fun _ _ _ h => h) (Or.inr ⟨by rfl, rfl⟩) (by assumption) ?_
    try simp only [Act.put, List.getElem_toArray, List.getElem_cons_zero, List.getElem_cons_succ, List.setIfInBounds_toArray, List.set_cons_zero, List.set_cons_succ]
    refine wpAnyH_take (i := 10) (v := undef) rfl (by kernel_rfl) (by kernel_rfl) (by kernel_rfl) (fun _ _ _ h => h) (Or.inr ⟨by rfl, rfl⟩) (by assumption) ?_
    try simp only [Act.put, List.getElem_toArray, List.getElem_cons_zero, List.getElem_cons_succ, List.setIfInBounds_toArray, List.set_cons_zero, List.set_cons_succ]
    refine wpAnyH_take (i := 11) (v := ?_) rfl (by kernel_rfl) (by kernel_rfl) (by kernel_rfl) (fun _ _ _ h => h) (Or.inl ⟨by rfl, ?_⟩) (by assumption) ?_
    rotate_left
    · (intro w hSw; (try dsimp only at hSw); go_simp; (try with_reducible rfl))
    try simp only [Act.put, List.getElem_toArray, List.getElem_cons_zero, List.getElem_cons_succ, List.setIfInBounds_toArray, List.set_cons_zero, List.set_cons_succ]
    refine wpAnyH_done (by kernel_rfl) ?_ _
    obtain ⟨E0, E1, _, _⟩ := box_cells2 (heap_kept HG1.out HB.out)
    go_wp2_with fail
    go_region_held3 (fun w' => w'.cell? ⟨w.heap.size, 0, none⟩ = some (.slice s0 n0 c0) ∧ w'.cell? ⟨w.heap.size, 1, none⟩ = some (.slice s1 n1 c1))
      (first | assumption | exact ⟨E0, E1⟩ | go_keep)
      (first
        | (go_at_call 12; (with_reducible refine (GKnown_any _).mono ?_); rintro e w2 ⟨rfl, hg2⟩; have HG2 := Lib.hid (grown_trans HG1.out (grown_trans (grown_drew (grown_refl _ _)) hg2)); obtain ⟨F0, F1, _, _⟩ := box_cells2 (heap_kept HG2.out HB.out); clear hg2)
        | (go_at_call 21; (with_reducible refine (Name_any _ _ _ c.1 (HU0.out.kept (grown_trans HG.out HG2.out)) ⟨_, _, _, rfl⟩).mono ?_); rintro e w3 ⟨rfl, hg3⟩; have HG3 := Lib.hid (grown_trans HG2.out hg3); obtain ⟨K0, K1, _, _⟩ := box_cells2 (heap_kept HG3.out HB.out); clear hg3)
        | (go_at_call 22; (with_reducible refine (RName_any _ _ _ c.1 (HU0.out.kept (grown_trans HG.out HG3.out)) ⟨_, _, _, rfl⟩).mono ?_); rintro e w4 ⟨rfl, hg4⟩; have HG4 := Lib.hid (grown_trans HG3.out hg4); obtain ⟨M0, M1, _, _⟩ := box_cells2 (heap_kept HG4.out HB.out); clear hg4))
    have hF := Lib.hid (grown_trans HG.out HG4.out)
    go_wp2_with fail
    go_ret
    exact ⟨by simp, hF.out⟩
  | true =>
    refine wpAnyH_take (i := 6) (v := ?_) rfl (by kernel_rfl) (by kernel_rfl) (by kernel_rfl) (fun _ _ _ h => h) (Or.inl ⟨by rfl, ?_⟩) (by assumption) ?_
    rotate_left
    · (intro w hSw; (try dsimp only at hSw); go_simp; (try with_reducible rfl))
    try simp only [Act.put, List.getElem_toArray, List.getElem_cons_zero, List.getElem_cons_succ, List.setIfInBounds_toArray, List.set_cons_zero, List.set_cons_succ]
    refine wpAnyH_take (i := 8) (v := ?_) rfl (by kernel_rfl) (by kernel_rfl) (by kernel_rfl) (fun _ _ _ h => h) (Or.inl ⟨by rfl, ?_⟩) (by assumption) ?_
    rotate_left
    · (intro w hSw; (try dsimp only at hSw); go_simp; (try with_reducible rfl))
    try simp only [Act.put, List.getElem_toArray, List.getElem_cons_zero, List.getElem_cons_succ, List.setIfInBounds_toArray, List.set_cons_zero, List.set_cons_succ]
    refine wpAnyH_ready (rs := [7]) (by kernel_rfl) (by simp) ?_
    refine AllReadyH.cons rfl (fun K hK => ?_) AllReadyH.nil
    go_simp
    (refine (Name_any w1 _ _ c.1 (HU0.out.kept HGN.out) ⟨_, _, _, rfl⟩).mono ?_; rintro e w2 ⟨rfl, hg2⟩; have HG2 := Lib.hid (grown_trans HG1.out hg2); obtain ⟨F0, F1, _, _⟩ := box_cells2 (heap_kept HG2.out HB.out); clear hg2)
    (try go_wp2_with fail)
    refine hK.out _ _ (by exact ⟨F0, F1⟩) (fun hHeld => ?_)
    clear hK K
    try simp only [Act.put, List.getElem_toArray, List.getElem_cons_zero, List.getElem_cons_succ, List.setIfInBounds_toArray, List.set_cons_zero, List.set_cons_succ]
    refine wpAnyH_ready (rs := [9]) (by kernel_rfl) (by simp) ?_
    refine AllReadyH.cons rfl (fun K hK => ?_) AllReadyH.nil
    go_simp
    (refine (RName_any w2 _ _ c.1 (HU0.out.kept (grown_trans HG.out HG2.out)) ⟨_, _, _, rfl⟩).mono ?_; rintro e w3 ⟨rfl, hg3⟩; have HG3 := Lib.hid (grown_trans HG2.out hg3); obtain ⟨K0, K1, _, _⟩ := box_cells2 (heap_kept HG3.out HB.out); clear hg3)
    (try go_wp2_with fail)
    refine hK.out _ _ (by exact ⟨K0, K1⟩) (fun hHeld => ?_)
    clear hK K
    try simp only [Act.put, List.getElem_toArray, List.getElem_cons_zero, List.getElem_cons_succ, List.setIfInBounds_toArray, List.set_cons_zero, List.set_cons_succ]
    refine wpAnyH_take (i := 10) (v := ?_) rfl (by kernel_rfl) (by kernel_rfl) (by kernel_rfl) (fun _ _ _ h => h) (Or.inl ⟨by rfl, ?_⟩) (by assumption) ?_
    rotate_left
    · (intro w hSw; (try dsimp only at hSw); go_simp; (try with_reducible rfl))
    try simp only [Act.put, List.getElem_toArray, List.getElem_cons_zero, List.getElem_cons_succ, List.setIfInBounds_toArray, List.set_cons_zero, List.set_cons_succ]
    refine wpAnyH_take (i := 11) (v := ?_) rfl (by kernel_rfl) (by kernel_rfl) (by kernel_rfl) (fun _ _ _ h => h) (Or.inl ⟨by rfl, ?_⟩) (by assumption) ?_
    rotate_left
    · (intro w hSw; (try dsimp only at hSw); go_simp; (try with_reducible rfl))
    try simp only [Act.put, List.getElem_toArray, List.getElem_cons_zero, List.getElem_cons_succ, List.setIfInBounds_toArray, List.set_cons_zero, List.set_cons_succ]
    refine wpAnyH_done (by kernel_rfl) ?_ _
    obtain ⟨K0, K1, _, _⟩ := box_cells2 (heap_kept HG3.out HB.out)
    go_wp2_with fail
    have HW0 := Lib.hid HG3.out
    clear D0 D1 C0 C1 E0 E1 K0 K1
    go_loopg [5] n1 (fun gh i wr => ∃ k : Nat, k ≤ n1 ∧ n1 - k ≤ gh ∧ i = .int .i64 (k : Int) ∧ Hid (wa.grownBy wr none))
    case atStart => exact ⟨0, Nat.zero_le _, Nat.le_refl _, rfl, HW0⟩
    case round =>
      obtain ⟨k, hk, hgh, rfl, HW⟩ := hrel
      obtain ⟨C0, C1, _, _⟩ := box_cells2 (heap_kept HW.out HB.out)
      by_cases hlt : k < n1
      · have f1 : decide ((k : Int) < (n1 : Int)) = true := decide_eq_true (by omega)
        have hkl : k < c.2.length := by have := HN1.out; omega
        obtain ⟨ad, q, f, pr, hsc, hq, A0, A1, hf, hpr⟩ := HPI.out.at k hkl
        have hzi : SizI c.2[k] := HZC.out.2 _ (List.getElem_mem hkl)
        obtain ⟨x, hx⟩ : ∃ x, c.2[k] = x := ⟨_, rfl⟩
        rw [hx] at hf hpr hzi
        obtain ⟨sf, cf, rfl, _⟩ := hf.shape
        obtain ⟨sp, cp, rfl, _⟩ := hpr.shape
        have HGA := Lib.hid (grown_trans HG.out HW.out)
        have HF := Lib.hid hf
        have HZI := Lib.hid hzi
        have HA := Lib.hid (And.intro A0 A1)
        replace A0 := HGA.out.cell A0 (by simp)
        replace A1 := HGA.out.cell A1 (by simp)
        have i0 : (0 : Int) ≤ (k : Int) ∧ (k : Int) < (n1 : Int) := by omega
        subst hsc
        clear hx hf hpr hzi hkl
        go_wp2_with fail
        refine (Field_any wr _ _ x.1 kd (HF.out.kept HGA.out) (fun r h => HZI.out.1.2 r h) ⟨_, _, _, rfl⟩).mono ?_
        have HD := Lib.hid (fun w0 W => RField_any w0 W (.slice sf x.1.length cf) (.slice sp x.2.length cp) x.1 kd)
        have HD2 := Lib.hid (fun W h => Field_any W (.slice sf x.1.length cf) (.slice sp x.2.length cp) x.1 kd h (fun r h => HZI.out.1.2 r h) ⟨_, _, _, rfl⟩)
        obtain ⟨⟨bo, kr, dt, bd⟩, hfd⟩ : ∃ y, fieldD x.1 kd = y := ⟨_, rfl⟩
        rw [hfd] at HD HD2 ⊢
        clear hfd
        rintro e w2 ⟨u, rfl, ⟨b, rfl, hO⟩, hg2⟩
        dsimp only at hO ⊢
        obtain ⟨s5, c5, rfl, hy5, _, hc5, hm5⟩ := hO.shape
        obtain ⟨m, hm⟩ : ∃ m, bd.length = m := ⟨_, rfl⟩
        have hX := xor_st hO rfl
        obtain ⟨N9, hN9⟩ : ∃ N, wr.heap.size = N := ⟨_, rfl⟩
        rw [hm] at hc5 hX ⊢
        rw [hN9] at hX
        have HM := Lib.hid hm
        have gA := World.grownBy_alloc w2 (.cells #[.int .u8 (kr : Int), .int .u8 (dt : Int), .slice s5 m c5] 45) none
        have b6 := heap_new w2 (.cells #[.int .u8 (kr : Int), .int .u8 (dt : Int), .slice s5 m c5] 45) w2.heap.size rfl
        have HW3 := Lib.hid (grown_trans HW.out (grown_trans hg2 gA))
        have HX3 := Lib.hid (hX.kept gA)
        have HY3 := Lib.hid (hy5.kept gA)
        have HB6 := Lib.hid b6
        have hwr : wa.heap.size ≤ N9 := by rw [← hN9]; exact HW.out.size
        clear hO hy5 hX hg2 gA b6 hm hN9 C0 C1 A0 A1
        obtain ⟨C0, C1, _, _⟩ := box_cells2 (heap_kept HW3.out HB.out)
        have A0 := (grown_trans HG.out HW3.out).cell HA.out.1 (by simp)
        have A1 := (grown_trans HG.out HW3.out).cell HA.out.2 (by simp)
        go_wp2_with fail
        refine (HD.out w (w2.alloc (.cells #[.int .u8 (kr : Int), .int .u8 (dt : Int), .slice s5 m c5] 45)) HF.out (grown_trans HG.out HW3.out) ⟨_, _, _, rfl⟩).mono ?_
        generalize (w2.alloc (.cells #[.int .u8 (kr : Int), .int .u8 (dt : Int), .slice s5 m c5] 45)) = w3 at *
        rintro e w4 ⟨u, rfl, ⟨sb, cb, rfl, hyb, hokb⟩, hg4⟩
        dsimp only at hyb hokb ⊢
        rw [HM.out] at hokb ⊢
        have gB := World.grownBy_alloc w4 (.cells #[.int .u8 (kr : Int), .int .u8 (dt : Int), .slice sb m cb] 45) none
        have b8 := heap_new w4 (.cells #[.int .u8 (kr : Int), .int .u8 (dt : Int), .slice sb m cb] 45) w4.heap.size rfl
        have hg5 := grown_trans hg4 gB
        have HW5 := Lib.hid (grown_trans HW3.out hg5)
        have HX5 := Lib.hid (HX3.out.kept hg5)
        have HY5 := Lib.hid (HY3.out.kept hg5)
        have HB65 := Lib.hid (heap_kept hg5 HB6.out)
        have HB85 := Lib.hid b8
        have HYB := Lib.hid hyb
        have f8 : (bo != bo) = false := by simp
        clear hyb hg4 gB b8 hg5 C0 C1 A0 A1
        obtain ⟨T0, T1, T2, _⟩ := box_cells3 HB65.out
        obtain ⟨U0, U1, U2, _⟩ := box_cells3 HB85.out
        go_wp2_with fail
        refine (Same_any _ kr dt s5 sb m c5 cb bd HM.out HY5.out (HYB.out.kept (grown_trans HG.out HW5.out))).mono ?_
        generalize (w4.alloc (.cells #[.int .u8 (kr : Int), .int .u8 (dt : Int), .slice sb m cb] 45)) = w5 at *
        rintro e w6 ⟨rfl, hg6⟩
        have HW6 := Lib.hid (grown_trans HW5.out hg6)
        have HX6 := Lib.hid (HX5.out.kept hg6)
        have HB66 := Lib.hid (heap_kept hg6 HB65.out)
        have HB86 := Lib.hid (heap_kept hg6 HB85.out)
        clear hg6 T0 T1 T2 U0 U1 U2
        go_wp2_with fail
        go_loopg [10] m (fun gh i wr => ∃ j : Nat, j ≤ m ∧ m - j ≤ gh ∧ i = .int .i64 (j : Int) ∧ Hid (wa.grownBy wr none) ∧ Hid (XorSt N9 wr s5 m) ∧ Hid (wr.heap[w2.heap.size]? = some (.cells #[.int .u8 (kr : Int), .int .u8 (dt : Int), .slice s5 m c5] 45 (0, 0))) ∧ Hid (wr.heap[w4.heap.size]? = some (.cells #[.int .u8 (kr : Int), .int .u8 (dt : Int), .slice sb m cb] 45 (0, 0))))
        case atStart => exact ⟨0, Nat.zero_le _, Nat.le_refl _, rfl, HW6, HX6, HB66, HB86⟩
        case round =>
          obtain ⟨j, hj, hgh2, rfl, HW7, HX7, HB67, HB87⟩ := hrel
          obtain ⟨T0, T1, T2, _⟩ := box_cells3 HB67.out
          by_cases hlt2 : j < m
          · have f2 : decide ((j : Int) < (m : Int)) = true := decide_eq_true (by omega)
            obtain ⟨g, y, hs5, hgb, Y0, YF, hne, hst⟩ := HX7.out.at hlt2
            have hadd : (⟨g, 0, none⟩ : Addr).add j = ⟨g, j, none⟩ := addr_of g j
            have i5 : (0 : Int) ≤ (j : Int) ∧ (j : Int) < (m : Int) := by omega
            have HE := Lib.hid (And.intro hgb (And.intro (hne _ _ _ HB67.out (by decide)) (hne _ _ _ HB87.out (by decide))))
            have HST := Lib.hid hst
            rw [hs5] at T2
            clear hs5 hgb hne hst
            go_wp2_with fail
            go_roundg (m - (j + 1))
            case measure => omega
            case rel => exact ⟨j + 1, by omega, Nat.le_refl _, by go_num, Lib.hid (grown_new (g := g) HW7.out (grown_set (grown_refl _ _) _ _) (by have := HE.out.1; omega)), Lib.hid (HST.out _), Lib.hid (heap_unset HB67.out HE.out.2.1 _), Lib.hid (heap_unset HB87.out HE.out.2.2 _)⟩
          · have f2 : decide ((j : Int) < (m : Int)) = false := decide_eq_false (by omega)
            obtain ⟨C0, C1, _, _⟩ := box_cells2 (heap_kept HW7.out HB.out)
            have A0 := (grown_trans HG.out HW7.out).cell HA.out.1 (by simp)
            have A1 := (grown_trans HG.out HW7.out).cell HA.out.2 (by simp)
            clear hj hgh2
            go_wp2_with fail
            refine (HD2.out _ (HF.out.kept (grown_trans HG.out HW7.out))).mono ?_
            rintro e w8 ⟨u, rfl, ⟨b, rfl, hO8⟩, hg8⟩
            dsimp only at hO8 ⊢
            obtain ⟨s9, c9, rfl, hy9, _⟩ := hO8.shape
            rw [HM.out]
            have gC := World.grownBy_alloc w8 (.cells #[.int .u8 (kr : Int), .int .u8 (dt : Int), .slice s9 m c9] 45) none
            have b9 := heap_new w8 (.cells #[.int .u8 (kr : Int), .int .u8 (dt : Int), .slice s9 m c9] 45) w8.heap.size rfl
            have HW9 := Lib.hid (grown_trans HW7.out (grown_trans hg8 gC))
            have HY9 := Lib.hid (hy9.kept gC)
            have b8 := heap_kept (grown_trans hg8 gC) HB87.out
            clear C0 C1 A0 A1 T0 T1 T2
            obtain ⟨T0, T1, T2, _⟩ := box_cells3 b9
            obtain ⟨U0, U1, U2, _⟩ := box_cells3 b8
            clear hO8 hg8 hy9 gC b9 b8
            go_wp2_with fail
            refine (Same_any _ kr dt s9 sb m c9 cb bd HM.out HY9.out (HYB.out.kept (grown_trans HG.out HW9.out))).mono ?_
            rintro e w10 ⟨rfl, hg10⟩
            have HWE := Lib.hid (grown_trans HW9.out hg10)
            clear hg10 T0 T1 T2 U0 U1 U2
            go_wp2_with fail
            go_roundg (n1 - (k + 1))
            case measure => omega
            case rel => exact ⟨k + 1, by omega, Nat.le_refl _, by go_num, HWE⟩
      · have f1 : decide ((k : Int) < (n1 : Int)) = false := decide_eq_false (by omega)
        clear hk hgh
        go_wp2_with fail
        refine (GKnown_any wr).mono ?_
        rintro e w2 ⟨rfl, hg2⟩
        have hF := Lib.hid (grown_trans HG.out (grown_trans HW.out hg2))
        clear hg2
        go_wp2_with fail
        go_ret
        exact ⟨rfl, hF.out⟩
end Go.Proofs.Ytpkemijpggpdaaa
