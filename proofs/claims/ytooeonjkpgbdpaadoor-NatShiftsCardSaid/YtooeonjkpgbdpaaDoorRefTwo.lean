/- Powers of two of the document's own. -/
import Derived.Test.YtooeonjkpgbdpaaDoorRefDiv
namespace Go.Proofs.YtooeonjkpgbdpaaDoor
open Go.RowKit Mat
set_option maxRecDepth 100000
set_option linter.unusedVariables false
set_option linter.unusedSimpArgs false

theorem Boxed.cell {w : World} {b n : Nat} (h : Boxed w b n) : ∃ s k c, w.heap[b]? = some (.cells #[.slice s k c] 30 (0, 0)) ∧ RefV w (.agg #[.slice s k c]) n := h
theorem Boxed.kept {w w' : World} {b n : Nat} (h : Boxed w b n) (hg : w.grownBy w' none) : Boxed w' b n := by
  obtain ⟨s, k, c, h1, h2⟩ := h
  exact ⟨s, k, c, heap_kept hg h1, h2.kept hg⟩
theorem Boxed.unset {w : World} {b g n : Nat} {c : Array Value} {t : TypeId} (h : Boxed w b n) (hb : b ≠ g) (hbox : w.heap[g]? = some (.cells c t (0, 0))) (ht : t ≠ 3) (v : Value) : Boxed (w.setCell ⟨g, 0, none⟩ v) b n := by
  obtain ⟨s, k, c, h1, h2⟩ := h
  exact ⟨s, k, c, heap_unset h1 hb v, h2.set_other hbox ht 0 v⟩
theorem Boxed.set {w : World} {b n : Nat} {u : Value} {s : Option Addr} {k c : Nat} (h : w.heap[b]? = some (.cells #[u] 30 (0, 0))) (hv : RefV w (.agg #[.slice s k c]) n) : Boxed (w.setCell ⟨b, 0, none⟩ (.slice s k c)) b n :=
  ⟨s, k, c, heap_set h _, hv.set_other h (by decide) 0 _⟩
theorem p2D {x K : Nat} (h : x ≤ 2 ^ K) (hK : K ≤ 5000) : x < D ^ 1000000 := by
  obtain ⟨E, hE⟩ : ∃ E, E = 1000000 := ⟨_, rfl⟩
  rw [← hE]
  have h1 : 2 ^ K ≤ D ^ K := Nat.pow_le_pow_left (by decide) K
  have h2 : D ^ K < D ^ E := Nat.pow_lt_pow_right (by decide) (by omega)
  omega
theorem two_odd {A X K i : Nat} (h : A * X ^ (2 * i + 1) = 2 ^ K) : (A * X) * (X * X) ^ i = 2 ^ K := by
  rw [← h, Nat.pow_succ, Nat.pow_mul, Nat.pow_two]; grind
theorem two_even {A X K i : Nat} (h : A * X ^ (2 * i) = 2 ^ K) : A * (X * X) ^ i = 2 ^ K := by
  rw [← h, Nat.pow_mul, Nat.pow_two]
theorem two_bd {A X K j : Nat} (h : A * X ^ j = 2 ^ K) (hA : 0 < A) (hX : 0 < X) : A ≤ 2 ^ K ∧ (1 ≤ j → A * X ≤ 2 ^ K ∧ X ≤ 2 ^ K) ∧ (2 ≤ j → X * X ≤ 2 ^ K) := by
  have hp : 0 < X ^ j := Nat.pow_pos hX
  refine ⟨by rw [← h]; exact Nat.le_mul_of_pos_right _ hp, fun hj => ?_, fun hj => ?_⟩
  · have h1 : X ≤ X ^ j := by
      have := Nat.pow_le_pow_right hX hj
      rwa [Nat.pow_one] at this
    have h2 : A * X ≤ A * X ^ j := Nat.mul_le_mul_left _ h1
    have h3 : X ^ j ≤ A * X ^ j := Nat.le_mul_of_pos_left _ hA
    rw [h] at h2 h3
    omega
  · have h1 := Nat.pow_le_pow_right hX hj
    rw [Nat.pow_two] at h1
    have h3 : X ^ j ≤ A * X ^ j := Nat.le_mul_of_pos_left _ hA
    rw [h] at h3
    omega
theorem rOf_1 (w : World) : Calls Tryd.prog 25 #[.int .u64 1] w (RetRef w 1) := rOf_any w 1 (by decide)
theorem rOf_2 (w : World) : Calls Tryd.prog 25 #[.int .u64 2] w (RetRef w 2) := rOf_any w 2 (by decide)

set_option maxHeartbeats 8000000 in
theorem rTwo_any (w : World) (K : Nat) (hK : K ≤ 5000) :
    Calls Tryd.prog 20 #[.int .i64 (K : Int)] w (RetRef w (2 ^ K)) := by
  have hgw0 := World.grownBy_alloc w (.cells #[.slice none 0 0] 30) none
  have hs0 : (w.alloc (.cells #[.slice none 0 0] 30)).heap.size = w.heap.size + 1 := by simp
  have hr0 := heap_new w (.cells #[.slice none 0 0] 30) w.heap.size rfl
  go_enter Tryd.func20, Tryd.ntmps20
  go_wp2_with fail
  generalize (w.alloc (.cells #[.slice none 0 0] 30)) = w0 at *
  refine (rOf_1 w0).mono ?_
  rintro e w1 ⟨v, rfl, ⟨s1, k1, c1, z1, rfl, n1⟩, g1⟩
  have hb1 := heap_new w1 (.cells #[.slice s1 k1 c1] 30) w1.heap.size rfl
  have hB1 : Boxed (w1.alloc (.cells #[.slice s1 k1 c1] 30)) w1.heap.size 1 := ⟨s1, k1, c1, hb1, RefV.kept ⟨s1, k1, c1, z1, rfl, n1⟩ (World.grownBy_alloc _ _ _)⟩
  have hG1 := grown_alloc g1 (.cells #[.slice s1 k1 c1] 30)
  have hl1 : w.heap.size < w1.heap.size := by have h1 := (Array.getElem?_eq_some_iff.1 hr0).1; have := g1.size; omega
  clear g1 n1 hb1
  go_wp2_with fail
  generalize ha1 : w1.heap.size = a1 at *
  generalize hW1 : (w1.alloc (.cells #[.slice s1 k1 c1] 30)) = W1 at *
  have hl2 : a1 < W1.heap.size := by obtain ⟨_, _, _, h1, _⟩ := hB1; exact (Array.getElem?_eq_some_iff.1 h1).1
  clear ha1 hW1
  refine (rOf_2 W1).mono ?_
  rintro e w2 ⟨v, rfl, ⟨s2, k2, c2, z2, rfl, n2⟩, g2⟩
  have hb2 := heap_new w2 (.cells #[.slice s2 k2 c2] 30) w2.heap.size rfl
  have hB2 : Boxed (w2.alloc (.cells #[.slice s2 k2 c2] 30)) w2.heap.size 2 := ⟨s2, k2, c2, hb2, RefV.kept ⟨s2, k2, c2, z2, rfl, n2⟩ (World.grownBy_alloc _ _ _)⟩
  have hG2 := grown_alloc g2 (.cells #[.slice s2 k2 c2] 30)
  have hB1' := hB1.kept hG2
  have hl3 : a1 < w2.heap.size := by have := g2.size; omega
  have hG := grown_trans hG1 hG2
  clear g2 n2 hb2 hB1 hG1 hG2
  go_wp2_with fail
  generalize ha2 : w2.heap.size = a2 at *
  generalize hW2 : (w2.alloc (.cells #[.slice s2 k2 c2] 30)) = W2 at *
  clear ha2 hW2 hl2
  go_loopw [0] (fun k wr => ∃ (j A X : Nat), k = .int .i64 j ∧ j ≤ K ∧ Boxed wr a1 A ∧ Boxed wr a2 X ∧ 0 < A ∧ 0 < X ∧ Hid (A * X ^ j = 2 ^ K) ∧ w0.grownBy wr none) (fun k _ => (intOf k).toNat)
  case atStart => exact ⟨K, 1, 2, rfl, Nat.le_refl _, hB1', hB2, by omega, by omega, by show _ = _; omega, hG⟩
  case round =>
    clear hB1' hB2 hG
    obtain ⟨j, A, X, rfl, hj, hA, hX, hA0, hX0, hv, hG⟩ := hrel
    obtain ⟨b1, b2, b3⟩ := two_bd hv.out hA0 hX0
    have b1 := Lib.hid b1
    have b2 := Lib.hid b2
    have b3 := Lib.hid b3
    have hr := heap_kept hG hr0
    have hgw := grown_trans hgw0 hG
    obtain ⟨sA, kA, cA, hbA, nA⟩ := hA
    obtain ⟨sX, kX, cX, hbX, nX⟩ := hX
    obtain ⟨cA1, fA1⟩ := box_cell hbA
    obtain ⟨cX1, fX1⟩ := box_cell hbX
    obtain ⟨cr, fr⟩ := box_cell hr
    by_cases h0 : j = 0
    · subst h0
      have hF : Hid (RetRef w (2 ^ K) (.returned (.agg #[.slice sA kA cA])) (wr.setCell ⟨w.heap.size, 0, none⟩ (.slice sA kA cA))) := by
        have := hv.out
        rw [Nat.pow_zero, Nat.mul_one] at this
        rw [← this]
        exact rret hgw hr (by decide) (Nat.le_refl _) nA _
      clear hv nA nX
      go_wp2_with fail
      exact bodyPost_ret (v := .agg #[.slice sA kA cA]) (by simp [results, Tryd.results20, go_sem, cr]) rfl hF.out
    · obtain ⟨i, r, rfl, hr1⟩ : ∃ i r, j = 2 * i + r ∧ r ≤ 1 := ⟨j / 2, j % 2, by omega, by omega⟩
      have f1 : decide ((0 : Int) < ((2 * i + r : Nat) : Int)) = true := decide_eq_true (by omega)
      obtain ⟨J, hJ⟩ : ∃ J, 2 * i + r = J := ⟨_, rfl⟩
      have e2 : (J : Int) / 2 = (i : Int) := by omega
      have e3 : (J : Int) % 2 = (r : Int) := by omega
      rw [hJ] at f1 ⊢
      have hla : w0.heap.size ≤ a1 := by omega
      have hlb : w0.heap.size ≤ a2 := by omega
      rcases (show r = 1 ∨ r = 0 by omega) with rfl | rfl
      · have e3 : (J : Int) % 2 = 1 := by omega
        clear hr1
        go_wp2_with fail
        refine (rMul_any wr _ _ A X nA nX (p2D b1.out hK) (p2D (b2.out (by omega)).2 hK)).mono ?_
        rintro e w5 ⟨v, rfl, ⟨s5, k5, c5, z5, rfl, n5⟩, g5⟩
        have hbA5 := heap_kept g5 hbA
        obtain ⟨cA5, fA5⟩ := box_cell hbA5
        have B1 : Boxed (w5.setCell ⟨a1, 0, none⟩ (.slice s5 k5 c5)) a1 (A * X) := Boxed.set hbA5 ⟨s5, k5, c5, z5, rfl, n5⟩
        have B2 : Boxed (w5.setCell ⟨a1, 0, none⟩ (.slice s5 k5 c5)) a2 X := (Boxed.kept ⟨sX, kX, cX, hbX, nX⟩ g5).unset (by omega) hbA5 (by decide) _
        have hG5 := grown_new (grown_trans hG g5) (grown_set (grown_refl w5 (some a1)) 0 (.slice s5 k5 c5)) hla
        have hvn : Hid ((A * X) * (X * X) ^ i = 2 ^ K) := two_odd hv.out
        have hAX : 0 < A * X := Nat.mul_pos hA0 hX0
        obtain ⟨s6, k6, c6, hb6, n6⟩ := B2
        obtain ⟨c26, f26⟩ := box_cell hb6
        clear g5 n5 hbA hbX nA nX hG hr hgw cA1 fA1 cX1 fX1 hv
        by_cases hi : i = 0
        · have f4 : decide ((1 : Int) < (J : Int)) = false := decide_eq_false (by omega)
          go_wp2_with fail
          go_roundw
          case rel => exact ⟨0, A * X, X, rfl, by omega, B1, ⟨s6, k6, c6, hb6, n6⟩, hAX, hX0, by show _ = _; have := hvn.out; rw [hi, Nat.pow_zero] at this; rw [Nat.pow_zero]; exact this, hG5⟩
          case measure => simp [intOf]; omega
        · have f4 : decide ((1 : Int) < (J : Int)) = true := decide_eq_true (by omega)
          go_wp2_with fail
          refine (rMul_any _ _ _ X X n6 n6 (p2D (b2.out (by omega)).2 hK) (p2D (b2.out (by omega)).2 hK)).mono ?_
          rintro e w7 ⟨v, rfl, ⟨s7, k7, c7, z7, rfl, n7⟩, g7⟩
          have hb27 := heap_kept g7 hb6
          obtain ⟨c27, f27⟩ := box_cell hb27
          have B2n : Boxed (w7.setCell ⟨a2, 0, none⟩ (.slice s7 k7 c7)) a2 (X * X) := Boxed.set hb27 ⟨s7, k7, c7, z7, rfl, n7⟩
          have B1n := (B1.kept g7).unset (by omega) hb27 (by decide) (.slice s7 k7 c7)
          have hGn := grown_new (grown_trans hG5 g7) (grown_set (grown_refl w7 (some a2)) 0 (.slice s7 k7 c7)) (by omega : w0.heap.size ≤ a2)
          clear g7 n7
          go_wp2_with fail
          go_roundw
          case rel => exact ⟨i, A * X, X * X, rfl, by omega, B1n, B2n, hAX, Nat.mul_pos hX0 hX0, hvn, hGn⟩
          case measure => simp [intOf]; omega
      · have e3 : (J : Int) % 2 = 0 := by omega
        have f4 : decide ((1 : Int) < (J : Int)) = true := decide_eq_true (by omega)
        have hvn : Hid (A * (X * X) ^ i = 2 ^ K) := two_even (by have := hv.out; simpa using this)
        have B1 : Boxed wr a1 A := ⟨sA, kA, cA, hbA, nA⟩
        clear hr1 hr hgw
        go_wp2_with fail
        refine (rMul_any wr _ _ X X nX nX (p2D (b2.out (by omega)).2 hK) (p2D (b2.out (by omega)).2 hK)).mono ?_
        rintro e w7 ⟨v, rfl, ⟨s7, k7, c7, z7, rfl, n7⟩, g7⟩
        have hb27 := heap_kept g7 hbX
        obtain ⟨c27, f27⟩ := box_cell hb27
        have B2n : Boxed (w7.setCell ⟨a2, 0, none⟩ (.slice s7 k7 c7)) a2 (X * X) := Boxed.set hb27 ⟨s7, k7, c7, z7, rfl, n7⟩
        have B1n := (B1.kept g7).unset (by omega) hb27 (by decide) (.slice s7 k7 c7)
        have hGn := grown_new (grown_trans hG g7) (grown_set (grown_refl w7 (some a2)) 0 (.slice s7 k7 c7)) (by omega : w0.heap.size ≤ a2)
        clear g7 n7
        clear hbA hbX nA nX cA1 fA1 cX1 fX1 hv hG
        go_wp2_with fail
        go_roundw
        case rel => exact ⟨i, A, X * X, rfl, by omega, B1n, B2n, hA0, Nat.mul_pos hX0 hX0, hvn, hGn⟩
        case measure => simp [intOf]; omega
end Go.Proofs.YtooeonjkpgbdpaaDoor
