/- Roots of the document's own numbers. -/
import Derived.Test.YtooeonjkpgbdpaaDoorRefDiv
namespace Go.Proofs.YtooeonjkpgbdpaaDoor
open Go.RowKit Mat
set_option maxRecDepth 100000
set_option linter.unusedVariables false
set_option linter.unusedSimpArgs false

theorem val_rep (k : Nat) (hs : List Nat) : val D (List.replicate k 0 ++ hs) = D ^ k * val D hs := by
  rw [val_append, val_replicate, List.length_replicate]; omega
theorem own_none {W : World} {H base : Nat} (hH : W.heap.size = H) (hb : base ≤ H) : (W.alloc (.cells #[] 3)).ownsRow base 3 1 (.slice (some ⟨H, 0, none⟩) 0 0) 0 [] :=
  ⟨rfl, Or.inr ⟨H, 0, #[], rfl, hb, heap_new W _ H hH.symm, Nat.le_refl _, by unfold maxLen; omega, rfl, rfl⟩⟩
theorem Ints.news {w : World} {g : Nat} {zs : List Nat} (h : Ints w g zs) : ∀ j u, (zs.map iv)[j]? = some u → w.cell? ((⟨g, 0, none⟩ : Addr).add j) = some u := by
  intro j u hj
  have hadd : (⟨g, 0, none⟩ : Addr).add j = ⟨g, j, none⟩ := by unfold Addr.add; split <;> simp_all
  rw [hadd, RBlk.cell h, List.getElem?_toArray]; exact hj
theorem iv_one (zs : List Nat) : ∀ u ∈ zs.map iv, u.oneCell' = true := by
  intro u hu
  obtain ⟨x, -, rfl⟩ := List.mem_map.1 hu; rfl
theorem root_start {A n N : Nat} (h : A < D ^ n) (hN : n ≤ 2 * N) : A < (D ^ N) * (D ^ N) := by
  rw [← Nat.pow_add]
  exact Nat.lt_of_lt_of_le h (Nat.pow_le_pow_right D_pos (by omega))
theorem root_y (k m v : Nat) : D ^ k * (m + D * v) = D ^ (k + 1) * v + m * D ^ k := by
  rw [Nat.mul_add, Nat.pow_succ, Nat.mul_assoc, Nat.mul_comm (D ^ k) m]; omega

set_option maxHeartbeats 16000000 in
theorem rRoot_any (w : World) (va : Value) (a : Nat) (ha : RefV w va a) (ba : a < D ^ 400000) :
    Calls Tryd.prog 40 #[va] w (fun e w' => ∃ r, IsRoot a r ∧ ∃ v u, e = .returned (.tuple #[v, u]) ∧ RefV w' v r ∧ RefV w' u (a - r * r) ∧ w.grownBy w' none) := by
  obtain ⟨E, hE⟩ : ∃ E, E = 400000 := ⟨_, rfl⟩
  rw [← hE] at ba
  obtain ⟨sa, n, cx, xs, rfl, hn, hnc, hx, tx, dx, hv0⟩ := ha
  have hn6 : n ≤ 400000 := by rw [← hE]; exact rlen tx hn (by rw [hv0]; exact ba)
  obtain ⟨i0, hi', hz0, hz1, hz2⟩ := info_partsI
  have hAn : a < D ^ n := by have := val_lt D xs dx; rw [hn, hv0] at this; exact this
  have na0 : RefV w (.agg #[.slice sa n cx]) a := ⟨sa, n, cx, xs, rfl, hn, hnc, hx, tx, dx, hv0⟩
  obtain ⟨A, hA⟩ : ∃ A, a = A := ⟨_, rfl⟩
  rw [hA] at ba hAn na0 ⊢
  have hgw0 : w.grownBy (((w.alloc (.cells #[.slice sa n cx] 30)).alloc (.cells #[.slice none 0 0] 30)).alloc (.cells #[.slice none 0 0] 30)) none := grown_alloc (grown_alloc (World.grownBy_alloc _ _ _) _) _
  have hb3 := heap_new ((w.alloc (.cells #[.slice sa n cx] 30)).alloc (.cells #[.slice none 0 0] 30)) (.cells #[.slice none 0 0] 30) (w.heap.size + 1 + 1) (by simp)
  have hb2 := heap_kept (World.grownBy_alloc _ (.cells #[.slice none 0 0] 30) none) (heap_new (w.alloc (.cells #[.slice sa n cx] 30)) (.cells #[.slice none 0 0] 30) (w.heap.size + 1) (by simp))
  have hb1 := heap_kept (grown_alloc (World.grownBy_alloc _ (.cells #[.slice none 0 0] 30) none) (.cells #[.slice none 0 0] 30)) (heap_new w (.cells #[.slice sa n cx] 30) w.heap.size rfl)
  have hs0 : (((w.alloc (.cells #[.slice sa n cx] 30)).alloc (.cells #[.slice none 0 0] 30)).alloc (.cells #[.slice none 0 0] 30)).heap.size = w.heap.size + 1 + 1 + 1 := by simp
  have naA := na0.kept hgw0
  obtain ⟨N, hN⟩ : ∃ N, (n + 1) / 2 = N := ⟨_, rfl⟩
  have eN : ((n : Int) + 1) / 2 = (N : Int) := by omega
  have hN6 : N ≤ 200001 := by omega
  have hnN : n ≤ 2 * N := by omega
  have hAD : A < D ^ 1000000 := by
    obtain ⟨F, hF⟩ : ∃ F, F = 1000000 := ⟨_, rfl⟩
    rw [← hF]
    exact Nat.lt_of_lt_of_le ba (Nat.pow_le_pow_right D_pos (by omega))
  have HAD := Lib.hid hAD
  have HST := Lib.hid (root_start hAn hnN)
  clear hn hx tx dx hv0 ba hA hE na0 hN hAn hAD
  go_enter Tryd.func40, Tryd.ntmps40
  go_wp2_with (at_make; refine wpList_make_full _ rfl _ _ 28 rfl _ 3 i0 (.int .i64 0) 1 Tryd.underlying28 hi' hz0 hz1 .i64 .i64 _ _ N rfl rfl (by omega) (by omega) (by rw [hz2]; omega) (by unfold maxLen; omega) (Nat.le_refl _) ?_; intro w1 hown hg1; have hI1 := made_ints hown; (obtain ⟨cb1, fb1⟩ := box_cell (heap_kept hg1 hb1)); clear hown)
  clear cb1 fb1
  generalize (((w.alloc (.cells #[.slice sa n cx] 30)).alloc (.cells #[.slice none 0 0] 30)).alloc (.cells #[.slice none 0 0] 30)) = wA at *
  obtain ⟨g, hgE⟩ : ∃ g, w.heap.size + 1 + 1 + 1 = g := ⟨_, rfl⟩
  rw [hgE] at hs0
  rw [hgE]
  rw [hs0] at hI1
  have hgA : wA.heap.size ≤ g := by omega
  go_loopw [6] (fun i wr => ∃ (j : Nat) (hs : List Nat), j ≤ N ∧ i = .int .i64 ((j : Int) - 1) ∧ Hid (hs.length = N - j) ∧ Dig D hs ∧ Ints wr g (List.replicate j 0 ++ hs) ∧ Hid ((D ^ j * val D hs) * (D ^ j * val D hs) ≤ A ∧ A < (D ^ j * val D hs + D ^ j) * (D ^ j * val D hs + D ^ j)) ∧ wA.grownBy wr none) (fun i _ => (intOf i + 1).toNat)
  case atStart => exact ⟨N, [], Nat.le_refl _, rfl, by show _ = _; simp, Dig.nil _, by rw [List.append_nil]; exact hI1, ⟨by simp [val], by have := HST.out; simpa [val] using this⟩, hg1⟩
  case round =>
    clear hI1 hg1 HST
    obtain ⟨j, hs, hj, rfl, hhl, hhd, hI, hsq, hG⟩ := hrel
    obtain ⟨ca, fa⟩ := box_cell (heap_kept hG hb1)
    by_cases hz : j = 0
    · subst hz
      rw [List.replicate_zero, List.nil_append] at hI
      obtain ⟨r, hr⟩ : ∃ r, val D hs = r := ⟨_, rfl⟩
      have hroot : IsRoot A r := by
        have := hsq.out
        rw [Nat.pow_zero, Nat.one_mul, hr] at this
        exact this
      have HROOT := Lib.hid hroot
      have hrr : r * r ≤ A := hroot.1
      have HRR := Lib.hid hrr
      have hl0 : hs.length = N := by rw [hhl.out]; omega
      have hrb : r < D ^ 1000000 := by
        obtain ⟨F, hF⟩ : ∃ F, F = 1000000 := ⟨_, rfl⟩
        rw [← hF]
        have h1 := val_lt D hs hhd
        rw [hr, hl0] at h1
        exact Nat.lt_of_lt_of_le h1 (Nat.pow_le_pow_right D_pos (by omega))
      have HRB := Lib.hid hrb
      have hgwr := grown_trans hgw0 hG
      have hr2 := heap_kept hG hb2
      have hr3 := heap_kept hG hb3
      have hra := heap_kept hG hb1
      have naR := naA.kept hG
      have hrd := hI.rd
      have HL0 := Lib.hid hl0
      have HR := Lib.hid hr
      clear hsq hhl hI hroot hrr hl0 hrb hr
      go_wp2_with fail
      refine (rcut_any wr (some ⟨g, 0, none⟩) N N hs HL0.out hrd (Nat.le_refl _) (by omega) hhd).mono ?_
      rintro e w4 ⟨v, rfl, ⟨s4, k4, c4, zs4, rfl, hn4'⟩, hg4⟩
      have n4 : RefV w4 (.agg #[.slice s4 k4 c4]) r := by rw [← HR.out]; exact ⟨s4, k4, c4, zs4, rfl, hn4'⟩
      have hg5 := grown_alloc hg4 (.cells #[.slice s4 k4 c4] 30)
      have n5 := n4.kept (World.grownBy_alloc w4 (.cells #[.slice s4 k4 c4] 30) none)
      have hb11 := heap_new w4 (.cells #[.slice s4 k4 c4] 30) w4.heap.size rfl
      have hlo : w.heap.size + 1 + 1 < w4.heap.size := by have h1 := (Array.getElem?_eq_some_iff.1 hr3).1; have := hg4.size; omega
      have hr25 := heap_kept hg5 hr2
      have hr35 := heap_kept hg5 hr3
      have hra5 := heap_kept hg5 hra
      have na5 := naR.kept hg5
      have hgw5 := grown_trans hgwr hg5
      clear hn4' n4 hg4 hg5 hrd naR hr2 hr3 hra hgwr ca fa
      go_wp2_with fail
      generalize (w4.alloc (.cells #[.slice s4 k4 c4] 30)) = W5 at *
      generalize w4.heap.size = b11 at *
      obtain ⟨c11, f11⟩ := box_cell hb11
      obtain ⟨ca, fa⟩ := box_cell hra5
      go_region_held3 (fun w' => w'.cell? ⟨b11, 0, none⟩ = some (.slice s4 k4 c4) ∧ w'.cell? ⟨w.heap.size, 0, none⟩ = some (.slice sa n cx))
        (first | assumption | exact ⟨c11, ca⟩ | exact HS6 | exact HS7 | go_keep)
        (first
          | (go_at_call 34; (with_reducible refine (rMul_any W5.drew _ _ r r (n5.kept (grown_drew (grown_refl _ _))) (n5.kept (grown_drew (grown_refl _ _))) HRB.out HRB.out).mono ?_); rintro e w6 ⟨v6, rfl, n6, g6⟩; have hG6 := grown_pre W5 g6 rfl rfl rfl rfl; have hS6 := And.intro (hG6.cell c11 (by simp)) (hG6.cell ca (by simp)))
          | (go_at_call 32; (with_reducible refine (rLess_any w6 _ _ A (r * r) (na5.kept hG6) n6 HRR.out HAD.out).mono ?_); rintro e w7 ⟨v7, rfl, ⟨s7, k7, c7, zs7, rfl, n7⟩, g7⟩; have hG7 := grown_trans hG6 g7; have hS7 := And.intro (hG7.cell c11 (by simp)) (hG7.cell ca (by simp)); have hr27 := heap_kept hG7 hr25; have hr37 := heap_kept hG7 hr35; (obtain ⟨c27, f27⟩ := box_cell hr27); (obtain ⟨c37, f37⟩ := box_cell hr37); have HS6 : (w7.setCell ⟨w.heap.size + 1, 0, none⟩ (.slice s4 k4 c4)).cell? ⟨b11, 0, none⟩ = some (.slice s4 k4 c4) ∧ (w7.setCell ⟨w.heap.size + 1, 0, none⟩ (.slice s4 k4 c4)).cell? ⟨w.heap.size, 0, none⟩ = some (.slice sa n cx) := And.intro (box_cell (heap_unset (heap_kept hG7 hb11) (by omega) _)).1 (box_cell (heap_unset (heap_kept hG7 hra5) (by omega) _)).1; have HS7 : ((w7.setCell ⟨w.heap.size + 1, 0, none⟩ (.slice s4 k4 c4)).setCell ⟨w.heap.size + 1 + 1, 0, none⟩ (.slice s7 k7 c7)).cell? ⟨b11, 0, none⟩ = some (.slice s4 k4 c4) ∧ ((w7.setCell ⟨w.heap.size + 1, 0, none⟩ (.slice s4 k4 c4)).setCell ⟨w.heap.size + 1 + 1, 0, none⟩ (.slice s7 k7 c7)).cell? ⟨w.heap.size, 0, none⟩ = some (.slice sa n cx) := And.intro (box_cell (heap_unset (heap_unset (heap_kept hG7 hb11) (by omega) _) (by omega) _)).1 (box_cell (heap_unset (heap_unset (heap_kept hG7 hra5) (by omega) _) (by omega) _)).1))
      have q1 := heap_set hr27 (.slice s4 k4 c4)
      have q2 := heap_unset (g := w.heap.size + 1) hr37 (by omega) (.slice s4 k4 c4)
      have nA : RefV w7 (.agg #[.slice s4 k4 c4]) r := n5.kept hG7
      have nB : RefV w7 (.agg #[.slice s7 k7 c7]) (A - r * r) := ⟨s7, k7, c7, zs7, rfl, n7⟩
      obtain ⟨W9, hW9⟩ : ∃ W, W = (w7.setCell ⟨w.heap.size + 1, 0, none⟩ (.slice s4 k4 c4)).setCell ⟨w.heap.size + 1 + 1, 0, none⟩ (.slice s7 k7 c7) := ⟨_, rfl⟩
      have q1' := heap_unset (g := w.heap.size + 1 + 1) q1 (by omega) (.slice s7 k7 c7)
      have q2' := heap_set q2 (.slice s7 k7 c7)
      have nA' := (nA.set_other hr27 (by decide) 0 (.slice s4 k4 c4)).set_other q2 (by decide) 0 (.slice s7 k7 c7)
      have nB' := (nB.set_other hr27 (by decide) 0 (.slice s4 k4 c4)).set_other q2 (by decide) 0 (.slice s7 k7 c7)
      have hgW := grown_new (grown_new (grown_trans hgw5 hG7) (grown_set (grown_refl w7 (some (w.heap.size + 1))) 0 (.slice s4 k4 c4)) (by omega)) (grown_set (grown_refl _ (some (w.heap.size + 1 + 1))) 0 (.slice s7 k7 c7)) (by omega)
      rw [← hW9] at q1' q2' nA' nB' hgW
      have HF : Hid (∃ r, IsRoot A r ∧ ∃ v u, Ending.returned (.tuple #[.agg #[.slice s4 k4 c4], .agg #[.slice s7 k7 c7]]) = Ending.returned (.tuple #[v, u]) ∧ RefV W9 v r ∧ RefV W9 u (A - r * r) ∧ w.grownBy W9 none) := ⟨r, HROOT.out, _, _, rfl, nA', nB', hgW⟩
      obtain ⟨cq1, gq1⟩ := box_cell q1'
      obtain ⟨cq2, gq2⟩ := box_cell q2'
      rw [← hW9]
      clear hW9 q1 q2 nA nB nA' nB' hgW n7 n6 n5 na5 hr27 hr37 c27 f27 c37 f37
      go_wp2_with fail
      exact bodyPost_ret (v := .tuple #[.agg #[.slice s4 k4 c4], .agg #[.slice s7 k7 c7]]) (by simp [results, Tryd.results40, go_sem, cq1, cq2]) rfl HF.out
    · obtain ⟨k, rfl⟩ : ∃ k, j = k + 1 := ⟨j - 1, by omega⟩
      clear hz
      have ek : ((k + 1 : Nat) : Int) - 1 = (k : Int) := by omega
      rw [ek]
      have hkN : k < N := by omega
      have hkI : (k : Int) < (N : Int) := by omega
      obtain ⟨X, hX⟩ : ∃ X, D ^ (k + 1) * val D hs = X := ⟨_, rfl⟩
      obtain ⟨P, hP⟩ : ∃ P, D ^ k = P := ⟨_, rfl⟩
      have hsq0 : X * X ≤ A ∧ A < (X + D * P) * (X + D * P) := by
        have h1 := hsq.out
        have h2 : D ^ (k + 1) = D * P := by rw [Nat.pow_succ, hP, Nat.mul_comm]
        rw [hX] at h1
        rw [h2] at h1
        exact h1
      have HSQ := Lib.hid hsq0
      have hrep : List.replicate (k + 1) 0 ++ hs = List.replicate k 0 ++ 0 :: hs := by rw [List.replicate_succ', List.append_assoc]; rfl
      rw [hrep] at hI
      have HY : Hid (∀ m, val D (List.replicate k 0 ++ m :: hs) = X + m * P) := by
        intro m
        rw [val_rep]
        show D ^ k * (m + D * val D hs) = _
        rw [root_y, hX, hP]
      have HLEN : Hid (∀ m : Nat, (List.replicate k 0 ++ m :: hs).length = N) := by
        intro m
        rw [List.length_append, List.length_replicate, List.length_cons, hhl.out]; omega
      have HSET : Hid (∀ m q : Nat, (List.replicate k 0 ++ m :: hs).set k q = List.replicate k 0 ++ q :: hs) := by
        intro m q
        rw [List.set_append]; simp
      clear hsq hsq0 ek hrep ca fa
      go_wp2_with fail
      go_loopw [7, 8] (fun l h wi => ∃ (lo hi m : Nat), l = .int .i64 lo ∧ h = .int .i64 hi ∧ lo < hi ∧ hi ≤ 10000 ∧ m < 10000 ∧ Ints wi g (List.replicate k 0 ++ m :: hs) ∧ Hid ((X + lo * P) * (X + lo * P) ≤ A) ∧ Hid (A < (X + hi * P) * (X + hi * P)) ∧ wA.grownBy wi none) (fun l h _ => ((intOf h) - (intOf l)).toNat)
      case atStart => exact ⟨0, 10000, 0, rfl, rfl, by omega, by omega, by omega, hI, by show _ ≤ _; rw [Nat.zero_mul]; exact HSQ.out.1, HSQ.out.2, hG⟩
      case round =>
        clear hI hG
        obtain ⟨lo, hi, m, rfl, rfl, hlt, hh, hm9, hI, hlo, hhi, hG⟩ := hrel
        have c8 := hI.cell (HLEN.out m) k hkN
        have f8 := hI.frozen k
        by_cases h1 : 1 < hi - lo
        · obtain ⟨mid, hm⟩ : ∃ mid, (lo + hi) / 2 = mid := ⟨_, rfl⟩
          have em : ((lo : Int) + (hi : Int)) / 2 = (mid : Int) := by omega
          have f1 : decide ((1 : Int) < (hi : Int) - (lo : Int)) = true := decide_eq_true (by omega)
          obtain ⟨hml, hmh⟩ := bin_step h1 hm
          have hmid9 : mid < 10000 := by omega
          have hI8 := hI.set k mid
          rw [HSET.out] at hI8
          have hG8 := grown_new hG (grown_set (grown_refl wr (some g)) k (.int .i64 (mid : Int))) hgA
          obtain ⟨Y, hY⟩ : ∃ Y, X + mid * P = Y := ⟨_, rfl⟩
          have hYval : val D (List.replicate k 0 ++ mid :: hs) = Y := by rw [HY.out, hY]
          have hYN : Y < D ^ N := by
            rw [← hYval, ← HLEN.out mid]
            exact val_lt D _ (Dig.append (Dig.replicate D_pos k) (Dig.cons (show mid < D from hmid9) hhd))
          have hYD : Hid (Y < D ^ 1000000) := by
            show _ < _
            obtain ⟨F, hF⟩ : ∃ F, F = 1000000 := ⟨_, rfl⟩
            rw [← hF]
            exact Nat.lt_of_lt_of_le hYN (Nat.pow_le_pow_right D_pos (by omega))
          have hYY : Hid (Y * Y < D ^ 1000000) := by
            show _ < _
            obtain ⟨F, hF⟩ : ∃ F, F = 1000000 := ⟨_, rfl⟩
            rw [← hF]
            have h2 : Y * Y < D ^ N * D ^ N := Nat.mul_lt_mul'' hYN hYN
            rw [← Nat.pow_add] at h2
            exact Nat.lt_of_lt_of_le h2 (Nat.pow_le_pow_right D_pos (by omega))
          obtain ⟨c, hc⟩ : ∃ c, cmpInt (Y * Y) A = c := ⟨_, rfl⟩
          have HC := Lib.hid hc
          have key : (decide (c ≤ 0) = true ∧ Y * Y ≤ A) ∨ (decide (c ≤ 0) = false ∧ A < Y * Y) := by
            rcases Nat.lt_trichotomy (Y * Y) A with q | q | q
            · left; rw [← hc, cmpInt_lt q]; exact ⟨by decide, by omega⟩
            · left; rw [← hc, cmpInt_eq q]; exact ⟨by decide, by omega⟩
            · right; rw [← hc, cmpInt_gt q]; exact ⟨by decide, q⟩
          have HYe := Lib.hid hY
          have HYV := Lib.hid hYval
          have hg8 : g < (wr.setCell ⟨g, k, none⟩ (.int .i64 (mid : Int))).heap.size := RBlk.lt hI8
          have hownA : ((wr.setCell ⟨g, k, none⟩ (.int .i64 (mid : Int))).alloc (.cells #[] 3)).ownsRow (g + 1) 3 1 (.slice (some ⟨wr.heap.size, 0, none⟩) 0 0) 0 [] := own_none (by simp) (by have := hg8; simp at this; omega)
          have HNEWS := Lib.hid (hI8.kept (World.grownBy_alloc _ (.cells #[] 3) none)).news
          have HOWN := Lib.hid hownA
          have hlen : ((List.replicate k 0 ++ mid :: hs).map iv).length = N * 1 := by rw [List.length_map, HLEN.out]; omega
          have hsi : g + 1 ≤ ((wr.setCell ⟨g, k, none⟩ (.int .i64 (mid : Int))).alloc (.cells #[] 3)).heap.size := by simp; simp at hg8; omega
          have HLN := Lib.hid hlen
          have HI8 := Lib.hid hI8
          have KEY := Lib.hid key
          have HG8 := Lib.hid hG8
          clear hc hm hY hYval hYN hI h1 hownA hlen hI8 key hG8
          go_wp2_with (at_builtin; refine wpList_append_lies _ rfl _ _ _ rfl (g + 1) 3 i0 (.int .i64 0) 1 8 Tryd.underlying28 hi' hz0 hz1 hz2 rfl (by omega) (.slice (some ⟨wr.heap.size, 0, none⟩) 0 0) 0 [] rfl HOWN.out ⟨g, 0, none⟩ N N ((List.replicate k 0 ++ mid :: hs).map iv) rfl HLN.out HNEWS.out (iv_one _) (by omega) (by unfold maxLen; omega) (by omega) hsi _ rfl ?_; intro g2 cap2 w5 hown5 hgrow hat9 hlt9)
          have hgrow : ((wr.setCell ⟨g, k, none⟩ (.int .i64 (mid : Int))).alloc (.cells #[] 3)).grownBy w5 (some wr.heap.size) := hgrow
          simp only [List.nil_append, Nat.zero_add] at hown5
          obtain ⟨hrd5, hcap5, hlen5⟩ := own_rdoI hown5
          have hgw : g < wr.heap.size := by have := hg8; simp at this; omega
          have hG5 : wA.grownBy w5 none := grown_new (grown_alloc HG8.out _) hgrow (by omega)
          have hI5 : Ints w5 g (List.replicate k 0 ++ mid :: hs) := RBlk.kept (Ints.kept HI8.out (World.grownBy_alloc _ (.cells #[] 3) none)) hgrow (by simp; omega)
          have HD5 := Lib.hid (Dig.append (Dig.replicate D_pos k) (Dig.cons (show mid < D from hmid9) hhd))
          have HI5 := Lib.hid hI5
          have HL5 := Lib.hid hlen5
          clear hown5 hgrow hI5 HI8 HG8 HOWN HNEWS HLN c8 f8 hg8 hsi hlen5
          refine (rcut_any w5 (some ⟨g2, 0, none⟩) N cap2 _ HL5.out hrd5 hcap5 (by omega) HD5.out).mono ?_
          rintro e w6 ⟨v, rfl, ⟨s6, k6, c6, zs6, rfl, hn6'⟩, hg6⟩
          have n6 : RefV w6 (.agg #[.slice s6 k6 c6]) Y := by rw [← HYV.out]; exact ⟨s6, k6, c6, zs6, rfl, hn6'⟩
          have hgX := grown_alloc hg6 (.cells #[.slice s6 k6 c6] 30)
          have hG10 := grown_trans hG5 hgX
          have n10 := n6.kept (World.grownBy_alloc w6 (.cells #[.slice s6 k6 c6] 30) none)
          have h10 := heap_new w6 (.cells #[.slice s6 k6 c6] 30) w6.heap.size rfl
          have hI10 := HI5.out.kept hgX
          clear hn6' n6 hg6 hgX hrd5 HI5 hG5
          go_wp2_with fail
          generalize (w6.alloc (.cells #[.slice s6 k6 c6] 30)) = W10 at *
          generalize w6.heap.size = b10 at *
          obtain ⟨c10, f10⟩ := box_cell h10
          obtain ⟨ca10, fa10⟩ := box_cell (heap_kept hG10 hb1)
          have na10 := naA.kept hG10
          have HI10 := Lib.hid hI10
          clear hI10
          rcases KEY.out with ⟨fc, hkey⟩ | ⟨fc, hkey⟩
          · have HK := Lib.hid hkey
            clear hkey KEY
            go_wp2_with fail
            go_region_held3 (fun w' => w'.cell? ⟨b10, 0, none⟩ = some (.slice s6 k6 c6) ∧ w'.cell? ⟨w.heap.size, 0, none⟩ = some (.slice sa n cx))
              (first | assumption | exact ⟨c10, ca10⟩ | go_keep)
              (first
                | (go_at_call 34; (with_reducible refine (rMul_any W10.drew _ _ Y Y (n10.kept (grown_drew (grown_refl _ _))) (n10.kept (grown_drew (grown_refl _ _))) hYD.out hYD.out).mono ?_); rintro e w8 ⟨v8, rfl, n8, g8⟩; have hG8 := grown_pre W10 g8 rfl rfl rfl rfl; have hS8 := And.intro (hG8.cell c10 (by simp)) (hG8.cell ca10 (by simp)))
                | (go_at_call 19; (with_reducible refine (rCmp_any w8 _ _ (Y * Y) A n8 (na10.kept hG8) hYY.out HAD.out).mono ?_); rintro e w9 ⟨rfl, g9⟩; rw [HC.out]; have hG9 := grown_trans hG8 g9; have hS9 := And.intro (hG9.cell c10 (by simp)) (hG9.cell ca10 (by simp))))
            go_wp2_with fail
            go_roundw
            case rel => exact ⟨mid, hi, mid, by first | rfl | go_num, by first | rfl | go_num, hmh, hh, hmid9, HI10.out.kept hG9, by show _ ≤ _; rw [HYe.out]; exact HK.out, hhi, grown_trans hG10 hG9⟩
            case measure => simp [intOf]; omega
          · have HK := Lib.hid hkey
            clear hkey KEY
            go_wp2_with fail
            go_region_held3 (fun w' => w'.cell? ⟨b10, 0, none⟩ = some (.slice s6 k6 c6) ∧ w'.cell? ⟨w.heap.size, 0, none⟩ = some (.slice sa n cx))
              (first | assumption | exact ⟨c10, ca10⟩ | go_keep)
              (first
                | (go_at_call 34; (with_reducible refine (rMul_any W10.drew _ _ Y Y (n10.kept (grown_drew (grown_refl _ _))) (n10.kept (grown_drew (grown_refl _ _))) hYD.out hYD.out).mono ?_); rintro e w8 ⟨v8, rfl, n8, g8⟩; have hG8 := grown_pre W10 g8 rfl rfl rfl rfl; have hS8 := And.intro (hG8.cell c10 (by simp)) (hG8.cell ca10 (by simp)))
                | (go_at_call 19; (with_reducible refine (rCmp_any w8 _ _ (Y * Y) A n8 (na10.kept hG8) hYY.out HAD.out).mono ?_); rintro e w9 ⟨rfl, g9⟩; rw [HC.out]; have hG9 := grown_trans hG8 g9; have hS9 := And.intro (hG9.cell c10 (by simp)) (hG9.cell ca10 (by simp))))
            go_wp2_with fail
            go_roundw
            case rel => exact ⟨lo, mid, mid, by first | rfl | go_num, by first | rfl | go_num, hml, by omega, hmid9, HI10.out.kept hG9, hlo, by show _ < _; rw [HYe.out]; exact HK.out, grown_trans hG10 hG9⟩
            case measure => simp [intOf]; omega
        · have hhe : hi = lo + 1 := by omega
          have f1 : decide ((1 : Int) < (hi : Int) - (lo : Int)) = false := decide_eq_false (by omega)
          have hlo9 : lo < 10000 := by omega
          have hI8 := hI.set k lo
          rw [HSET.out] at hI8
          have hG8 := grown_new hG (grown_set (grown_refl wr (some g)) k (.int .i64 (lo : Int))) hgA
          have hln : Hid ((lo :: hs).length = N - k) := by show _ = _; rw [List.length_cons, hhl.out]; omega
          have hhd2 : Dig D (lo :: hs) := Dig.cons (show lo < D from hlo9) hhd
          have hsn : Hid ((D ^ k * val D (lo :: hs)) * (D ^ k * val D (lo :: hs)) ≤ A ∧ A < (D ^ k * val D (lo :: hs) + D ^ k) * (D ^ k * val D (lo :: hs) + D ^ k)) := by
            show _ ∧ _
            have e : D ^ k * val D (lo :: hs) = X + lo * P := by rw [← val_rep]; exact HY.out lo
            rw [e, hP]
            refine ⟨hlo.out, ?_⟩
            have h3 := hhi.out
            have e2 : X + hi * P = X + lo * P + P := by rw [hhe, Nat.succ_mul]; omega
            rw [e2] at h3
            exact h3
          have HI8 := Lib.hid hI8
          have HG8 := Lib.hid hG8
          clear hhe h1 hI hG hhi hI8 hG8
          go_wp2_with fail
          go_roundw
          case rel => exact ⟨k, lo :: hs, by omega, by go_num, hln, hhd2, HI8.out, hsn, HG8.out⟩
          case measure => simp [intOf]
end Go.Proofs.YtooeonjkpgbdpaaDoor
