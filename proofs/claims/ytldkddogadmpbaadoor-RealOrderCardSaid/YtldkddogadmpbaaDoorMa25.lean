/- What the laws lean on, part 25. -/
import Derived.Deep.RegionHeld3
import Derived.IntWalk
import Derived.Test.YtldkddogadmpbaaDoorMa24
import Derived.Test.YtldkddogadmpbaaDoorMa21
import Derived.Test.YtldkddogadmpbaaDoorMa23
namespace Go.Proofs.YtldkddogadmpbaaDoor
open Go.RowKit Mat
set_option maxRecDepth 100000
set_option linter.unusedVariables false
set_option linter.unusedSimpArgs false
theorem mv_step (xs : List Nat) (k : Nat) (h : k < xs.length) : mv (xs.take (k + 1)) = 256 * mv (xs.take k) + xs.getD k 0 := by rw [mv_snoc xs k h]; omega
theorem cell_unset {w : World} {a : Addr} {v : Value} (h : w.cell? a = some v) {g : Nat} (hne : a.block ≠ g) (o : Nat) (u : Value) : (w.setCell ⟨g, o, none⟩ u).cell? a = some v := by
  rw [← h]; exact World.cell?_of_block (Below.heap_setCell _ _ _ _ hne)
theorem cell_lt {w : World} {a : Addr} {v : Value} (h : w.cell? a = some v) : a.block < w.heap.size := by
  unfold World.cell? at h
  rcases Nat.lt_or_ge a.block w.heap.size with g | g
  · exact g
  · rw [Array.getElem?_eq_none (by omega)] at h; simp at h
theorem rSix_of (w : World) (k : Int) (e : Nat) (h : k = (e : Int) - 78) (he : e < 128) : Calls Tryd.prog 31 #[.int .i64 k] w (RetRQ w (six (e - 78) (78 - e)) 25) := rSix_any w k (e - 78) (78 - e) (by omega) (by omega) (by omega)
set_option maxHeartbeats 16000000 in
theorem rdec_a (w : World) (a : Addr) (cap : Nat) (x0 : Nat) (xs : List Nat) (hxs : xs.length = 7) (hcap : 8 ≤ cap) (hc : cap ≤ 9223372036854775807) (h0 : x0 < 256) (hd : ∀ x ∈ xs, x < 256)
    (c0 : w.cell? a = some (.int .u8 (x0 : Int))) (cs : ∀ i, i < 7 → w.cell? ⟨a.block, a.off + (i + 1), none⟩ = some (.int .u8 ((xs.getD i 0 : Nat) : Int))) :
    Calls Tryd.prog 9 #[.slice (some a) 8 cap] w (RetRQE w (rv (decide (128 ≤ x0)) (x0 % 128) (mv xs)) 60 0) := by
  have hG := World.grownBy_alloc w (.cells #[.int .i64 0, .slice none 0 0, .int .i64 0, .slice none 0 0] 40) none
  have Bq := heap_new w (.cells #[.int .i64 0, .slice none 0 0, .int .i64 0, .slice none 0 0] 40) w.heap.size rfl
  have HC0 := Lib.hid c0; clear c0
  have HCS := Lib.hid cs; clear cs
  have HXS := Lib.hid hxs; have HD := Lib.hid hd; clear hxs hd
  have hm7 : mv xs < 2 ^ 56 := mv_7 xs HXS.out HD.out
  have HM := Lib.hid hm7; clear hm7
  obtain ⟨e, he⟩ : ∃ e, x0 % 128 = e := ⟨_, rfl⟩
  have he7 : e < 128 := by omega
  have HE := Lib.hid he
  obtain ⟨R0, hR0⟩ : ∃ R, rv (decide (128 ≤ x0)) (x0 % 128) (mv xs) = R := ⟨_, rfl⟩
  rw [hR0]
  rw [he] at hR0
  have HR := Lib.hid hR0
  clear hR0 he
  go_enter Tryd.func9, Tryd.ntmps9
  go_wp2_with fail
  generalize (w.alloc (.cells #[.int .i64 0, .slice none 0 0, .int .i64 0, .slice none 0 0] 40)) = w0 at *
  go_loop [4, 5] (fun m i => ∃ k v : Nat, 1 ≤ k ∧ k ≤ 8 ∧ Hid (v = mv (xs.take (k - 1))) ∧ i = .int .i64 (k : Int) ∧ m = .int .u64 (v : Int)) (fun _ i => 8 - (intOf i).toNat)
  case atStart => exact ⟨1, 0, by omega, by omega, Lib.hid (by simp [mv]), rfl, rfl⟩
  case round =>
    obtain ⟨k, v, hk1, hk, HV, rfl, rfl⟩ := hrel
    by_cases hlt : k < 8
    · obtain ⟨j, rfl⟩ : ∃ j, k = j + 1 := ⟨k - 1, by omega⟩
      have hx : xs.getD j 0 < 256 := by
        rw [List.getD_eq_getElem?_getD, List.getElem?_eq_getElem (by rw [HXS.out]; omega)]; exact HD.out _ (List.getElem_mem _)
      have hv : v < 281474976710656 := by rw [HV.out]; exact mv_bd xs j HD.out (by omega)
      have HN : Hid (256 * v + xs.getD j 0 = mv (xs.take (j + 1))) := Lib.hid (by rw [mv_step xs j (by rw [HXS.out]; omega), HV.out]; rfl)
      have ck := hG.cell (HCS.out j (by omega)) (by simp)
      generalize xs.getD j 0 = x at *
      go_wp2_with fail
      exact ⟨⟨j + 2, 256 * v + x, by omega, by omega, HN, by go_num, by rfl⟩, by simp [intOf]; omega⟩
    · have hk8 : k = 8 := by omega
      subst hk8
      have hvm : v = mv xs := by rw [HV.out, show 8 - 1 = xs.length from HXS.out.symm, List.take_length]
      have hm : v < 2 ^ 56 := by rw [hvm]; exact HM.out
      rw [← hvm] at HR
      clear HV hvm HXS HD HM HCS hlt hk hk1
      have hvB : v < B := by unfold B; omega
      have ha9 : a.block < w.heap.size := cell_lt HC0.out
      have c0 := hG.cell HC0.out (by simp)
      by_cases h128 : 128 ≤ x0
      · skip
        rw [decide_eq_true h128] at HR
        have HY : Hid (0 < (1 : Int) ∧ (-(v : Int)).natAbs < D ^ 25 ∧ (1 : Int).natAbs < D ^ 25) := ⟨by omega, Nat.lt_trans (show (-(v : Int)).natAbs < 2 ^ 56 by omega) (two_D 56 (by omega)), Nat.lt_of_lt_of_le (show (1 : Int).natAbs < 2 ^ 1 by decide) (Nat.le_of_lt (two_D 1 (by omega)))⟩
        go_wp2_with fail
        clear c0
        refine (rOf_any w0 v hvB).mono ?_
        rintro e n1w1 ⟨v1, rfl, m1, gn1w1⟩
        replace Bq := heap_kept gn1w1 Bq
        replace hG := grown_trans hG gn1w1
        clear gn1w1
        obtain ⟨Cq0, Cq1, Cq2, Cq3, Fq0, Fq1, Fq2, Fq3⟩ := box_cells4 Bq
        go_wp2_with fail
        clear Cq0 Cq1 Cq2 Cq3 Fq0 Fq1 Fq2 Fq3
        refine (rMade_any n1w1 _ _ v (-(v : Int)) m1 (by omega) (by rcases Nat.eq_zero_or_pos v with h | h; exact Or.inl h; right; rw [Int.sign_eq_neg_one_of_neg (by omega)])).mono ?_
        rintro e n1w2 ⟨_, rfl, ⟨gn, sn, ln, cn, rfl, hn, mn⟩, gn1w2⟩
        have rn : RIntV n1w2 (.agg #[.int .i64 gn, .slice sn ln cn]) (-(v : Int)) := ⟨gn, sn, ln, cn, rfl, hn, mn⟩
        replace Bq := heap_kept gn1w2 Bq
        replace m1 := m1.kept gn1w2
        replace hG := grown_trans hG gn1w2
        clear gn1w2
        clear mn
        obtain ⟨Cq0, Cq1, Cq2, Cq3, Fq0, Fq1, Fq2, Fq3⟩ := box_cells4 Bq
        go_wp2_with fail
        clear Cq0 Cq1 Cq2 Cq3 Fq0 Fq1 Fq2 Fq3
        refine (rZOf_any n1w2 1 (by omega) (by omega)).mono ?_
        rintro e n1w3 ⟨_, rfl, ⟨go, so, lo, co, rfl, ho, mo⟩, gn1w3⟩
        have ro : RIntV n1w3 (.agg #[.int .i64 go, .slice so lo co]) (1) := ⟨go, so, lo, co, rfl, ho, mo⟩
        replace Bq := heap_kept gn1w3 Bq
        replace m1 := m1.kept gn1w3
        replace rn := rn.kept gn1w3
        replace hG := grown_trans hG gn1w3
        clear gn1w3
        clear mo
        obtain ⟨Cq0, Cq1, Cq2, Cq3, Fq0, Fq1, Fq2, Fq3⟩ := box_cells4 Bq
        have yn : RQ n1w3 (.agg #[.int .i64 gn, .slice sn ln cn, .int .i64 go, .slice so lo co]) (Rat.divInt (-(v : Int)) 1) 25 := RQ.of rn ro HY.out.1 rfl HY.out.2.1 HY.out.2.2
        clear rn ro m1
        have gbn1w3 := (World.grownBy_alloc n1w3 (.cells #[.int .i64 gn, .slice sn ln cn, .int .i64 go, .slice so lo co] 40) none)
        have Bn := (heap_new n1w3 (.cells #[.int .i64 gn, .slice sn ln cn, .int .i64 go, .slice so lo co] 40) (n1w3.heap.size) rfl)
        have hzn1w3 : Hid (w.heap.size ≤ n1w3.heap.size) := Lib.hid hG.size
        have hlqn1w3 : Hid (w.heap.size < n1w3.heap.size) := Lib.hid (Array.getElem?_eq_some_iff.1 Bq).1
        clear Cq0 Cq1 Cq2 Cq3 Fq0 Fq1 Fq2 Fq3
        replace Bq := heap_kept gbn1w3 Bq
        replace yn := yn.kept gbn1w3
        replace hG := grown_trans hG gbn1w3
        clear gbn1w3
        obtain ⟨Cq0, Cq1, Cq2, Cq3, Fq0, Fq1, Fq2, Fq3⟩ := box_cells4 Bq
        obtain ⟨Cn0, Cn1, Cn2, Cn3, Fn0, Fn1, Fn2, Fn3⟩ := box_cells4 Bn
        have HMV : Hid (Rat.divInt (-(v : Int)) 1 * six (e - 78) (78 - e) = R0) := Lib.hid (by rw [← HR.out, ← rv_doc]; simp [six])
        go_wp2_with fail
        generalize (n1w3.alloc (.cells #[.int .i64 gn, .slice sn ln cn, .int .i64 go, .slice so lo co] 40)) = n1w4 at *
        generalize n1w3.heap.size = an1w3 at *
        replace hzn1w3 := hzn1w3.out
        replace hlqn1w3 := hlqn1w3.out
        have c0 := hG.cell HC0.out (by simp)
        have t1 : (x0 : Int).tmod 128 = (e : Int) := by rw [Int.tmod_eq_emod_of_nonneg (by omega)]; have := HE.out; omega
        go_region_held3 (fun w' => w'.cell? ⟨an1w3, 0, none⟩ = some (.int .i64 gn) ∧ w'.cell? ⟨an1w3, 1, none⟩ = some (.slice sn ln cn) ∧ w'.cell? ⟨an1w3, 2, none⟩ = some (.int .i64 go) ∧ w'.cell? ⟨an1w3, 3, none⟩ = some (.slice so lo co) ∧ w'.cell? a = some (.int .u8 (x0 : Int)))
          (first | assumption | exact ⟨Cn0, Cn1, Cn2, Cn3, c0⟩ | exact HSn1w5_20 | go_keep)
          (first
            | (go_at_call 31; clear t1; (with_reducible refine (rSix_of n1w4.drew _ e (by simp only [IntKind.wrap_i64]; omega) (by omega)).mono ?_); rintro e n1w5_1 ⟨v5, rfl, j5, gn1w5_1⟩; have hGn1w5_1 := grown_pre n1w4 gn1w5_1 rfl rfl rfl rfl; have hSn1w5_1 := (And.intro (hGn1w5_1.cell Cn0 (by simp)) (And.intro (hGn1w5_1.cell Cn1 (by simp)) (And.intro (hGn1w5_1.cell Cn2 (by simp)) (And.intro (hGn1w5_1.cell Cn3 (by simp)) (hGn1w5_1.cell c0 (by simp)))))); clear gn1w5_1)
            | (go_at_call 30; (with_reducible refine (rQMul_any n1w5_1 _ _ _ _ 25 25 (yn.kept hGn1w5_1) j5 (by omega)).mono ?_); rintro e n1w5_2 ⟨_, rfl, ⟨gd, sd, ld, cd, gd', sd', ld', cd', nd, dd, rfl, hd, hd', ud⟩, gn1w5_2⟩; have hGn1w5_2 := grown_trans hGn1w5_1 gn1w5_2; replace j5 := j5.kept gn1w5_2; have yd : RQ n1w5_2 (.agg #[.int .i64 gd, .slice sd ld cd, .int .i64 gd', .slice sd' ld' cd']) (Rat.divInt (-(v : Int)) 1 * six (e - 78) (78 - e)) (25 + 25) := ⟨gd, sd, ld, cd, gd', sd', ld', cd', nd, dd, rfl, hd, hd', ud⟩; have hSn1w5_2 := (And.intro (hGn1w5_2.cell Cn0 (by simp)) (And.intro (hGn1w5_2.cell Cn1 (by simp)) (And.intro (hGn1w5_2.cell Cn2 (by simp)) (And.intro (hGn1w5_2.cell Cn3 (by simp)) (hGn1w5_2.cell c0 (by simp)))))); clear gn1w5_2; clear hd hd'; (obtain ⟨dq0, dq1, dq2, dq3, dq4, dq5, dq6, dq7⟩ := box_cells4 (heap_kept hGn1w5_2 Bq)); have HSn1w5_20 := (And.intro ((box_cells4 (heap_unset4 (heap_kept hGn1w5_2 Bn) (show an1w3 ≠ w.heap.size by omega) (.int .i64 gd) (.slice sd ld cd) (.int .i64 gd') (.slice sd' ld' cd'))).1) (And.intro ((box_cells4 (heap_unset4 (heap_kept hGn1w5_2 Bn) (show an1w3 ≠ w.heap.size by omega) (.int .i64 gd) (.slice sd ld cd) (.int .i64 gd') (.slice sd' ld' cd'))).2.1) (And.intro ((box_cells4 (heap_unset4 (heap_kept hGn1w5_2 Bn) (show an1w3 ≠ w.heap.size by omega) (.int .i64 gd) (.slice sd ld cd) (.int .i64 gd') (.slice sd' ld' cd'))).2.2.1) (And.intro ((box_cells4 (heap_unset4 (heap_kept hGn1w5_2 Bn) (show an1w3 ≠ w.heap.size by omega) (.int .i64 gd) (.slice sd ld cd) (.int .i64 gd') (.slice sd' ld' cd'))).2.2.2.1) ((cell_unset (cell_unset (cell_unset (cell_unset (hGn1w5_2.cell c0 (by simp)) (show a.block ≠ w.heap.size by omega) 0 (.int .i64 gd)) (show a.block ≠ w.heap.size by omega) 1 (.slice sd ld cd)) (show a.block ≠ w.heap.size by omega) 2 (.int .i64 gd')) (show a.block ≠ w.heap.size by omega) 3 (.slice sd' ld' cd')))))))))
        replace Bq := heap_kept hGn1w5_2 Bq
        replace Bn := heap_kept hGn1w5_2 Bn
        replace yn := yn.kept hGn1w5_2
        replace hG := grown_trans hG hGn1w5_2
        clear Cq0 Cq1 Cq2 Cq3 Fq0 Fq1 Fq2 Fq3 Cn0 Cn1 Cn2 Cn3 Fn0 Fn1 Fn2 Fn3
        have yr : RQ n1w5_2 (.agg #[.int .i64 gd, .slice sd ld cd, .int .i64 gd', .slice sd' ld' cd']) R0 60 := by have h := yd.mono (show 25 + 25 ≤ 60 by omega); rw [HMV.out] at h; exact h
        clear yd yn j5 c0
        obtain ⟨k90, k91, k92, k93, k94, k95, k96, k97⟩ := box_cells4 Bq
        obtain ⟨q90, q91, q92, q93, q94, q95, q96, q97⟩ := box_cells4 (heap_set4 Bq (.int .i64 gd) (.slice sd ld cd) (.int .i64 gd') (.slice sd' ld' cd'))
        have hF : Hid (RetRQE w R0 60 0 (.returned (.tuple #[.agg #[.int .i64 gd, .slice sd ld cd, .int .i64 gd', .slice sd' ld' cd'], .int .i64 0])) ((((n1w5_2.setCell ⟨w.heap.size, 0, none⟩ (.int .i64 gd)).setCell ⟨w.heap.size, 1, none⟩ (.slice sd ld cd)).setCell ⟨w.heap.size, 2, none⟩ (.int .i64 gd')).setCell ⟨w.heap.size, 3, none⟩ (.slice sd' ld' cd'))) := ret_rqE hG Bq (by omega) yr
        clear yr
        obtain ⟨Cn0, Cn1, Cn2, Cn3, Fn0, Fn1, Fn2, Fn3⟩ := box_cells4 Bn
        go_wp2_with fail
        exact bodyPost_ret (v := .tuple #[.agg #[.int .i64 gd, .slice sd ld cd, .int .i64 gd', .slice sd' ld' cd'], .int .i64 0]) (by simp [results, Tryd.results9, go_sem, q90, q91, q92, q93]) rfl hF.out
      · skip
        rw [decide_eq_false h128] at HR
        have HY : Hid (0 < (1 : Int) ∧ ((v : Int)).natAbs < D ^ 25 ∧ (1 : Int).natAbs < D ^ 25) := ⟨by omega, Nat.lt_trans (show ((v : Int)).natAbs < 2 ^ 56 by omega) (two_D 56 (by omega)), Nat.lt_of_lt_of_le (show (1 : Int).natAbs < 2 ^ 1 by decide) (Nat.le_of_lt (two_D 1 (by omega)))⟩
        go_wp2_with fail
        clear c0
        refine (rOf_any w0 v hvB).mono ?_
        rintro e n0w1 ⟨v1, rfl, m1, gn0w1⟩
        replace Bq := heap_kept gn0w1 Bq
        replace hG := grown_trans hG gn0w1
        clear gn0w1
        obtain ⟨Cq0, Cq1, Cq2, Cq3, Fq0, Fq1, Fq2, Fq3⟩ := box_cells4 Bq
        go_wp2_with fail
        clear Cq0 Cq1 Cq2 Cq3 Fq0 Fq1 Fq2 Fq3
        refine (rMade_any n0w1 _ _ v ((v : Int)) m1 (by omega) (by rcases Nat.eq_zero_or_pos v with h | h; exact Or.inl h; right; rw [Int.sign_eq_one_of_pos (by omega)])).mono ?_
        rintro e n0w2 ⟨_, rfl, ⟨gn, sn, ln, cn, rfl, hn, mn⟩, gn0w2⟩
        have rn : RIntV n0w2 (.agg #[.int .i64 gn, .slice sn ln cn]) ((v : Int)) := ⟨gn, sn, ln, cn, rfl, hn, mn⟩
        replace Bq := heap_kept gn0w2 Bq
        replace m1 := m1.kept gn0w2
        replace hG := grown_trans hG gn0w2
        clear gn0w2
        clear mn
        obtain ⟨Cq0, Cq1, Cq2, Cq3, Fq0, Fq1, Fq2, Fq3⟩ := box_cells4 Bq
        go_wp2_with fail
        clear Cq0 Cq1 Cq2 Cq3 Fq0 Fq1 Fq2 Fq3
        refine (rZOf_any n0w2 1 (by omega) (by omega)).mono ?_
        rintro e n0w3 ⟨_, rfl, ⟨go, so, lo, co, rfl, ho, mo⟩, gn0w3⟩
        have ro : RIntV n0w3 (.agg #[.int .i64 go, .slice so lo co]) (1) := ⟨go, so, lo, co, rfl, ho, mo⟩
        replace Bq := heap_kept gn0w3 Bq
        replace m1 := m1.kept gn0w3
        replace rn := rn.kept gn0w3
        replace hG := grown_trans hG gn0w3
        clear gn0w3
        clear mo
        obtain ⟨Cq0, Cq1, Cq2, Cq3, Fq0, Fq1, Fq2, Fq3⟩ := box_cells4 Bq
        have yn : RQ n0w3 (.agg #[.int .i64 gn, .slice sn ln cn, .int .i64 go, .slice so lo co]) (Rat.divInt ((v : Int)) 1) 25 := RQ.of rn ro HY.out.1 rfl HY.out.2.1 HY.out.2.2
        clear rn ro m1
        have gbn0w3 := (World.grownBy_alloc n0w3 (.cells #[.int .i64 gn, .slice sn ln cn, .int .i64 go, .slice so lo co] 40) none)
        have Bn := (heap_new n0w3 (.cells #[.int .i64 gn, .slice sn ln cn, .int .i64 go, .slice so lo co] 40) (n0w3.heap.size) rfl)
        have hzn0w3 : Hid (w.heap.size ≤ n0w3.heap.size) := Lib.hid hG.size
        have hlqn0w3 : Hid (w.heap.size < n0w3.heap.size) := Lib.hid (Array.getElem?_eq_some_iff.1 Bq).1
        clear Cq0 Cq1 Cq2 Cq3 Fq0 Fq1 Fq2 Fq3
        replace Bq := heap_kept gbn0w3 Bq
        replace yn := yn.kept gbn0w3
        replace hG := grown_trans hG gbn0w3
        clear gbn0w3
        obtain ⟨Cq0, Cq1, Cq2, Cq3, Fq0, Fq1, Fq2, Fq3⟩ := box_cells4 Bq
        obtain ⟨Cn0, Cn1, Cn2, Cn3, Fn0, Fn1, Fn2, Fn3⟩ := box_cells4 Bn
        have HMV : Hid (Rat.divInt ((v : Int)) 1 * six (e - 78) (78 - e) = R0) := Lib.hid (by rw [← HR.out, ← rv_doc]; simp [six])
        go_wp2_with fail
        generalize (n0w3.alloc (.cells #[.int .i64 gn, .slice sn ln cn, .int .i64 go, .slice so lo co] 40)) = n0w4 at *
        generalize n0w3.heap.size = an0w3 at *
        replace hzn0w3 := hzn0w3.out
        replace hlqn0w3 := hlqn0w3.out
        have c0 := hG.cell HC0.out (by simp)
        have t1 : (x0 : Int).tmod 128 = (e : Int) := by rw [Int.tmod_eq_emod_of_nonneg (by omega)]; have := HE.out; omega
        go_region_held3 (fun w' => w'.cell? ⟨an0w3, 0, none⟩ = some (.int .i64 gn) ∧ w'.cell? ⟨an0w3, 1, none⟩ = some (.slice sn ln cn) ∧ w'.cell? ⟨an0w3, 2, none⟩ = some (.int .i64 go) ∧ w'.cell? ⟨an0w3, 3, none⟩ = some (.slice so lo co) ∧ w'.cell? a = some (.int .u8 (x0 : Int)))
          (first | assumption | exact ⟨Cn0, Cn1, Cn2, Cn3, c0⟩ | exact HSn0w5_20 | go_keep)
          (first
            | (go_at_call 31; clear t1; (with_reducible refine (rSix_of n0w4.drew _ e (by simp only [IntKind.wrap_i64]; omega) (by omega)).mono ?_); rintro e n0w5_1 ⟨v5, rfl, j5, gn0w5_1⟩; have hGn0w5_1 := grown_pre n0w4 gn0w5_1 rfl rfl rfl rfl; have hSn0w5_1 := (And.intro (hGn0w5_1.cell Cn0 (by simp)) (And.intro (hGn0w5_1.cell Cn1 (by simp)) (And.intro (hGn0w5_1.cell Cn2 (by simp)) (And.intro (hGn0w5_1.cell Cn3 (by simp)) (hGn0w5_1.cell c0 (by simp)))))); clear gn0w5_1)
            | (go_at_call 30; (with_reducible refine (rQMul_any n0w5_1 _ _ _ _ 25 25 (yn.kept hGn0w5_1) j5 (by omega)).mono ?_); rintro e n0w5_2 ⟨_, rfl, ⟨gd, sd, ld, cd, gd', sd', ld', cd', nd, dd, rfl, hd, hd', ud⟩, gn0w5_2⟩; have hGn0w5_2 := grown_trans hGn0w5_1 gn0w5_2; replace j5 := j5.kept gn0w5_2; have yd : RQ n0w5_2 (.agg #[.int .i64 gd, .slice sd ld cd, .int .i64 gd', .slice sd' ld' cd']) (Rat.divInt ((v : Int)) 1 * six (e - 78) (78 - e)) (25 + 25) := ⟨gd, sd, ld, cd, gd', sd', ld', cd', nd, dd, rfl, hd, hd', ud⟩; have hSn0w5_2 := (And.intro (hGn0w5_2.cell Cn0 (by simp)) (And.intro (hGn0w5_2.cell Cn1 (by simp)) (And.intro (hGn0w5_2.cell Cn2 (by simp)) (And.intro (hGn0w5_2.cell Cn3 (by simp)) (hGn0w5_2.cell c0 (by simp)))))); clear gn0w5_2; clear hd hd'; (obtain ⟨dq0, dq1, dq2, dq3, dq4, dq5, dq6, dq7⟩ := box_cells4 (heap_kept hGn0w5_2 Bq)); have HSn0w5_20 := (And.intro ((box_cells4 (heap_unset4 (heap_kept hGn0w5_2 Bn) (show an0w3 ≠ w.heap.size by omega) (.int .i64 gd) (.slice sd ld cd) (.int .i64 gd') (.slice sd' ld' cd'))).1) (And.intro ((box_cells4 (heap_unset4 (heap_kept hGn0w5_2 Bn) (show an0w3 ≠ w.heap.size by omega) (.int .i64 gd) (.slice sd ld cd) (.int .i64 gd') (.slice sd' ld' cd'))).2.1) (And.intro ((box_cells4 (heap_unset4 (heap_kept hGn0w5_2 Bn) (show an0w3 ≠ w.heap.size by omega) (.int .i64 gd) (.slice sd ld cd) (.int .i64 gd') (.slice sd' ld' cd'))).2.2.1) (And.intro ((box_cells4 (heap_unset4 (heap_kept hGn0w5_2 Bn) (show an0w3 ≠ w.heap.size by omega) (.int .i64 gd) (.slice sd ld cd) (.int .i64 gd') (.slice sd' ld' cd'))).2.2.2.1) ((cell_unset (cell_unset (cell_unset (cell_unset (hGn0w5_2.cell c0 (by simp)) (show a.block ≠ w.heap.size by omega) 0 (.int .i64 gd)) (show a.block ≠ w.heap.size by omega) 1 (.slice sd ld cd)) (show a.block ≠ w.heap.size by omega) 2 (.int .i64 gd')) (show a.block ≠ w.heap.size by omega) 3 (.slice sd' ld' cd')))))))))
        replace Bq := heap_kept hGn0w5_2 Bq
        replace Bn := heap_kept hGn0w5_2 Bn
        replace yn := yn.kept hGn0w5_2
        replace hG := grown_trans hG hGn0w5_2
        clear Cq0 Cq1 Cq2 Cq3 Fq0 Fq1 Fq2 Fq3 Cn0 Cn1 Cn2 Cn3 Fn0 Fn1 Fn2 Fn3
        have yr : RQ n0w5_2 (.agg #[.int .i64 gd, .slice sd ld cd, .int .i64 gd', .slice sd' ld' cd']) R0 60 := by have h := yd.mono (show 25 + 25 ≤ 60 by omega); rw [HMV.out] at h; exact h
        clear yd yn j5 c0
        obtain ⟨k90, k91, k92, k93, k94, k95, k96, k97⟩ := box_cells4 Bq
        obtain ⟨q90, q91, q92, q93, q94, q95, q96, q97⟩ := box_cells4 (heap_set4 Bq (.int .i64 gd) (.slice sd ld cd) (.int .i64 gd') (.slice sd' ld' cd'))
        have hF : Hid (RetRQE w R0 60 0 (.returned (.tuple #[.agg #[.int .i64 gd, .slice sd ld cd, .int .i64 gd', .slice sd' ld' cd'], .int .i64 0])) ((((n0w5_2.setCell ⟨w.heap.size, 0, none⟩ (.int .i64 gd)).setCell ⟨w.heap.size, 1, none⟩ (.slice sd ld cd)).setCell ⟨w.heap.size, 2, none⟩ (.int .i64 gd')).setCell ⟨w.heap.size, 3, none⟩ (.slice sd' ld' cd'))) := ret_rqE hG Bq (by omega) yr
        clear yr
        obtain ⟨Cn0, Cn1, Cn2, Cn3, Fn0, Fn1, Fn2, Fn3⟩ := box_cells4 Bn
        go_wp2_with fail
        exact bodyPost_ret (v := .tuple #[.agg #[.int .i64 gd, .slice sd ld cd, .int .i64 gd', .slice sd' ld' cd'], .int .i64 0]) (by simp [results, Tryd.results9, go_sem, q90, q91, q92, q93]) rfl hF.out
set_option maxHeartbeats 16000000 in
theorem rdec_bad (w : World) (s : Option Addr) (n cap : Nat) (hn : n ≠ 8) (hb : n ≤ 9223372036854775807) :
    Calls Tryd.prog 9 #[.slice s n cap] w (RetRQE w 0 60 3) := by
  have f1 : ((n : Int) != 8) = true := bne_iff_ne.2 (by omega)
  have f2 : ((n : Int) == 8) = false := beq_eq_false_iff_ne.2 (by omega)
  have hG := World.grownBy_alloc w (.cells #[.int .i64 0, .slice none 0 0, .int .i64 0, .slice none 0 0] 40) none
  have Bq := heap_new w (.cells #[.int .i64 0, .slice none 0 0, .int .i64 0, .slice none 0 0] 40) w.heap.size rfl
  go_enter Tryd.func9, Tryd.ntmps9
  go_wp2_with fail
  generalize (w.alloc (.cells #[.int .i64 0, .slice none 0 0, .int .i64 0, .slice none 0 0] 40)) = w0 at *
  refine (rQOf_any w0 0 (by omega) (by omega)).mono ?_
  rintro e w1 ⟨_, rfl, ⟨gd, sd, ld, cd, gd', sd', ld', cd', nd, dd, rfl, hd, hd', ud⟩, gw1⟩
  have yd : RQ w1 (.agg #[.int .i64 gd, .slice sd ld cd, .int .i64 gd', .slice sd' ld' cd']) ((0 : Int) : Rat) 5 := ⟨gd, sd, ld, cd, gd', sd', ld', cd', nd, dd, rfl, hd, hd', ud⟩
  replace Bq := heap_kept gw1 Bq
  replace hG := grown_trans hG gw1
  clear gw1
  clear hd hd'
  obtain ⟨Cq0, Cq1, Cq2, Cq3, Fq0, Fq1, Fq2, Fq3⟩ := box_cells4 Bq
  have yr : RQ w1 (.agg #[.int .i64 gd, .slice sd ld cd, .int .i64 gd', .slice sd' ld' cd']) 0 60 := yd.mono (by omega)
  clear yd
  clear Cq0 Cq1 Cq2 Cq3 Fq0 Fq1 Fq2 Fq3
  obtain ⟨k90, k91, k92, k93, k94, k95, k96, k97⟩ := box_cells4 Bq
  obtain ⟨q90, q91, q92, q93, q94, q95, q96, q97⟩ := box_cells4 (heap_set4 Bq (.int .i64 gd) (.slice sd ld cd) (.int .i64 gd') (.slice sd' ld' cd'))
  have hF : Hid (RetRQE w 0 60 3 (.returned (.tuple #[.agg #[.int .i64 gd, .slice sd ld cd, .int .i64 gd', .slice sd' ld' cd'], .int .i64 3])) ((((w1.setCell ⟨w.heap.size, 0, none⟩ (.int .i64 gd)).setCell ⟨w.heap.size, 1, none⟩ (.slice sd ld cd)).setCell ⟨w.heap.size, 2, none⟩ (.int .i64 gd')).setCell ⟨w.heap.size, 3, none⟩ (.slice sd' ld' cd'))) := ret_rqE hG Bq (by omega) yr
  clear yr
  go_wp2_with fail
  exact bodyPost_ret (v := .tuple #[.agg #[.int .i64 gd, .slice sd ld cd, .int .i64 gd', .slice sd' ld' cd'], .int .i64 3]) (by simp [results, Tryd.results9, go_sem, q90, q91, q92, q93]) rfl hF.out
theorem rDec_any (w : World) (s : Option Addr) (n cap : Nat) (l : List Nat) (hn : l.length = n) (hl : BySl w s l) (hcap : n ≤ cap) (hc : cap ≤ 9223372036854775807) :
    Calls Tryd.prog 9 #[.slice s n cap] w (RetRQE w (bval l) 60 (bcod l)) := by
  by_cases h8 : n = 8
  · subst h8
    obtain ⟨h1, hd⟩ := hl
    obtain ⟨a, rfl, hx⟩ := h1.resolve_left (fun e => by rw [e] at hn; simp at hn)
    match l, hn with
    | x0 :: xs, hn =>
      have h := rdec_a w a cap x0 xs (by simpa using hn) hcap hc (hd x0 (by simp)) (fun x h => hd x (List.mem_cons_of_mem _ h)) (hx 0 (by simp)) (fun i hi => by
        have h := hx (i + 1) (by rw [hn]; omega)
        have e : (x0 :: xs)[i + 1]'(by rw [hn]; omega) = xs.getD i 0 := by
          simp only [List.getElem_cons_succ, List.getD_eq_getElem?_getD]
          rw [List.getElem?_eq_getElem (by simp at hn; omega)]; rfl
        rw [e] at h
        exact h)
      have e1 : bval (x0 :: xs) = rv (decide (128 ≤ x0)) (x0 % 128) (mv xs) := by unfold bval; rw [if_pos hn]; rfl
      have e2 : bcod (x0 :: xs) = 0 := by unfold bcod; rw [if_pos hn]
      rw [e1, e2]
      exact h
  · have h := rdec_bad w s n cap h8 (by omega)
    have e1 : bval l = 0 := by unfold bval; rw [if_neg (by omega)]
    have e2 : bcod l = 3 := by unfold bcod; rw [if_neg (by omega)]
    rw [e1, e2]; exact h
end Go.Proofs.YtldkddogadmpbaaDoor
namespace Go.Proofs.YtldkddogadmpbaaDoor
open Go.RowKit Mat
set_option maxRecDepth 100000
set_option linter.unusedVariables false
set_option linter.unusedSimpArgs false
set_option maxHeartbeats 8000000 in
theorem rGcd_any (w : World) (va vb : Value) (a b : Nat) (ha : RefV w va a) (hb : RefV w vb b) (ba : a < D ^ 400000) (bb : b < D ^ 400000) :
    Calls Tryd.prog 58 #[va, vb] w (RetRef w (Nat.gcd a b)) := by
  obtain ⟨E, hE⟩ : ∃ E, E = 400000 := ⟨_, rfl⟩
  rw [← hE] at ba bb
  obtain ⟨sa, n, cx, xs, rfl, ha'⟩ := ha
  obtain ⟨sb, m, cy, ys, rfl, hb'⟩ := hb
  have na : RefV w (.agg #[.slice sa n cx]) a := ⟨sa, n, cx, xs, rfl, ha'⟩
  have nb : RefV w (.agg #[.slice sb m cy]) b := ⟨sb, m, cy, ys, rfl, hb'⟩
  have hgw0 : w.grownBy (((w.alloc (.cells #[.slice sa n cx] 36)).alloc (.cells #[.slice sb m cy] 36)).alloc (.cells #[.slice none 0 0] 36)) none := grown_alloc (grown_alloc (World.grownBy_alloc _ _ _) _) _
  have hb3 := heap_new ((w.alloc (.cells #[.slice sa n cx] 36)).alloc (.cells #[.slice sb m cy] 36)) (.cells #[.slice none 0 0] 36) (w.heap.size + 1 + 1) (by simp)
  have hb2 := heap_kept (World.grownBy_alloc _ (.cells #[.slice none 0 0] 36) none) (heap_new (w.alloc (.cells #[.slice sa n cx] 36)) (.cells #[.slice sb m cy] 36) (w.heap.size + 1) (by simp))
  have hb1 := heap_kept (grown_alloc (World.grownBy_alloc _ (.cells #[.slice sb m cy] 36) none) (.cells #[.slice none 0 0] 36)) (heap_new w (.cells #[.slice sa n cx] 36) w.heap.size rfl)
  have B1 : Boxed _ w.heap.size a := ⟨_, _, _, hb1, na.kept hgw0⟩
  have B2 : Boxed _ (w.heap.size + 1) b := ⟨_, _, _, hb2, nb.kept hgw0⟩
  have HBA := Lib.hid ba
  have HBB := Lib.hid bb
  have HE := Lib.hid hE
  clear ha' hb' na nb hb1 hb2 ba bb hE
  go_enter Tryd.func58, Tryd.ntmps58
  go_wp2_with fail
  generalize (((w.alloc (.cells #[.slice sa n cx] 36)).alloc (.cells #[.slice sb m cy] 36)).alloc (.cells #[.slice none 0 0] 36)) = w0 at *
  go_loopg [5, 6] b (fun gh u5 u6 wr => ∃ (x y : Nat), Hid (y ≤ gh) ∧ Boxed wr w.heap.size x ∧ Boxed wr (w.heap.size + 1) y ∧ Hid (Nat.gcd x y = Nat.gcd a b) ∧ Hid (x < D ^ E ∧ y < D ^ E) ∧ wr.heap[w.heap.size + 1 + 1]? = some (.cells #[.slice none 0 0] 36 (0, 0)) ∧ w.grownBy wr none)
  case atStart => exact ⟨a, b, Nat.le_refl _, B1, B2, rfl, ⟨HBA.out, HBB.out⟩, hb3, hgw0⟩
  case round =>
    clear B1 B2 hb3 hgw0
    obtain ⟨x, y, hgh, hX, hY, hgc, hbd, hr, hG⟩ := hrel
    obtain ⟨sX, kX, cX, hbX, nX⟩ := hX
    obtain ⟨sY, kY, cY, hbY, nY⟩ := hY
    obtain ⟨cX1, fX1⟩ := box_cell hbX
    obtain ⟨cY1, fY1⟩ := box_cell hbY
    obtain ⟨cr, fr⟩ := box_cell hr
    obtain ⟨sY', kY', cY', rs, eY, hyl, hyc, hyr, tys, dys, hyv⟩ := nY
    cases eY
    rcases Nat.eq_zero_or_pos kY with h0 | h0
    · subst h0
      have hy0 : y = 0 := by rw [List.length_eq_zero_iff.1 hyl] at hyv; simpa [val] using hyv.symm
      have hF : Hid (RetRef w (Nat.gcd a b) (.returned (.agg #[.slice sX kX cX])) (wr.setCell ⟨w.heap.size + 1 + 1, 0, none⟩ (.slice sX kX cX))) := by
        rw [← hgc.out, hy0, Nat.gcd_zero_right]
        exact rret hG hr (by decide) (by omega) nX _
      clear nX hyl hyv hgh hgc hbd
      go_wp2_with fail
      exact bodyPost_ret (v := .agg #[.slice sX kX cX]) (by simp [results, Tryd.results58, go_sem, cr]) rfl hF.out
    · have f0 : decide ((0 : Int) < (kY : Int)) = true := decide_eq_true (by omega)
      have hy0 : 0 < y := by
        rw [← hyv]
        refine val_pos D D_pos rs ?_ tys
        intro e
        rw [e] at hyl; simp at hyl; omega
      have nY : RefV wr (.agg #[.slice sY kY cY]) y := ⟨sY, kY, cY, rs, rfl, hyl, hyc, hyr, tys, dys, hyv⟩
      have hxE : x < D ^ 400000 := by rw [← HE.out]; exact hbd.out.1
      have hyE : y < D ^ 400000 := by rw [← HE.out]; exact hbd.out.2
      have HX := Lib.hid hxE
      have HY := Lib.hid hyE
      have H0 := Lib.hid hy0
      clear hxE hyE hy0 hyl hyv hyr tys dys hyc
      go_wp2_with fail
      refine (rDiv_any wr _ _ x y nX nY HX.out HY.out H0.out).mono ?_
      rintro e w5 ⟨v, u, rfl, ⟨s5, k5, c5, z5, rfl, n5⟩, ⟨s6, k6, c6, z6, rfl, n6⟩, g5⟩
      have hG6 : wr.grownBy ((w5.alloc (.cells #[.slice s5 k5 c5] 36)).alloc (.cells #[.slice s6 k6 c6] 36)) none := grown_alloc (grown_alloc g5 _) _
      have hbX6 := heap_kept hG6 hbX
      have hbY6 := heap_kept hG6 hbY
      have hr6 := heap_kept hG6 hr
      have nY6 := nY.kept hG6
      have n66 : RefV ((w5.alloc (.cells #[.slice s5 k5 c5] 36)).alloc (.cells #[.slice s6 k6 c6] 36)) (.agg #[.slice s6 k6 c6]) (x % y) := RefV.kept ⟨s6, k6, c6, z6, rfl, n6⟩ (grown_alloc (World.grownBy_alloc _ _ _) _)
      have hb66 := heap_new (w5.alloc (.cells #[.slice s5 k5 c5] 36)) (.cells #[.slice s6 k6 c6] 36) (w5.heap.size + 1) (by simp)
      have hlo5 : w.heap.size + 1 + 1 < w5.heap.size := by have h1 := (Array.getElem?_eq_some_iff.1 hr).1; have := g5.size; omega
      obtain ⟨cX6, fX6⟩ := box_cell hbX6
      obtain ⟨cY6, fY6⟩ := box_cell hbY6
      obtain ⟨c66, f66⟩ := box_cell hb66
      have hbX7 := heap_set hbX6 (.slice sY kY cY)
      have hbY7 := heap_unset (g := w.heap.size) hbY6 (by omega) (.slice sY kY cY)
      have hb67 := heap_unset (g := w.heap.size) hb66 (by omega) (.slice sY kY cY)
      have hr7 := heap_unset (g := w.heap.size) hr6 (by omega) (.slice sY kY cY)
      have nY7 := nY6.set_other hbX6 (by decide) 0 (.slice sY kY cY)
      have n67 := n66.set_other hbX6 (by decide) 0 (.slice sY kY cY)
      obtain ⟨c67, f67⟩ := box_cell hb67
      obtain ⟨cY7, fY7⟩ := box_cell hbY7
      have hbX8 := heap_unset (g := w.heap.size + 1) hbX7 (by omega) (.slice s6 k6 c6)
      have hbY8 := heap_set hbY7 (.slice s6 k6 c6)
      have hr8 := heap_unset (g := w.heap.size + 1) hr7 (by omega) (.slice s6 k6 c6)
      have nY8 := nY7.set_other hbY7 (by decide) 0 (.slice s6 k6 c6)
      have n68 := n67.set_other hbY7 (by decide) 0 (.slice s6 k6 c6)
      have hG8 := grown_new (grown_new (grown_trans hG hG6) (grown_set (grown_refl _ (some w.heap.size)) 0 (.slice sY kY cY)) (Nat.le_refl _)) (grown_set (grown_refl _ (some (w.heap.size + 1))) 0 (.slice s6 k6 c6)) (by omega)
      have hgn : Hid (Nat.gcd y (x % y) = Nat.gcd a b) := by
        show _ = _
        rw [← hgc.out, Nat.gcd_comm x y, Nat.gcd_rec y x, Nat.gcd_comm]
      have hlt : Hid (x % y < gk) := by
        show _ < _
        exact Nat.lt_of_lt_of_le (Nat.mod_lt _ H0.out) hgh.out
      have hbn : Hid (y < D ^ E ∧ x % y < D ^ E) := ⟨hbd.out.2, Nat.lt_of_le_of_lt (Nat.mod_le _ _) hbd.out.1⟩
      clear g5 n5 n6 hG6 nY6 n66 nY7 n67 hbX7 hr6 hr7 nX nY hgc hbd hgh hG
      go_wp2_with fail
      go_roundg (x % y)
      case measure => exact hlt.out
      case rel => exact ⟨y, x % y, Nat.le_refl _, ⟨sY, kY, cY, hbX8, nY8⟩, ⟨s6, k6, c6, hbY8, n68⟩, hgn, hbn, hr8, hG8⟩
end Go.Proofs.YtldkddogadmpbaaDoor
