/- Whether an int holds a number, as the document has it. -/
import Derived.Test.YtljfhiikoimdiaaZLaw
import Derived.Deep.RegionHeld3
namespace Go.Proofs.Ytljfhiikoimdiaa
open Go.RowKit Mat
set_option maxRecDepth 100000
set_option linter.unusedVariables false
set_option linter.unusedSimpArgs false

set_option maxHeartbeats 16000000 in
theorem rZSmall_any (w : World) (va : Value) (x : Int) (Ha : RIntV w va x) (la' : x.natAbs < D ^ 1000000) :
    Calls Try.prog 17 #[va] w (RetB w (decide (Fits x))) := by
  have Hla := Lib.hid la'
  have H1 : Hid ((-9223372036854775808 : Int).natAbs < D ^ 1000000) := Lib.hid (lt_D1 (by unfold B; omega))
  have H2 : Hid ((9223372036854775807 : Int).natAbs < D ^ 1000000) := Lib.hid (lt_D1 (by unfold B; omega))
  clear la'
  obtain ⟨k1, hk1⟩ : ∃ k, zcmp x (-9223372036854775808) = k := ⟨_, rfl⟩
  obtain ⟨k2, hk2⟩ : ∃ k, zcmp x 9223372036854775807 = k := ⟨_, rfl⟩
  have hc : (decide (0 ≤ k1) = false ∧ decide (Fits x) = false) ∨ (decide (0 ≤ k1) = true ∧ decide (k2 ≤ 0) = decide (Fits x)) := by
    rw [← hk1, ← hk2]
    by_cases h : x < -9223372036854775808
    · left
      refine ⟨decide_eq_false ?_, decide_eq_false (fun hf => by have := hf.1; omega)⟩
      unfold zcmp; rw [if_pos h]; omega
    · right
      refine ⟨decide_eq_true ?_, ?_⟩
      · unfold zcmp; rw [if_neg h]; split <;> omega
      · by_cases h2 : x ≤ 9223372036854775807
        · rw [decide_eq_true (show Fits x from ⟨by omega, h2⟩)]
          refine decide_eq_true ?_
          unfold zcmp; split
          · omega
          · rw [if_pos (by omega)]; omega
        · rw [decide_eq_false (fun hf : Fits x => h2 hf.2)]
          refine decide_eq_false ?_
          unfold zcmp; rw [if_neg (by omega), if_neg (by omega)]; omega
  obtain ⟨o, ho⟩ : ∃ o, decide (Fits x) = o := ⟨_, rfl⟩
  rw [ho] at hc ⊢
  have HK1 := Lib.hid hk1
  have HK2 := Lib.hid hk2
  clear hk1 hk2 ho
  rcases hc with ⟨f1, rfl⟩ | ⟨f1, f2⟩
  · skip
    obtain ⟨ga, sa, la, ca, rfl, ha, ma⟩ := Ha
    have hG : w.grownBy (w.alloc (.cells #[.int .i64 ga, .slice sa la ca] 34)) none := (World.grownBy_alloc _ _ _)
    have Ba := (heap_new w (.cells #[.int .i64 ga, .slice sa la ca] 34) (w.heap.size) rfl)
    have ra : RIntV (w.alloc (.cells #[.int .i64 ga, .slice sa la ca] 34)) (.agg #[.int .i64 ga, .slice sa la ca]) (x) := ⟨ga, sa, la, ca, rfl, ha, ma.kept hG⟩
    have oa : RIntV w (.agg #[.int .i64 ga, .slice sa la ca]) (x) := ⟨ga, sa, la, ca, rfl, ha, ma⟩
    clear ma
    go_enter Try.func17, Try.ntmps17
    obtain ⟨Ca0, Ca1, Fa0, Fa1⟩ := box_cells Ba
    go_wp2_with fail
    generalize (w.alloc (.cells #[.int .i64 ga, .slice sa la ca] 34)) = w0 at *
    refine wp_region_held_drew (S := fun w' => w'.cell? ⟨w.heap.size, 0, none⟩ = some (.int .i64 ga) ∧ w'.cell? ⟨w.heap.size, 1, none⟩ = some (.slice sa la ca)) (by kernel_rfl) (by exact ⟨Ca0, Ca1⟩) (fun hHeld => ?_)
    refine wpAnyH_take (i := 0) (v := ?_) rfl (by kernel_rfl) (by kernel_rfl) (by kernel_rfl) (fun _ _ _ h => h) (Or.inl ⟨by rfl, ?_⟩) (by assumption) ?_
    rotate_left
    · (intro w hSw; (try dsimp only at hSw); go_simp; (try with_reducible rfl))
    try simp only [Act.put, List.getElem_toArray, List.getElem_cons_zero, List.getElem_cons_succ, List.setIfInBounds_toArray, List.set_cons_zero, List.set_cons_succ]
    refine wpAnyH_ready (rs := [1]) (by kernel_rfl) (by simp) ?_
    refine AllReadyH.cons rfl (fun KQ hKQ => ?_) AllReadyH.nil
    go_simp
    (go_at_call 26; (with_reducible refine (rZOf_any w0.drew (-9223372036854775808) (by omega) (by omega)).mono ?_); rintro e nw1_1 ⟨vm, rfl, rm, gnw1_1⟩; have hGnw1_1 := grown_pre w0 gnw1_1 rfl rfl rfl rfl; have hSnw1_1 := (And.intro (hGnw1_1.cell Ca0 (by simp)) (hGnw1_1.cell Ca1 (by simp))); clear gnw1_1)
    (try go_wp2_with fail)
    refine hKQ.out _ _ (by exact hSnw1_1) (fun hHeld => ?_)
    clear hKQ KQ
    try simp only [Act.put, List.getElem_toArray, List.getElem_cons_zero, List.getElem_cons_succ, List.setIfInBounds_toArray, List.set_cons_zero, List.set_cons_succ]
    refine wpAnyH_ready (rs := [2]) (by kernel_rfl) (by simp) ?_
    refine AllReadyH.cons rfl (fun KQ hKQ => ?_) AllReadyH.nil
    go_simp
    (go_at_call 35; (with_reducible refine (rZCmp_any nw1_1 _ _ x (-9223372036854775808) (ra.kept hGnw1_1) rm Hla.out H1.out).mono ?_); rintro e nw1_2 ⟨rfl, gnw1_2⟩; rw [HK1.out]; have hGnw1_2 := grown_trans hGnw1_1 gnw1_2; replace rm := rm.kept gnw1_2; have hSnw1_2 := (And.intro (hGnw1_2.cell Ca0 (by simp)) (hGnw1_2.cell Ca1 (by simp))); clear gnw1_2)
    (try go_wp2_with fail)
    refine hKQ.out _ _ (by exact hSnw1_2) (fun hHeld => ?_)
    clear hKQ KQ
    try simp only [Act.put, List.getElem_toArray, List.getElem_cons_zero, List.getElem_cons_succ, List.setIfInBounds_toArray, List.set_cons_zero, List.set_cons_succ]
    refine wpAnyH_take (i := 3) (v := ?_) rfl (by kernel_rfl) (by kernel_rfl) (by kernel_rfl) (fun _ _ _ h => h) (Or.inl ⟨by rfl, ?_⟩) (by assumption) ?_
    rotate_left
    · (intro w hSw; (try dsimp only at hSw); go_simp; (try with_reducible rfl))
    try simp only [Act.put, List.getElem_toArray, List.getElem_cons_zero, List.getElem_cons_succ, List.setIfInBounds_toArray, List.set_cons_zero, List.set_cons_succ]
    refine wpAnyH_take (i := 4) (v := ?_) rfl (by kernel_rfl) (by kernel_rfl) (by kernel_rfl) (fun _ _ _ h => h) (Or.inl ⟨by rfl, ?_⟩) (by assumption) ?_
    rotate_left
    · (intro w hSw; (try dsimp only at hSw); go_simp; (try with_reducible rfl))
    try simp only [Act.put, List.getElem_toArray, List.getElem_cons_zero, List.getElem_cons_succ, List.setIfInBounds_toArray, List.set_cons_zero, List.set_cons_succ]
    refine wpAnyH_take (i := 5) (v := undef) rfl (by kernel_rfl) (by kernel_rfl) (by kernel_rfl) (fun _ _ _ h => h) (Or.inr ⟨by rfl, rfl⟩) (by assumption) ?_
    try simp only [Act.put, List.getElem_toArray, List.getElem_cons_zero, List.getElem_cons_succ, List.setIfInBounds_toArray, List.set_cons_zero, List.set_cons_succ]
    refine wpAnyH_ready (rs := [6]) (by kernel_rfl) (by simp) ?_
    refine AllReadyH.cons rfl (fun KQ hKQ => ?_) AllReadyH.nil
    go_simp
    refine hKQ.out _ _ (by assumption) (fun hHeld => ?_)
    clear hKQ KQ
    try simp only [Act.put, List.getElem_toArray, List.getElem_cons_zero, List.getElem_cons_succ, List.setIfInBounds_toArray, List.set_cons_zero, List.set_cons_succ]
    refine wpAnyH_ready (rs := [7]) (by kernel_rfl) (by simp) ?_
    refine AllReadyH.cons rfl (fun KQ hKQ => ?_) AllReadyH.nil
    go_simp
    refine hKQ.out _ _ (by assumption) (fun hHeld => ?_)
    clear hKQ KQ
    try simp only [Act.put, List.getElem_toArray, List.getElem_cons_zero, List.getElem_cons_succ, List.setIfInBounds_toArray, List.set_cons_zero, List.set_cons_succ]
    refine wpAnyH_take (i := 8) (v := undef) rfl (by kernel_rfl) (by kernel_rfl) (by kernel_rfl) (fun _ _ _ h => h) (Or.inr ⟨by rfl, rfl⟩) (by assumption) ?_
    try simp only [Act.put, List.getElem_toArray, List.getElem_cons_zero, List.getElem_cons_succ, List.setIfInBounds_toArray, List.set_cons_zero, List.set_cons_succ]
    refine wpAnyH_take (i := 9) (v := ?_) rfl (by kernel_rfl) (by kernel_rfl) (by kernel_rfl) (fun _ _ _ h => h) (Or.inl ⟨by rfl, ?_⟩) (by assumption) ?_
    rotate_left
    · (intro w hSw; (try dsimp only at hSw); go_simp; (try with_reducible rfl))
    try simp only [Act.put, List.getElem_toArray, List.getElem_cons_zero, List.getElem_cons_succ, List.setIfInBounds_toArray, List.set_cons_zero, List.set_cons_succ]
    refine wpAnyH_take (i := 10) (v := ?_) rfl (by kernel_rfl) (by kernel_rfl) (by kernel_rfl) (fun _ _ _ h => h) (Or.inl ⟨by rfl, ?_⟩) (by assumption) ?_
    rotate_left
    · (intro w hSw; (try dsimp only at hSw); go_simp; (try with_reducible rfl))
    try simp only [Act.put, List.getElem_toArray, List.getElem_cons_zero, List.getElem_cons_succ, List.setIfInBounds_toArray, List.set_cons_zero, List.set_cons_succ]
    refine wpAnyH_done (by kernel_rfl) ?_ _
    replace Ba := heap_kept hGnw1_2 Ba
    replace ra := ra.kept hGnw1_2
    replace hG := grown_trans hG hGnw1_2
    clear Ca0 Fa0 Ca1 Fa1
    obtain ⟨Ca0, Ca1, Fa0, Fa1⟩ := box_cells Ba
    go_wp2_with fail
    go_ret
    exact ⟨rfl, hG⟩
  · skip
    obtain ⟨ga, sa, la, ca, rfl, ha, ma⟩ := Ha
    have hG : w.grownBy (w.alloc (.cells #[.int .i64 ga, .slice sa la ca] 34)) none := (World.grownBy_alloc _ _ _)
    have Ba := (heap_new w (.cells #[.int .i64 ga, .slice sa la ca] 34) (w.heap.size) rfl)
    have ra : RIntV (w.alloc (.cells #[.int .i64 ga, .slice sa la ca] 34)) (.agg #[.int .i64 ga, .slice sa la ca]) (x) := ⟨ga, sa, la, ca, rfl, ha, ma.kept hG⟩
    have oa : RIntV w (.agg #[.int .i64 ga, .slice sa la ca]) (x) := ⟨ga, sa, la, ca, rfl, ha, ma⟩
    clear ma
    go_enter Try.func17, Try.ntmps17
    obtain ⟨Ca0, Ca1, Fa0, Fa1⟩ := box_cells Ba
    go_wp2_with fail
    generalize (w.alloc (.cells #[.int .i64 ga, .slice sa la ca] 34)) = w0 at *
    go_region_held3 (fun w' => w'.cell? ⟨w.heap.size, 0, none⟩ = some (.int .i64 ga) ∧ w'.cell? ⟨w.heap.size, 1, none⟩ = some (.slice sa la ca))
      (first | assumption | exact ⟨Ca0, Ca1⟩ | go_keep)
      (first
        | (go_at_call 26; (with_reducible refine (rZOf_any w0.drew (-9223372036854775808) (by omega) (by omega)).mono ?_); rintro e yw1_1 ⟨vm, rfl, rm, gyw1_1⟩; have hGyw1_1 := grown_pre w0 gyw1_1 rfl rfl rfl rfl; have hSyw1_1 := (And.intro (hGyw1_1.cell Ca0 (by simp)) (hGyw1_1.cell Ca1 (by simp))); clear gyw1_1)
        | (go_at_call 35; (with_reducible refine (rZCmp_any yw1_1 _ _ x (-9223372036854775808) (ra.kept hGyw1_1) rm Hla.out H1.out).mono ?_); rintro e yw1_2 ⟨rfl, gyw1_2⟩; rw [HK1.out]; have hGyw1_2 := grown_trans hGyw1_1 gyw1_2; replace rm := rm.kept gyw1_2; have hSyw1_2 := (And.intro (hGyw1_2.cell Ca0 (by simp)) (hGyw1_2.cell Ca1 (by simp))); clear gyw1_2)
        | (go_at_call 26; (with_reducible refine (rZOf_any yw1_2 9223372036854775807 (by omega) (by omega)).mono ?_); rintro e yw1_3 ⟨vn, rfl, rn, gyw1_3⟩; have hGyw1_3 := grown_trans hGyw1_2 gyw1_3; replace rm := rm.kept gyw1_3; have hSyw1_3 := (And.intro (hGyw1_3.cell Ca0 (by simp)) (hGyw1_3.cell Ca1 (by simp))); clear gyw1_3)
        | (go_at_call 35; (with_reducible refine (rZCmp_any yw1_3 _ _ x 9223372036854775807 (ra.kept hGyw1_3) rn Hla.out H2.out).mono ?_); rintro e yw1_4 ⟨rfl, gyw1_4⟩; rw [HK2.out]; have hGyw1_4 := grown_trans hGyw1_3 gyw1_4; replace rm := rm.kept gyw1_4; replace rn := rn.kept gyw1_4; have hSyw1_4 := (And.intro (hGyw1_4.cell Ca0 (by simp)) (hGyw1_4.cell Ca1 (by simp))); clear gyw1_4))
    replace Ba := heap_kept hGyw1_4 Ba
    replace ra := ra.kept hGyw1_4
    replace hG := grown_trans hG hGyw1_4
    clear Ca0 Fa0 Ca1 Fa1
    obtain ⟨Ca0, Ca1, Fa0, Fa1⟩ := box_cells Ba
    go_wp2_with fail
    go_ret
    exact ⟨by first | rfl | (rw [f2]; rfl) | simp [f2], hG⟩
end Go.Proofs.Ytljfhiikoimdiaa
