/- ZedSmall: an int is the number that it is. -/
import Derived.Test.YtljfhiikoimdiaaZLaw
import Derived.Deep.RegionHeld3
namespace Go.Proofs.Ytljfhiikoimdiaa
open Go.RowKit Mat
set_option maxRecDepth 100000
set_option linter.unusedVariables false
set_option linter.unusedSimpArgs false

set_option maxHeartbeats 16000000 in
theorem zedSmall_walk (w : World) (n m : Int) (hn : (Lit.int .i64 n).wf = true) (hm : (Lit.int .i64 m).wf = true) :
    Calls Try.prog 4 #[.int .i64 n, .int .i64 m] w (fun e w' => e = .returned (.bool true) ∧ w.grownBy w' none) := by
  have hG : w.grownBy w none := grown_refl _ _
  have h1 : -9223372036854775808 ≤ n ∧ n ≤ 9223372036854775807 := by simpa [Lit.wf, IntKind.min, IntKind.max, IntKind.signed, IntKind.bits] using hn
  have h2 : -9223372036854775808 ≤ m ∧ m ≤ 9223372036854775807 := by simpa [Lit.wf, IntKind.min, IntKind.max, IntKind.signed, IntKind.bits] using hm
  have HN := Lib.hid h1
  have HM := Lib.hid h2
  have lN : Hid (n.natAbs < B ^ 1) := by show n.natAbs < B ^ 1; unfold B; omega
  have lM : Hid (m.natAbs < B ^ 1) := by show m.natAbs < B ^ 1; unfold B; omega
  have HF : Hid ((if Fits n then n else 0) = n ∧ decide (Fits n) = true) := by
    have hf : Fits n := h1
    exact ⟨if_pos hf, decide_eq_true hf⟩
  clear h1 h2 hn hm
  obtain ⟨k, hk⟩ : ∃ k, zcmp n m = k := ⟨_, rfl⟩
  have hc : (decide (n < m) = true ∧ decide (m < n) = false ∧ k = -1) ∨ (decide (n < m) = false ∧ decide (m < n) = false ∧ k = 0) ∨ (decide (n < m) = false ∧ decide (m < n) = true ∧ k = 1) := by
    rw [← hk]; unfold zcmp
    rcases Int.lt_trichotomy n m with h | h | h
    · left; exact ⟨decide_eq_true h, decide_eq_false (by omega), if_pos h⟩
    · right; left; exact ⟨decide_eq_false (by omega), decide_eq_false (by omega), by rw [if_neg (by omega), if_pos h]⟩
    · right; right; exact ⟨decide_eq_false (by omega), decide_eq_true h, by rw [if_neg (by omega), if_neg (by omega)]⟩
  have HK := Lib.hid hk
  clear hk
  rcases hc with ⟨f1, f2, rfl⟩ | ⟨f1, f2, rfl⟩ | ⟨f1, f2, rfl⟩
  · skip
    go_enter Try.func4, Try.ntmps4
    go_wp2_with fail
    refine (ZOf_any w n HN.out.1 HN.out.2).mono ?_
    rintro e k0w1 ⟨_, rfl, ⟨sa, xa, ba, rfl, ha, va, ta⟩, gk0w1⟩
    have ia : IntV k0w1 (.agg #[.slice sa xa.length xa.length, .bool ba]) (n) := ⟨sa, xa, ba, rfl, ha, va, ta⟩
    replace hG := grown_trans hG gk0w1
    clear gk0w1
    clear ha va ta
    go_wp2_with fail
    refine (ZOf_any k0w1 m HM.out.1 HM.out.2).mono ?_
    rintro e k0w2 ⟨_, rfl, ⟨sb, xb, bb, rfl, hb, vb, tb⟩, gk0w2⟩
    have ib : IntV k0w2 (.agg #[.slice sb xb.length xb.length, .bool bb]) (m) := ⟨sb, xb, bb, rfl, hb, vb, tb⟩
    replace ia := ia.kept gk0w2
    replace hG := grown_trans hG gk0w2
    clear gk0w2
    clear hb vb tb
    have gbk0w2 := (grown_alloc (World.grownBy_alloc k0w2 (.cells #[.slice sa xa.length xa.length, .bool ba] 26) none) (.cells #[.slice sb xb.length xb.length, .bool bb] 26))
    have Ba := heap_kept (World.grownBy_alloc _ (.cells #[.slice sb xb.length xb.length, .bool bb] 26) none) (heap_new k0w2 (.cells #[.slice sa xa.length xa.length, .bool ba] 26) (k0w2.heap.size) rfl)
    have Bb := (heap_new (k0w2.alloc (.cells #[.slice sa xa.length xa.length, .bool ba] 26)) (.cells #[.slice sb xb.length xb.length, .bool bb] 26) (k0w2.heap.size + 1) (by simp))
    have hzk0w2 : Hid (w.heap.size ≤ k0w2.heap.size) := Lib.hid hG.size
    replace ia := ia.kept gbk0w2
    replace ib := ib.kept gbk0w2
    replace hG := grown_trans hG gbk0w2
    clear gbk0w2
    obtain ⟨Ca0, Ca1, Fa0, Fa1⟩ := box_cells Ba
    obtain ⟨Cb0, Cb1, Fb0, Fb1⟩ := box_cells Bb
    go_wp2_with fail
    generalize ((k0w2.alloc (.cells #[.slice sa xa.length xa.length, .bool ba] 26)).alloc (.cells #[.slice sb xb.length xb.length, .bool bb] 26)) = k0w3 at *
    generalize k0w2.heap.size = ak0w2 at *
    replace hzk0w2 := hzk0w2.out
    clear Ca0 Fa0 Ca1 Fa1 Cb0 Fb0 Cb1 Fb1
    refine (ZSmall_any k0w3 _ n 1 ia (by omega) lN.out).mono ?_
    rintro e k0w4 ⟨rfl, gk0w4⟩
    rw [HF.out.1, HF.out.2]
    replace Ba := heap_kept gk0w4 Ba
    replace Bb := heap_kept gk0w4 Bb
    replace ia := ia.kept gk0w4
    replace ib := ib.kept gk0w4
    replace hG := grown_trans hG gk0w4
    clear gk0w4
    obtain ⟨Ca0, Ca1, Fa0, Fa1⟩ := box_cells Ba
    obtain ⟨Cb0, Cb1, Fb0, Fb1⟩ := box_cells Bb
    go_wp2_with fail
    go_region_held3 (fun w' => w'.cell? ⟨ak0w2, 0, none⟩ = some (.slice sa xa.length xa.length) ∧ w'.cell? ⟨ak0w2, 1, none⟩ = some (.bool ba) ∧ w'.cell? ⟨ak0w2 + 1, 0, none⟩ = some (.slice sb xb.length xb.length) ∧ w'.cell? ⟨ak0w2 + 1, 1, none⟩ = some (.bool bb))
      (first | assumption | exact ⟨Ca0, Ca1, Cb0, Cb1⟩ | go_keep)
      (first
        | (go_at_call 14; (with_reducible refine (known_any k0w4.drew).mono ?_); rintro e k0w5_1 ⟨rfl, gk0w5_1⟩; have hGk0w5_1 := grown_pre k0w4 gk0w5_1 rfl rfl rfl rfl; have hSk0w5_1 := (And.intro (hGk0w5_1.cell Ca0 (by simp)) (And.intro (hGk0w5_1.cell Ca1 (by simp)) (And.intro (hGk0w5_1.cell Cb0 (by simp)) (hGk0w5_1.cell Cb1 (by simp))))); clear gk0w5_1)
        | (go_at_call 26; (with_reducible refine (rZOf_any k0w5_1 n HN.out.1 HN.out.2).mono ?_); rintro e k0w5_2 ⟨vr, rfl, rq, gk0w5_2⟩; have hGk0w5_2 := grown_trans hGk0w5_1 gk0w5_2; have hSk0w5_2 := (And.intro (hGk0w5_2.cell Ca0 (by simp)) (And.intro (hGk0w5_2.cell Ca1 (by simp)) (And.intro (hGk0w5_2.cell Cb0 (by simp)) (hGk0w5_2.cell Cb1 (by simp))))); clear gk0w5_2)
        | (go_at_call 18; (with_reducible refine (same_any k0w5_2 _ _ n 1 (ia.kept hGk0w5_2) rq (by omega) lN.out).mono ?_); rintro e k0w5_3 ⟨rfl, gk0w5_3⟩; have hGk0w5_3 := grown_trans hGk0w5_2 gk0w5_3; replace rq := rq.kept gk0w5_3; have hSk0w5_3 := (And.intro (hGk0w5_3.cell Ca0 (by simp)) (And.intro (hGk0w5_3.cell Ca1 (by simp)) (And.intro (hGk0w5_3.cell Cb0 (by simp)) (hGk0w5_3.cell Cb1 (by simp))))); clear gk0w5_3)
        | (go_at_call 25; (with_reducible refine (ZCmp_any k0w5_3 _ _ n m 1 (ia.kept hGk0w5_3) (ib.kept hGk0w5_3) (by omega) lN.out lM.out).mono ?_); rintro e k0w5_4 ⟨rfl, gk0w5_4⟩; rw [HK.out]; have hGk0w5_4 := grown_trans hGk0w5_3 gk0w5_4; replace rq := rq.kept gk0w5_4; have hSk0w5_4 := (And.intro (hGk0w5_4.cell Ca0 (by simp)) (And.intro (hGk0w5_4.cell Ca1 (by simp)) (And.intro (hGk0w5_4.cell Cb0 (by simp)) (hGk0w5_4.cell Cb1 (by simp))))); clear gk0w5_4))
    replace Ba := heap_kept hGk0w5_4 Ba
    replace Bb := heap_kept hGk0w5_4 Bb
    replace ia := ia.kept hGk0w5_4
    replace ib := ib.kept hGk0w5_4
    replace hG := grown_trans hG hGk0w5_4
    clear Ca0 Fa0 Ca1 Fa1 Cb0 Fb0 Cb1 Fb1
    obtain ⟨Ca0, Ca1, Fa0, Fa1⟩ := box_cells Ba
    obtain ⟨Cb0, Cb1, Fb0, Fb1⟩ := box_cells Bb
    go_wp2_with fail
    go_ret
    exact ⟨by first | rfl | simp, hG⟩
  · skip
    go_enter Try.func4, Try.ntmps4
    go_wp2_with fail
    refine (ZOf_any w n HN.out.1 HN.out.2).mono ?_
    rintro e k1w1 ⟨_, rfl, ⟨sa, xa, ba, rfl, ha, va, ta⟩, gk1w1⟩
    have ia : IntV k1w1 (.agg #[.slice sa xa.length xa.length, .bool ba]) (n) := ⟨sa, xa, ba, rfl, ha, va, ta⟩
    replace hG := grown_trans hG gk1w1
    clear gk1w1
    clear ha va ta
    go_wp2_with fail
    refine (ZOf_any k1w1 m HM.out.1 HM.out.2).mono ?_
    rintro e k1w2 ⟨_, rfl, ⟨sb, xb, bb, rfl, hb, vb, tb⟩, gk1w2⟩
    have ib : IntV k1w2 (.agg #[.slice sb xb.length xb.length, .bool bb]) (m) := ⟨sb, xb, bb, rfl, hb, vb, tb⟩
    replace ia := ia.kept gk1w2
    replace hG := grown_trans hG gk1w2
    clear gk1w2
    clear hb vb tb
    have gbk1w2 := (grown_alloc (World.grownBy_alloc k1w2 (.cells #[.slice sa xa.length xa.length, .bool ba] 26) none) (.cells #[.slice sb xb.length xb.length, .bool bb] 26))
    have Ba := heap_kept (World.grownBy_alloc _ (.cells #[.slice sb xb.length xb.length, .bool bb] 26) none) (heap_new k1w2 (.cells #[.slice sa xa.length xa.length, .bool ba] 26) (k1w2.heap.size) rfl)
    have Bb := (heap_new (k1w2.alloc (.cells #[.slice sa xa.length xa.length, .bool ba] 26)) (.cells #[.slice sb xb.length xb.length, .bool bb] 26) (k1w2.heap.size + 1) (by simp))
    have hzk1w2 : Hid (w.heap.size ≤ k1w2.heap.size) := Lib.hid hG.size
    replace ia := ia.kept gbk1w2
    replace ib := ib.kept gbk1w2
    replace hG := grown_trans hG gbk1w2
    clear gbk1w2
    obtain ⟨Ca0, Ca1, Fa0, Fa1⟩ := box_cells Ba
    obtain ⟨Cb0, Cb1, Fb0, Fb1⟩ := box_cells Bb
    go_wp2_with fail
    generalize ((k1w2.alloc (.cells #[.slice sa xa.length xa.length, .bool ba] 26)).alloc (.cells #[.slice sb xb.length xb.length, .bool bb] 26)) = k1w3 at *
    generalize k1w2.heap.size = ak1w2 at *
    replace hzk1w2 := hzk1w2.out
    clear Ca0 Fa0 Ca1 Fa1 Cb0 Fb0 Cb1 Fb1
    refine (ZSmall_any k1w3 _ n 1 ia (by omega) lN.out).mono ?_
    rintro e k1w4 ⟨rfl, gk1w4⟩
    rw [HF.out.1, HF.out.2]
    replace Ba := heap_kept gk1w4 Ba
    replace Bb := heap_kept gk1w4 Bb
    replace ia := ia.kept gk1w4
    replace ib := ib.kept gk1w4
    replace hG := grown_trans hG gk1w4
    clear gk1w4
    obtain ⟨Ca0, Ca1, Fa0, Fa1⟩ := box_cells Ba
    obtain ⟨Cb0, Cb1, Fb0, Fb1⟩ := box_cells Bb
    go_wp2_with fail
    go_region_held3 (fun w' => w'.cell? ⟨ak1w2, 0, none⟩ = some (.slice sa xa.length xa.length) ∧ w'.cell? ⟨ak1w2, 1, none⟩ = some (.bool ba) ∧ w'.cell? ⟨ak1w2 + 1, 0, none⟩ = some (.slice sb xb.length xb.length) ∧ w'.cell? ⟨ak1w2 + 1, 1, none⟩ = some (.bool bb))
      (first | assumption | exact ⟨Ca0, Ca1, Cb0, Cb1⟩ | go_keep)
      (first
        | (go_at_call 14; (with_reducible refine (known_any k1w4.drew).mono ?_); rintro e k1w5_1 ⟨rfl, gk1w5_1⟩; have hGk1w5_1 := grown_pre k1w4 gk1w5_1 rfl rfl rfl rfl; have hSk1w5_1 := (And.intro (hGk1w5_1.cell Ca0 (by simp)) (And.intro (hGk1w5_1.cell Ca1 (by simp)) (And.intro (hGk1w5_1.cell Cb0 (by simp)) (hGk1w5_1.cell Cb1 (by simp))))); clear gk1w5_1)
        | (go_at_call 26; (with_reducible refine (rZOf_any k1w5_1 n HN.out.1 HN.out.2).mono ?_); rintro e k1w5_2 ⟨vr, rfl, rq, gk1w5_2⟩; have hGk1w5_2 := grown_trans hGk1w5_1 gk1w5_2; have hSk1w5_2 := (And.intro (hGk1w5_2.cell Ca0 (by simp)) (And.intro (hGk1w5_2.cell Ca1 (by simp)) (And.intro (hGk1w5_2.cell Cb0 (by simp)) (hGk1w5_2.cell Cb1 (by simp))))); clear gk1w5_2)
        | (go_at_call 18; (with_reducible refine (same_any k1w5_2 _ _ n 1 (ia.kept hGk1w5_2) rq (by omega) lN.out).mono ?_); rintro e k1w5_3 ⟨rfl, gk1w5_3⟩; have hGk1w5_3 := grown_trans hGk1w5_2 gk1w5_3; replace rq := rq.kept gk1w5_3; have hSk1w5_3 := (And.intro (hGk1w5_3.cell Ca0 (by simp)) (And.intro (hGk1w5_3.cell Ca1 (by simp)) (And.intro (hGk1w5_3.cell Cb0 (by simp)) (hGk1w5_3.cell Cb1 (by simp))))); clear gk1w5_3)
        | (go_at_call 25; (with_reducible refine (ZCmp_any k1w5_3 _ _ n m 1 (ia.kept hGk1w5_3) (ib.kept hGk1w5_3) (by omega) lN.out lM.out).mono ?_); rintro e k1w5_4 ⟨rfl, gk1w5_4⟩; rw [HK.out]; have hGk1w5_4 := grown_trans hGk1w5_3 gk1w5_4; replace rq := rq.kept gk1w5_4; have hSk1w5_4 := (And.intro (hGk1w5_4.cell Ca0 (by simp)) (And.intro (hGk1w5_4.cell Ca1 (by simp)) (And.intro (hGk1w5_4.cell Cb0 (by simp)) (hGk1w5_4.cell Cb1 (by simp))))); clear gk1w5_4))
    replace Ba := heap_kept hGk1w5_4 Ba
    replace Bb := heap_kept hGk1w5_4 Bb
    replace ia := ia.kept hGk1w5_4
    replace ib := ib.kept hGk1w5_4
    replace hG := grown_trans hG hGk1w5_4
    clear Ca0 Fa0 Ca1 Fa1 Cb0 Fb0 Cb1 Fb1
    obtain ⟨Ca0, Ca1, Fa0, Fa1⟩ := box_cells Ba
    obtain ⟨Cb0, Cb1, Fb0, Fb1⟩ := box_cells Bb
    go_wp2_with fail
    go_ret
    exact ⟨by first | rfl | simp, hG⟩
  · skip
    go_enter Try.func4, Try.ntmps4
    go_wp2_with fail
    refine (ZOf_any w n HN.out.1 HN.out.2).mono ?_
    rintro e k2w1 ⟨_, rfl, ⟨sa, xa, ba, rfl, ha, va, ta⟩, gk2w1⟩
    have ia : IntV k2w1 (.agg #[.slice sa xa.length xa.length, .bool ba]) (n) := ⟨sa, xa, ba, rfl, ha, va, ta⟩
    replace hG := grown_trans hG gk2w1
    clear gk2w1
    clear ha va ta
    go_wp2_with fail
    refine (ZOf_any k2w1 m HM.out.1 HM.out.2).mono ?_
    rintro e k2w2 ⟨_, rfl, ⟨sb, xb, bb, rfl, hb, vb, tb⟩, gk2w2⟩
    have ib : IntV k2w2 (.agg #[.slice sb xb.length xb.length, .bool bb]) (m) := ⟨sb, xb, bb, rfl, hb, vb, tb⟩
    replace ia := ia.kept gk2w2
    replace hG := grown_trans hG gk2w2
    clear gk2w2
    clear hb vb tb
    have gbk2w2 := (grown_alloc (World.grownBy_alloc k2w2 (.cells #[.slice sa xa.length xa.length, .bool ba] 26) none) (.cells #[.slice sb xb.length xb.length, .bool bb] 26))
    have Ba := heap_kept (World.grownBy_alloc _ (.cells #[.slice sb xb.length xb.length, .bool bb] 26) none) (heap_new k2w2 (.cells #[.slice sa xa.length xa.length, .bool ba] 26) (k2w2.heap.size) rfl)
    have Bb := (heap_new (k2w2.alloc (.cells #[.slice sa xa.length xa.length, .bool ba] 26)) (.cells #[.slice sb xb.length xb.length, .bool bb] 26) (k2w2.heap.size + 1) (by simp))
    have hzk2w2 : Hid (w.heap.size ≤ k2w2.heap.size) := Lib.hid hG.size
    replace ia := ia.kept gbk2w2
    replace ib := ib.kept gbk2w2
    replace hG := grown_trans hG gbk2w2
    clear gbk2w2
    obtain ⟨Ca0, Ca1, Fa0, Fa1⟩ := box_cells Ba
    obtain ⟨Cb0, Cb1, Fb0, Fb1⟩ := box_cells Bb
    go_wp2_with fail
    generalize ((k2w2.alloc (.cells #[.slice sa xa.length xa.length, .bool ba] 26)).alloc (.cells #[.slice sb xb.length xb.length, .bool bb] 26)) = k2w3 at *
    generalize k2w2.heap.size = ak2w2 at *
    replace hzk2w2 := hzk2w2.out
    clear Ca0 Fa0 Ca1 Fa1 Cb0 Fb0 Cb1 Fb1
    refine (ZSmall_any k2w3 _ n 1 ia (by omega) lN.out).mono ?_
    rintro e k2w4 ⟨rfl, gk2w4⟩
    rw [HF.out.1, HF.out.2]
    replace Ba := heap_kept gk2w4 Ba
    replace Bb := heap_kept gk2w4 Bb
    replace ia := ia.kept gk2w4
    replace ib := ib.kept gk2w4
    replace hG := grown_trans hG gk2w4
    clear gk2w4
    obtain ⟨Ca0, Ca1, Fa0, Fa1⟩ := box_cells Ba
    obtain ⟨Cb0, Cb1, Fb0, Fb1⟩ := box_cells Bb
    go_wp2_with fail
    go_region_held3 (fun w' => w'.cell? ⟨ak2w2, 0, none⟩ = some (.slice sa xa.length xa.length) ∧ w'.cell? ⟨ak2w2, 1, none⟩ = some (.bool ba) ∧ w'.cell? ⟨ak2w2 + 1, 0, none⟩ = some (.slice sb xb.length xb.length) ∧ w'.cell? ⟨ak2w2 + 1, 1, none⟩ = some (.bool bb))
      (first | assumption | exact ⟨Ca0, Ca1, Cb0, Cb1⟩ | go_keep)
      (first
        | (go_at_call 14; (with_reducible refine (known_any k2w4.drew).mono ?_); rintro e k2w5_1 ⟨rfl, gk2w5_1⟩; have hGk2w5_1 := grown_pre k2w4 gk2w5_1 rfl rfl rfl rfl; have hSk2w5_1 := (And.intro (hGk2w5_1.cell Ca0 (by simp)) (And.intro (hGk2w5_1.cell Ca1 (by simp)) (And.intro (hGk2w5_1.cell Cb0 (by simp)) (hGk2w5_1.cell Cb1 (by simp))))); clear gk2w5_1)
        | (go_at_call 26; (with_reducible refine (rZOf_any k2w5_1 n HN.out.1 HN.out.2).mono ?_); rintro e k2w5_2 ⟨vr, rfl, rq, gk2w5_2⟩; have hGk2w5_2 := grown_trans hGk2w5_1 gk2w5_2; have hSk2w5_2 := (And.intro (hGk2w5_2.cell Ca0 (by simp)) (And.intro (hGk2w5_2.cell Ca1 (by simp)) (And.intro (hGk2w5_2.cell Cb0 (by simp)) (hGk2w5_2.cell Cb1 (by simp))))); clear gk2w5_2)
        | (go_at_call 18; (with_reducible refine (same_any k2w5_2 _ _ n 1 (ia.kept hGk2w5_2) rq (by omega) lN.out).mono ?_); rintro e k2w5_3 ⟨rfl, gk2w5_3⟩; have hGk2w5_3 := grown_trans hGk2w5_2 gk2w5_3; replace rq := rq.kept gk2w5_3; have hSk2w5_3 := (And.intro (hGk2w5_3.cell Ca0 (by simp)) (And.intro (hGk2w5_3.cell Ca1 (by simp)) (And.intro (hGk2w5_3.cell Cb0 (by simp)) (hGk2w5_3.cell Cb1 (by simp))))); clear gk2w5_3)
        | (go_at_call 25; (with_reducible refine (ZCmp_any k2w5_3 _ _ n m 1 (ia.kept hGk2w5_3) (ib.kept hGk2w5_3) (by omega) lN.out lM.out).mono ?_); rintro e k2w5_4 ⟨rfl, gk2w5_4⟩; rw [HK.out]; have hGk2w5_4 := grown_trans hGk2w5_3 gk2w5_4; replace rq := rq.kept gk2w5_4; have hSk2w5_4 := (And.intro (hGk2w5_4.cell Ca0 (by simp)) (And.intro (hGk2w5_4.cell Ca1 (by simp)) (And.intro (hGk2w5_4.cell Cb0 (by simp)) (hGk2w5_4.cell Cb1 (by simp))))); clear gk2w5_4))
    replace Ba := heap_kept hGk2w5_4 Ba
    replace Bb := heap_kept hGk2w5_4 Bb
    replace ia := ia.kept hGk2w5_4
    replace ib := ib.kept hGk2w5_4
    replace hG := grown_trans hG hGk2w5_4
    clear Ca0 Fa0 Ca1 Fa1 Cb0 Fb0 Cb1 Fb1
    obtain ⟨Ca0, Ca1, Fa0, Fa1⟩ := box_cells Ba
    obtain ⟨Cb0, Cb1, Fb0, Fb1⟩ := box_cells Bb
    go_wp2_with fail
    go_ret
    exact ⟨by first | rfl | simp, hG⟩
end Go.Proofs.Ytljfhiikoimdiaa
