/- ZedStays: no call changes a number that was answered. -/
import Derived.Test.YtljfhiikoimdiaaZBez
import Derived.Test.YtljfhiikoimdiaaZSum
import Derived.Deep.RegionHeld3
namespace Go.Proofs.Ytljfhiikoimdiaa
open Go.RowKit Mat
set_option maxRecDepth 100000
set_option linter.unusedVariables false
set_option linter.unusedSimpArgs false

theorem floor_val (x y : Int) (K : Nat) (hK : K ≤ 900000) (la : x.natAbs < B ^ K) (lb : y.natAbs < B ^ K) : ∃ (Z R c : Int), Z.natAbs < B ^ K ∧ R.natAbs < B ^ K ∧ ∀ (W : World) (va vb : Value), IntV W va x → IntV W vb y →
    Calls Try.prog 38 #[va, vb] W (RetInt2E W Z R c) := by
  by_cases h : y = 0
  · subst h; exact ⟨0, 0, 5, Nat.pow_pos B_pos, Nat.pow_pos B_pos, fun W va vb h1 h2 => ZFloor_zero W va vb x h1 h2⟩
  · refine ⟨x / y, x % y, 0, Nat.lt_of_le_of_lt (Int.natAbs_ediv_le_natAbs x y) la, ?_, fun W va vb h1 h2 => ZFloor_some W va vb x y K h1 h2 hK la lb h⟩
    have h1 := Int.emod_nonneg x h
    have h2 := Int.emod_lt x h
    omega
theorem isl_four {W : World} {b : Nat} {a0 a1 b0 b1 c0 c1 d0 d1 : Value} {z1 z2 z3 z4 : Int} (hb : W.heap[b]? = some (.cells #[a0, a1, b0, b1, c0, c1, d0, d1] 26 (0, 0))) (h1 : IntV W (.agg #[a0, a1]) z1) (h2 : IntV W (.agg #[b0, b1]) z2) (h3 : IntV W (.agg #[c0, c1]) z3) (h4 : IntV W (.agg #[d0, d1]) z4) : ISl W (some ⟨b, 0, none⟩) 4 [z1, z2, z3, z4] := by
  refine ⟨rfl, Or.inr ⟨b, _, rfl, hb, fun i h => ?_⟩⟩
  rcases i with _ | _ | _ | _ | i
  · exact ⟨_, _, rfl, rfl, h1⟩
  · exact ⟨_, _, rfl, rfl, h2⟩
  · exact ⟨_, _, rfl, rfl, h3⟩
  · exact ⟨_, _, rfl, rfl, h4⟩
  · simp at h; omega
set_option maxHeartbeats 16000000 in
theorem zedStays_walk (w : World) (s t : ByteArray) :
    Calls Try.prog 11 #[.string s, .string t] w (fun e w' => e = .returned (.bool true) ∧ w.grownBy w' none) := by
  have hG : w.grownBy w none := grown_refl _ _
  obtain ⟨A1, o1, lA1, p1⟩ := one_val s
  have P1 := Lib.hid p1
  clear p1
  obtain ⟨B1, o2, lB1, p2⟩ := one_val t
  have P2 := Lib.hid p2
  clear p2
  go_enter Try.func11, Try.ntmps11
  go_wp2_with fail
  refine (P1.out w).mono ?_
  rintro e w1 ⟨_, _, rfl, ⟨sa1, xa1, ba1, rfl, ha1, va1, ta1⟩, ⟨gx1, sx1, lx1, cx1, rfl, hx1, mx1⟩, gw1⟩
  have ia1 : IntV w1 (.agg #[.slice sa1 xa1.length xa1.length, .bool ba1]) (A1) := ⟨sa1, xa1, ba1, rfl, ha1, va1, ta1⟩
  have rx1 : RIntV w1 (.agg #[.int .i64 gx1, .slice sx1 lx1 cx1]) (A1) := ⟨gx1, sx1, lx1, cx1, rfl, hx1, mx1⟩
  replace hG := grown_trans hG gw1
  clear gw1
  clear ha1 va1 ta1
  clear mx1
  have gbw1 := (grown_alloc (World.grownBy_alloc w1 (.cells #[.slice sa1 xa1.length xa1.length, .bool ba1] 26) none) (.cells #[.int .i64 gx1, .slice sx1 lx1 cx1] 34))
  have Ba1 := heap_kept (World.grownBy_alloc _ (.cells #[.int .i64 gx1, .slice sx1 lx1 cx1] 34) none) (heap_new w1 (.cells #[.slice sa1 xa1.length xa1.length, .bool ba1] 26) (w1.heap.size) rfl)
  have Bx1 := (heap_new (w1.alloc (.cells #[.slice sa1 xa1.length xa1.length, .bool ba1] 26)) (.cells #[.int .i64 gx1, .slice sx1 lx1 cx1] 34) (w1.heap.size + 1) (by simp))
  have hzw1 : Hid (w.heap.size ≤ w1.heap.size) := Lib.hid hG.size
  replace ia1 := ia1.kept gbw1
  replace rx1 := rx1.kept gbw1
  replace hG := grown_trans hG gbw1
  clear gbw1
  obtain ⟨Ca10, Ca11, Fa10, Fa11⟩ := box_cells Ba1
  obtain ⟨Cx10, Cx11, Fx10, Fx11⟩ := box_cells Bx1
  go_wp2_with fail
  generalize ((w1.alloc (.cells #[.slice sa1 xa1.length xa1.length, .bool ba1] 26)).alloc (.cells #[.int .i64 gx1, .slice sx1 lx1 cx1] 34)) = w2 at *
  generalize w1.heap.size = aw1 at *
  replace hzw1 := hzw1.out
  clear Ca10 Fa10 Ca11 Fa11 Cx10 Fx10 Cx11 Fx11
  refine (P2.out w2).mono ?_
  rintro e w3 ⟨_, _, rfl, ⟨sa2, xa2, ba2, rfl, ha2, va2, ta2⟩, ⟨gx2, sx2, lx2, cx2, rfl, hx2, mx2⟩, gw3⟩
  have ia2 : IntV w3 (.agg #[.slice sa2 xa2.length xa2.length, .bool ba2]) (B1) := ⟨sa2, xa2, ba2, rfl, ha2, va2, ta2⟩
  have rx2 : RIntV w3 (.agg #[.int .i64 gx2, .slice sx2 lx2 cx2]) (B1) := ⟨gx2, sx2, lx2, cx2, rfl, hx2, mx2⟩
  replace Ba1 := heap_kept gw3 Ba1
  replace Bx1 := heap_kept gw3 Bx1
  replace ia1 := ia1.kept gw3
  replace rx1 := rx1.kept gw3
  replace hG := grown_trans hG gw3
  clear gw3
  clear ha2 va2 ta2
  clear mx2
  obtain ⟨Ca10, Ca11, Fa10, Fa11⟩ := box_cells Ba1
  obtain ⟨Cx10, Cx11, Fx10, Fx11⟩ := box_cells Bx1
  have gbw3 := (grown_alloc (World.grownBy_alloc w3 (.cells #[.slice sa2 xa2.length xa2.length, .bool ba2] 26) none) (.cells #[.int .i64 gx2, .slice sx2 lx2 cx2] 34))
  have Ba2 := heap_kept (World.grownBy_alloc _ (.cells #[.int .i64 gx2, .slice sx2 lx2 cx2] 34) none) (heap_new w3 (.cells #[.slice sa2 xa2.length xa2.length, .bool ba2] 26) (w3.heap.size) rfl)
  have Bx2 := (heap_new (w3.alloc (.cells #[.slice sa2 xa2.length xa2.length, .bool ba2] 26)) (.cells #[.int .i64 gx2, .slice sx2 lx2 cx2] 34) (w3.heap.size + 1) (by simp))
  have hzw3 : Hid (w.heap.size ≤ w3.heap.size) := Lib.hid hG.size
  have hla1w3 : Hid (aw1 < w3.heap.size) := Lib.hid (Array.getElem?_eq_some_iff.1 Ba1).1
  have hlx1w3 : Hid (aw1 + 1 < w3.heap.size) := Lib.hid (Array.getElem?_eq_some_iff.1 Bx1).1
  clear Ca10 Fa10 Ca11 Fa11 Cx10 Fx10 Cx11 Fx11
  replace Ba1 := heap_kept gbw3 Ba1
  replace Bx1 := heap_kept gbw3 Bx1
  replace ia1 := ia1.kept gbw3
  replace rx1 := rx1.kept gbw3
  replace ia2 := ia2.kept gbw3
  replace rx2 := rx2.kept gbw3
  replace hG := grown_trans hG gbw3
  clear gbw3
  obtain ⟨Ca10, Ca11, Fa10, Fa11⟩ := box_cells Ba1
  obtain ⟨Cx10, Cx11, Fx10, Fx11⟩ := box_cells Bx1
  obtain ⟨Ca20, Ca21, Fa20, Fa21⟩ := box_cells Ba2
  obtain ⟨Cx20, Cx21, Fx20, Fx21⟩ := box_cells Bx2
  go_wp2_with fail
  cases o1
  · skip
    generalize ((w3.alloc (.cells #[.slice sa2 xa2.length xa2.length, .bool ba2] 26)).alloc (.cells #[.int .i64 gx2, .slice sx2 lx2 cx2] 34)) = w4 at *
    generalize w3.heap.size = aw3 at *
    replace hzw3 := hzw3.out
    replace hla1w3 := hla1w3.out
    replace hlx1w3 := hlx1w3.out
    clear Ca10 Fa10 Ca11 Fa11 Cx10 Fx10 Cx11 Fx11 Ca20 Fa20 Ca21 Fa21 Cx20 Fx20 Cx21 Fx21
    refine (known_any w4).mono ?_
    rintro e o0w5 ⟨rfl, go0w5⟩
    replace Ba1 := heap_kept go0w5 Ba1
    replace Bx1 := heap_kept go0w5 Bx1
    replace Ba2 := heap_kept go0w5 Ba2
    replace Bx2 := heap_kept go0w5 Bx2
    replace ia1 := ia1.kept go0w5
    replace rx1 := rx1.kept go0w5
    replace ia2 := ia2.kept go0w5
    replace rx2 := rx2.kept go0w5
    replace hG := grown_trans hG go0w5
    clear go0w5
    obtain ⟨Ca10, Ca11, Fa10, Fa11⟩ := box_cells Ba1
    obtain ⟨Cx10, Cx11, Fx10, Fx11⟩ := box_cells Bx1
    obtain ⟨Ca20, Ca21, Fa20, Fa21⟩ := box_cells Ba2
    obtain ⟨Cx20, Cx21, Fx20, Fx21⟩ := box_cells Bx2
    go_wp2_with fail
    clear Ca10 Fa10 Ca11 Fa11 Cx10 Fx10 Cx11 Fx11 Ca20 Fa20 Ca21 Fa21 Cx20 Fx20 Cx21 Fx21
    refine (known_any o0w5).mono ?_
    rintro e o0w6 ⟨rfl, go0w6⟩
    replace Ba1 := heap_kept go0w6 Ba1
    replace Bx1 := heap_kept go0w6 Bx1
    replace Ba2 := heap_kept go0w6 Ba2
    replace Bx2 := heap_kept go0w6 Bx2
    replace ia1 := ia1.kept go0w6
    replace rx1 := rx1.kept go0w6
    replace ia2 := ia2.kept go0w6
    replace rx2 := rx2.kept go0w6
    replace hG := grown_trans hG go0w6
    clear go0w6
    obtain ⟨Ca10, Ca11, Fa10, Fa11⟩ := box_cells Ba1
    obtain ⟨Cx10, Cx11, Fx10, Fx11⟩ := box_cells Bx1
    obtain ⟨Ca20, Ca21, Fa20, Fa21⟩ := box_cells Ba2
    obtain ⟨Cx20, Cx21, Fx20, Fx21⟩ := box_cells Bx2
    go_wp2_with fail
    go_ret
    exact ⟨by first | rfl | simp, hG⟩
  cases o2
  · skip
    generalize ((w3.alloc (.cells #[.slice sa2 xa2.length xa2.length, .bool ba2] 26)).alloc (.cells #[.int .i64 gx2, .slice sx2 lx2 cx2] 34)) = w4 at *
    generalize w3.heap.size = aw3 at *
    replace hzw3 := hzw3.out
    replace hla1w3 := hla1w3.out
    replace hlx1w3 := hlx1w3.out
    clear Ca10 Fa10 Ca11 Fa11 Cx10 Fx10 Cx11 Fx11 Ca20 Fa20 Ca21 Fa21 Cx20 Fx20 Cx21 Fx21
    refine (known_any w4).mono ?_
    rintro e o1w5 ⟨rfl, go1w5⟩
    replace Ba1 := heap_kept go1w5 Ba1
    replace Bx1 := heap_kept go1w5 Bx1
    replace Ba2 := heap_kept go1w5 Ba2
    replace Bx2 := heap_kept go1w5 Bx2
    replace ia1 := ia1.kept go1w5
    replace rx1 := rx1.kept go1w5
    replace ia2 := ia2.kept go1w5
    replace rx2 := rx2.kept go1w5
    replace hG := grown_trans hG go1w5
    clear go1w5
    obtain ⟨Ca10, Ca11, Fa10, Fa11⟩ := box_cells Ba1
    obtain ⟨Cx10, Cx11, Fx10, Fx11⟩ := box_cells Bx1
    obtain ⟨Ca20, Ca21, Fa20, Fa21⟩ := box_cells Ba2
    obtain ⟨Cx20, Cx21, Fx20, Fx21⟩ := box_cells Bx2
    go_wp2_with fail
    clear Ca10 Fa10 Ca11 Fa11 Cx10 Fx10 Cx11 Fx11 Ca20 Fa20 Ca21 Fa21 Cx20 Fx20 Cx21 Fx21
    refine (known_any o1w5).mono ?_
    rintro e o1w6 ⟨rfl, go1w6⟩
    replace Ba1 := heap_kept go1w6 Ba1
    replace Bx1 := heap_kept go1w6 Bx1
    replace Ba2 := heap_kept go1w6 Ba2
    replace Bx2 := heap_kept go1w6 Bx2
    replace ia1 := ia1.kept go1w6
    replace rx1 := rx1.kept go1w6
    replace ia2 := ia2.kept go1w6
    replace rx2 := rx2.kept go1w6
    replace hG := grown_trans hG go1w6
    clear go1w6
    obtain ⟨Ca10, Ca11, Fa10, Fa11⟩ := box_cells Ba1
    obtain ⟨Cx10, Cx11, Fx10, Fx11⟩ := box_cells Bx1
    obtain ⟨Ca20, Ca21, Fa20, Fa21⟩ := box_cells Ba2
    obtain ⟨Cx20, Cx21, Fx20, Fx21⟩ := box_cells Bx2
    go_wp2_with fail
    go_ret
    exact ⟨by first | rfl | simp, hG⟩
  generalize ((w3.alloc (.cells #[.slice sa2 xa2.length xa2.length, .bool ba2] 26)).alloc (.cells #[.int .i64 gx2, .slice sx2 lx2 cx2] 34)) = w4 at *
  generalize w3.heap.size = aw3 at *
  replace hzw3 := hzw3.out
  replace hla1w3 := hla1w3.out
  replace hlx1w3 := hlx1w3.out
  clear Ca10 Fa10 Ca11 Fa11 Cx10 Fx10 Cx11 Fx11 Ca20 Fa20 Ca21 Fa21 Cx20 Fx20 Cx21 Fx21
  refine (known_any w4).mono ?_
  rintro e w5 ⟨rfl, gw5⟩
  replace Ba1 := heap_kept gw5 Ba1
  replace Bx1 := heap_kept gw5 Bx1
  replace Ba2 := heap_kept gw5 Ba2
  replace Bx2 := heap_kept gw5 Bx2
  replace ia1 := ia1.kept gw5
  replace rx1 := rx1.kept gw5
  replace ia2 := ia2.kept gw5
  replace rx2 := rx2.kept gw5
  replace hG := grown_trans hG gw5
  clear gw5
  obtain ⟨Ca10, Ca11, Fa10, Fa11⟩ := box_cells Ba1
  obtain ⟨Cx10, Cx11, Fx10, Fx11⟩ := box_cells Bx1
  obtain ⟨Ca20, Ca21, Fa20, Fa21⟩ := box_cells Ba2
  obtain ⟨Cx20, Cx21, Fx20, Fx21⟩ := box_cells Bx2
  go_wp2_with fail
  obtain ⟨Z, R9, cc, lz, lr, hf1⟩ := floor_val A1 B1 8 (by omega) lA1 lB1
  obtain ⟨Z2, R2, cc2, lz2, lr2, hf2⟩ := floor_val Z R9 8 (by omega) lz lr
  have HF1 := Lib.hid hf1
  have HF2 := Lib.hid hf2
  clear hf1 hf2 lz2 lr2
  clear Ca10 Fa10 Ca11 Fa11 Cx10 Fx10 Cx11 Fx11 Ca20 Fa20 Ca21 Fa21 Cx20 Fx20 Cx21 Fx21
  refine (HF1.out w5 _ _ ia1 ia2).mono ?_
  rintro e w6 ⟨_, _, rfl, ⟨sq, xq, bq, rfl, hq, vq, tq⟩, ⟨se, xe, be, rfl, he, ve, te⟩, gw6⟩
  have iq : IntV w6 (.agg #[.slice sq xq.length xq.length, .bool bq]) (Z) := ⟨sq, xq, bq, rfl, hq, vq, tq⟩
  have ie : IntV w6 (.agg #[.slice se xe.length xe.length, .bool be]) (R9) := ⟨se, xe, be, rfl, he, ve, te⟩
  replace Ba1 := heap_kept gw6 Ba1
  replace Bx1 := heap_kept gw6 Bx1
  replace Ba2 := heap_kept gw6 Ba2
  replace Bx2 := heap_kept gw6 Bx2
  replace ia1 := ia1.kept gw6
  replace rx1 := rx1.kept gw6
  replace ia2 := ia2.kept gw6
  replace rx2 := rx2.kept gw6
  replace hG := grown_trans hG gw6
  clear gw6
  clear hq vq tq
  clear he ve te
  obtain ⟨Ca10, Ca11, Fa10, Fa11⟩ := box_cells Ba1
  obtain ⟨Cx10, Cx11, Fx10, Fx11⟩ := box_cells Bx1
  obtain ⟨Ca20, Ca21, Fa20, Fa21⟩ := box_cells Ba2
  obtain ⟨Cx20, Cx21, Fx20, Fx21⟩ := box_cells Bx2
  have gbw6 := (grown_alloc (World.grownBy_alloc w6 (.cells #[.slice sq xq.length xq.length, .bool bq] 26) none) (.cells #[.slice se xe.length xe.length, .bool be] 26))
  have Bq := heap_kept (World.grownBy_alloc _ (.cells #[.slice se xe.length xe.length, .bool be] 26) none) (heap_new w6 (.cells #[.slice sq xq.length xq.length, .bool bq] 26) (w6.heap.size) rfl)
  have Be := (heap_new (w6.alloc (.cells #[.slice sq xq.length xq.length, .bool bq] 26)) (.cells #[.slice se xe.length xe.length, .bool be] 26) (w6.heap.size + 1) (by simp))
  have hzw6 : Hid (w.heap.size ≤ w6.heap.size) := Lib.hid hG.size
  have hla1w6 : Hid (aw1 < w6.heap.size) := Lib.hid (Array.getElem?_eq_some_iff.1 Ba1).1
  have hlx1w6 : Hid (aw1 + 1 < w6.heap.size) := Lib.hid (Array.getElem?_eq_some_iff.1 Bx1).1
  have hla2w6 : Hid (aw3 < w6.heap.size) := Lib.hid (Array.getElem?_eq_some_iff.1 Ba2).1
  have hlx2w6 : Hid (aw3 + 1 < w6.heap.size) := Lib.hid (Array.getElem?_eq_some_iff.1 Bx2).1
  clear Ca10 Fa10 Ca11 Fa11 Cx10 Fx10 Cx11 Fx11 Ca20 Fa20 Ca21 Fa21 Cx20 Fx20 Cx21 Fx21
  replace Ba1 := heap_kept gbw6 Ba1
  replace Bx1 := heap_kept gbw6 Bx1
  replace Ba2 := heap_kept gbw6 Ba2
  replace Bx2 := heap_kept gbw6 Bx2
  replace ia1 := ia1.kept gbw6
  replace rx1 := rx1.kept gbw6
  replace ia2 := ia2.kept gbw6
  replace rx2 := rx2.kept gbw6
  replace iq := iq.kept gbw6
  replace ie := ie.kept gbw6
  replace hG := grown_trans hG gbw6
  clear gbw6
  obtain ⟨Ca10, Ca11, Fa10, Fa11⟩ := box_cells Ba1
  obtain ⟨Cx10, Cx11, Fx10, Fx11⟩ := box_cells Bx1
  obtain ⟨Ca20, Ca21, Fa20, Fa21⟩ := box_cells Ba2
  obtain ⟨Cx20, Cx21, Fx20, Fx21⟩ := box_cells Bx2
  obtain ⟨Cq0, Cq1, Fq0, Fq1⟩ := box_cells Bq
  obtain ⟨Ce0, Ce1, Fe0, Fe1⟩ := box_cells Be
  go_wp2_with fail
  generalize ((w6.alloc (.cells #[.slice sq xq.length xq.length, .bool bq] 26)).alloc (.cells #[.slice se xe.length xe.length, .bool be] 26)) = w7 at *
  generalize w6.heap.size = aw6 at *
  replace hzw6 := hzw6.out
  replace hla1w6 := hla1w6.out
  replace hlx1w6 := hlx1w6.out
  replace hla2w6 := hla2w6.out
  replace hlx2w6 := hlx2w6.out
  clear Ca10 Fa10 Ca11 Fa11 Cx10 Fx10 Cx11 Fx11 Ca20 Fa20 Ca21 Fa21 Cx20 Fx20 Cx21 Fx21 Cq0 Fq0 Cq1 Fq1 Ce0 Fe0 Ce1 Fe1
  refine (NZText_any w7 _ Z 8 iq (by omega) lz).mono ?_
  rintro e w8 ⟨m1, rfl, hm1, gw8⟩
  replace Ba1 := heap_kept gw8 Ba1
  replace Bx1 := heap_kept gw8 Bx1
  replace Ba2 := heap_kept gw8 Ba2
  replace Bx2 := heap_kept gw8 Bx2
  replace Bq := heap_kept gw8 Bq
  replace Be := heap_kept gw8 Be
  replace ia1 := ia1.kept gw8
  replace rx1 := rx1.kept gw8
  replace ia2 := ia2.kept gw8
  replace rx2 := rx2.kept gw8
  replace iq := iq.kept gw8
  replace ie := ie.kept gw8
  replace hG := grown_trans hG gw8
  clear gw8
  obtain ⟨Ca10, Ca11, Fa10, Fa11⟩ := box_cells Ba1
  obtain ⟨Cx10, Cx11, Fx10, Fx11⟩ := box_cells Bx1
  obtain ⟨Ca20, Ca21, Fa20, Fa21⟩ := box_cells Ba2
  obtain ⟨Cx20, Cx21, Fx20, Fx21⟩ := box_cells Bx2
  obtain ⟨Cq0, Cq1, Fq0, Fq1⟩ := box_cells Bq
  obtain ⟨Ce0, Ce1, Fe0, Fe1⟩ := box_cells Be
  go_wp2_with fail
  clear Ca10 Fa10 Ca11 Fa11 Cx10 Fx10 Cx11 Fx11 Ca20 Fa20 Ca21 Fa21 Cx20 Fx20 Cx21 Fx21 Cq0 Fq0 Cq1 Fq1 Ce0 Fe0 Ce1 Fe1
  refine (NZText_any w8 _ R9 8 ie (by omega) lr).mono ?_
  rintro e w9 ⟨m2, rfl, hm2, gw9⟩
  replace Ba1 := heap_kept gw9 Ba1
  replace Bx1 := heap_kept gw9 Bx1
  replace Ba2 := heap_kept gw9 Ba2
  replace Bx2 := heap_kept gw9 Bx2
  replace Bq := heap_kept gw9 Bq
  replace Be := heap_kept gw9 Be
  replace ia1 := ia1.kept gw9
  replace rx1 := rx1.kept gw9
  replace ia2 := ia2.kept gw9
  replace rx2 := rx2.kept gw9
  replace iq := iq.kept gw9
  replace ie := ie.kept gw9
  replace hG := grown_trans hG gw9
  clear gw9
  obtain ⟨Ca10, Ca11, Fa10, Fa11⟩ := box_cells Ba1
  obtain ⟨Cx10, Cx11, Fx10, Fx11⟩ := box_cells Bx1
  obtain ⟨Ca20, Ca21, Fa20, Fa21⟩ := box_cells Ba2
  obtain ⟨Cx20, Cx21, Fx20, Fx21⟩ := box_cells Bx2
  obtain ⟨Cq0, Cq1, Fq0, Fq1⟩ := box_cells Bq
  obtain ⟨Ce0, Ce1, Fe0, Fe1⟩ := box_cells Be
  go_wp2_with fail
  clear Ca10 Fa10 Ca11 Fa11 Cx10 Fx10 Cx11 Fx11 Ca20 Fa20 Ca21 Fa21 Cx20 Fx20 Cx21 Fx21 Cq0 Fq0 Cq1 Fq1 Ce0 Fe0 Ce1 Fe1
  refine (HF2.out w9 _ _ iq ie).mono ?_
  rintro e w10 ⟨_, _, rfl, -, -, gw10⟩
  replace Ba1 := heap_kept gw10 Ba1
  replace Bx1 := heap_kept gw10 Bx1
  replace Ba2 := heap_kept gw10 Ba2
  replace Bx2 := heap_kept gw10 Bx2
  replace Bq := heap_kept gw10 Bq
  replace Be := heap_kept gw10 Be
  replace ia1 := ia1.kept gw10
  replace rx1 := rx1.kept gw10
  replace ia2 := ia2.kept gw10
  replace rx2 := rx2.kept gw10
  replace iq := iq.kept gw10
  replace ie := ie.kept gw10
  replace hG := grown_trans hG gw10
  clear gw10
  obtain ⟨Ca10, Ca11, Fa10, Fa11⟩ := box_cells Ba1
  obtain ⟨Cx10, Cx11, Fx10, Fx11⟩ := box_cells Bx1
  obtain ⟨Ca20, Ca21, Fa20, Fa21⟩ := box_cells Ba2
  obtain ⟨Cx20, Cx21, Fx20, Fx21⟩ := box_cells Bx2
  obtain ⟨Cq0, Cq1, Fq0, Fq1⟩ := box_cells Bq
  obtain ⟨Ce0, Ce1, Fe0, Fe1⟩ := box_cells Be
  go_wp2_with fail
  clear Ca10 Fa10 Ca11 Fa11 Cx10 Fx10 Cx11 Fx11 Ca20 Fa20 Ca21 Fa21 Cx20 Fx20 Cx21 Fx21 Cq0 Fq0 Cq1 Fq1 Ce0 Fe0 Ce1 Fe1
  refine (ZBez_any w10 _ _ Z R9 8 iq ie (by omega) lz lr).mono ?_
  rintro e w11 ⟨_, _, _, _, _, rfl, -, -, -, -, gw11⟩
  replace Ba1 := heap_kept gw11 Ba1
  replace Bx1 := heap_kept gw11 Bx1
  replace Ba2 := heap_kept gw11 Ba2
  replace Bx2 := heap_kept gw11 Bx2
  replace Bq := heap_kept gw11 Bq
  replace Be := heap_kept gw11 Be
  replace ia1 := ia1.kept gw11
  replace rx1 := rx1.kept gw11
  replace ia2 := ia2.kept gw11
  replace rx2 := rx2.kept gw11
  replace iq := iq.kept gw11
  replace ie := ie.kept gw11
  replace hG := grown_trans hG gw11
  clear gw11
  obtain ⟨Ca10, Ca11, Fa10, Fa11⟩ := box_cells Ba1
  obtain ⟨Cx10, Cx11, Fx10, Fx11⟩ := box_cells Bx1
  obtain ⟨Ca20, Ca21, Fa20, Fa21⟩ := box_cells Ba2
  obtain ⟨Cx20, Cx21, Fx20, Fx21⟩ := box_cells Bx2
  obtain ⟨Cq0, Cq1, Fq0, Fq1⟩ := box_cells Bq
  obtain ⟨Ce0, Ce1, Fe0, Fe1⟩ := box_cells Be
  go_wp2_with fail
  go_region_held3 (fun w' => w'.cell? ⟨aw1, 0, none⟩ = some (.slice sa1 xa1.length xa1.length) ∧ w'.cell? ⟨aw1, 1, none⟩ = some (.bool ba1) ∧ w'.cell? ⟨aw3, 0, none⟩ = some (.slice sa2 xa2.length xa2.length) ∧ w'.cell? ⟨aw3, 1, none⟩ = some (.bool ba2))
    (first | assumption | exact ⟨Ca10, Ca11, Ca20, Ca21⟩ | go_keep)
    (first
      | (go_at_call 33; (with_reducible refine (ZNeg_any w11.drew _ A1 8 (ia1.kept (grown_drew (grown_refl _ _))) (by omega) lA1).mono ?_); rintro e w12_1 ⟨vz1_, rfl, z1_, gw12_1⟩; have hGw12_1 := grown_pre w11 gw12_1 rfl rfl rfl rfl; have hSw12_1 := (And.intro (hGw12_1.cell Ca10 (by simp)) (And.intro (hGw12_1.cell Ca11 (by simp)) (And.intro (hGw12_1.cell Ca20 (by simp)) (hGw12_1.cell Ca21 (by simp))))); clear gw12_1)
      | (go_at_call 29; (with_reducible refine (ZAdd_any w12_1 _ _ (-A1) B1 8 z1_ (ia2.kept hGw12_1) (by omega) (zneg_bd lA1) lB1).mono ?_); rintro e w12_2 ⟨vz2_, rfl, z2_, gw12_2⟩; have hGw12_2 := grown_trans hGw12_1 gw12_2; replace z1_ := z1_.kept gw12_2; have hSw12_2 := (And.intro (hGw12_2.cell Ca10 (by simp)) (And.intro (hGw12_2.cell Ca11 (by simp)) (And.intro (hGw12_2.cell Ca20 (by simp)) (hGw12_2.cell Ca21 (by simp))))); clear gw12_2))
  replace Ba1 := heap_kept hGw12_2 Ba1
  replace Bx1 := heap_kept hGw12_2 Bx1
  replace Ba2 := heap_kept hGw12_2 Ba2
  replace Bx2 := heap_kept hGw12_2 Bx2
  replace Bq := heap_kept hGw12_2 Bq
  replace Be := heap_kept hGw12_2 Be
  replace ia1 := ia1.kept hGw12_2
  replace rx1 := rx1.kept hGw12_2
  replace ia2 := ia2.kept hGw12_2
  replace rx2 := rx2.kept hGw12_2
  replace iq := iq.kept hGw12_2
  replace ie := ie.kept hGw12_2
  replace hG := grown_trans hG hGw12_2
  clear Ca10 Fa10 Ca11 Fa11 Cx10 Fx10 Cx11 Fx11 Ca20 Fa20 Ca21 Fa21 Cx20 Fx20 Cx21 Fx21 Cq0 Fq0 Cq1 Fq1 Ce0 Fe0 Ce1 Fe1
  obtain ⟨Ca10, Ca11, Fa10, Fa11⟩ := box_cells Ba1
  obtain ⟨Cx10, Cx11, Fx10, Fx11⟩ := box_cells Bx1
  obtain ⟨Ca20, Ca21, Fa20, Fa21⟩ := box_cells Ba2
  obtain ⟨Cx20, Cx21, Fx20, Fx21⟩ := box_cells Bx2
  obtain ⟨Cq0, Cq1, Fq0, Fq1⟩ := box_cells Bq
  obtain ⟨Ce0, Ce1, Fe0, Fe1⟩ := box_cells Be
  go_wp2_with fail
  go_region_held3 (fun w' => w'.cell? ⟨aw1, 0, none⟩ = some (.slice sa1 xa1.length xa1.length) ∧ w'.cell? ⟨aw1, 1, none⟩ = some (.bool ba1) ∧ w'.cell? ⟨aw3, 0, none⟩ = some (.slice sa2 xa2.length xa2.length) ∧ w'.cell? ⟨aw3, 1, none⟩ = some (.bool ba2) ∧ w'.cell? ⟨aw6, 0, none⟩ = some (.slice sq xq.length xq.length) ∧ w'.cell? ⟨aw6, 1, none⟩ = some (.bool bq))
    (first | assumption | exact ⟨Ca10, Ca11, Ca20, Ca21, Cq0, Cq1⟩ | go_keep)
    (first
      | (go_at_call 31; (with_reducible refine (ZSub_any w12_2.drew _ _ B1 A1 8 (ia2.kept (grown_drew (grown_refl _ _))) (ia1.kept (grown_drew (grown_refl _ _))) (by omega) lB1 lA1).mono ?_); rintro e w13_1 ⟨vz3_, rfl, z3_, gw13_1⟩; have hGw13_1 := grown_pre w12_2 gw13_1 rfl rfl rfl rfl; have hSw13_1 := (And.intro (hGw13_1.cell Ca10 (by simp)) (And.intro (hGw13_1.cell Ca11 (by simp)) (And.intro (hGw13_1.cell Ca20 (by simp)) (And.intro (hGw13_1.cell Ca21 (by simp)) (And.intro (hGw13_1.cell Cq0 (by simp)) (hGw13_1.cell Cq1 (by simp))))))); clear gw13_1)
      | (go_at_call 36; (with_reducible refine (ZMul_any w13_1 _ _ (B1 - A1) Z 9 z3_ (iq.kept hGw13_1) (by omega) (zsub_bd (k := 8) lB1 lA1) (bw lz (by omega))).mono ?_); rintro e w13_2 ⟨vz4_, rfl, z4_, gw13_2⟩; have hGw13_2 := grown_trans hGw13_1 gw13_2; replace z3_ := z3_.kept gw13_2; have hSw13_2 := (And.intro (hGw13_2.cell Ca10 (by simp)) (And.intro (hGw13_2.cell Ca11 (by simp)) (And.intro (hGw13_2.cell Ca20 (by simp)) (And.intro (hGw13_2.cell Ca21 (by simp)) (And.intro (hGw13_2.cell Cq0 (by simp)) (hGw13_2.cell Cq1 (by simp))))))); clear gw13_2))
  replace Ba1 := heap_kept hGw13_2 Ba1
  replace Bx1 := heap_kept hGw13_2 Bx1
  replace Ba2 := heap_kept hGw13_2 Ba2
  replace Bx2 := heap_kept hGw13_2 Bx2
  replace Bq := heap_kept hGw13_2 Bq
  replace Be := heap_kept hGw13_2 Be
  replace ia1 := ia1.kept hGw13_2
  replace rx1 := rx1.kept hGw13_2
  replace ia2 := ia2.kept hGw13_2
  replace rx2 := rx2.kept hGw13_2
  replace iq := iq.kept hGw13_2
  replace ie := ie.kept hGw13_2
  replace hG := grown_trans hG hGw13_2
  clear Ca10 Fa10 Ca11 Fa11 Cx10 Fx10 Cx11 Fx11 Ca20 Fa20 Ca21 Fa21 Cx20 Fx20 Cx21 Fx21 Cq0 Fq0 Cq1 Fq1 Ce0 Fe0 Ce1 Fe1
  obtain ⟨Ca10, Ca11, Fa10, Fa11⟩ := box_cells Ba1
  obtain ⟨Cx10, Cx11, Fx10, Fx11⟩ := box_cells Bx1
  obtain ⟨Ca20, Ca21, Fa20, Fa21⟩ := box_cells Ba2
  obtain ⟨Cx20, Cx21, Fx20, Fx21⟩ := box_cells Bx2
  obtain ⟨Cq0, Cq1, Fq0, Fq1⟩ := box_cells Bq
  obtain ⟨Ce0, Ce1, Fe0, Fe1⟩ := box_cells Be
  go_wp2_with fail
  clear Ca10 Fa10 Ca11 Fa11 Cx10 Fx10 Cx11 Fx11 Ca20 Fa20 Ca21 Fa21 Cx20 Fx20 Cx21 Fx21 Cq0 Fq0 Cq1 Fq1 Ce0 Fe0 Ce1 Fe1
  have gb := World.grownBy_alloc w13_2 (.cells #[.slice sa1 xa1.length xa1.length, .bool ba1, .slice sa2 xa2.length xa2.length, .bool ba2, .slice sq xq.length xq.length, .bool bq, .slice se xe.length xe.length, .bool be] 26) none
  have Bl := heap_new w13_2 (.cells #[.slice sa1 xa1.length xa1.length, .bool ba1, .slice sa2 xa2.length xa2.length, .bool ba2, .slice sq xq.length xq.length, .bool bq, .slice se xe.length xe.length, .bool be] 26) w13_2.heap.size rfl
  replace Ba1 := heap_kept gb Ba1
  replace Bx1 := heap_kept gb Bx1
  replace Ba2 := heap_kept gb Ba2
  replace Bx2 := heap_kept gb Bx2
  replace Bq := heap_kept gb Bq
  replace Be := heap_kept gb Be
  replace ia1 := ia1.kept gb
  replace rx1 := rx1.kept gb
  replace ia2 := ia2.kept gb
  replace rx2 := rx2.kept gb
  replace iq := iq.kept gb
  replace ie := ie.kept gb
  replace hG := grown_trans hG gb
  clear gb
  have hSl := isl_four Bl ia1 ia2 iq ie
  refine (ZSum_any (w13_2.alloc (.cells #[.slice sa1 xa1.length xa1.length, .bool ba1, .slice sa2 xa2.length xa2.length, .bool ba2, .slice sq xq.length xq.length, .bool bq, .slice se xe.length xe.length, .bool be] 26)) _ 4 4 [A1, B1, Z, R9] 8 hSl (by omega) (by omega) (by intro z hz; simp only [List.mem_cons, List.not_mem_nil, or_false] at hz; rcases hz with rfl | rfl | rfl | rfl <;> assumption)).mono ?_
  rintro e w14 ⟨_, rfl, -, gw14⟩
  clear hSl Bl
  replace Ba1 := heap_kept gw14 Ba1
  replace Bx1 := heap_kept gw14 Bx1
  replace Ba2 := heap_kept gw14 Ba2
  replace Bx2 := heap_kept gw14 Bx2
  replace Bq := heap_kept gw14 Bq
  replace Be := heap_kept gw14 Be
  replace ia1 := ia1.kept gw14
  replace rx1 := rx1.kept gw14
  replace ia2 := ia2.kept gw14
  replace rx2 := rx2.kept gw14
  replace iq := iq.kept gw14
  replace ie := ie.kept gw14
  replace hG := grown_trans hG gw14
  clear gw14
  obtain ⟨Ca10, Ca11, Fa10, Fa11⟩ := box_cells Ba1
  obtain ⟨Cx10, Cx11, Fx10, Fx11⟩ := box_cells Bx1
  obtain ⟨Ca20, Ca21, Fa20, Fa21⟩ := box_cells Ba2
  obtain ⟨Cx20, Cx21, Fx20, Fx21⟩ := box_cells Bx2
  obtain ⟨Cq0, Cq1, Fq0, Fq1⟩ := box_cells Bq
  obtain ⟨Ce0, Ce1, Fe0, Fe1⟩ := box_cells Be
  go_wp2_with fail
  clear Ca10 Fa10 Ca11 Fa11 Cx10 Fx10 Cx11 Fx11 Ca20 Fa20 Ca21 Fa21 Cx20 Fx20 Cx21 Fx21 Cq0 Fq0 Cq1 Fq1 Ce0 Fe0 Ce1 Fe1
  refine (same_any w14 _ _ A1 8 ia1 rx1 (by omega) lA1).mono ?_
  rintro e w15 ⟨rfl, gw15⟩
  replace Ba1 := heap_kept gw15 Ba1
  replace Bx1 := heap_kept gw15 Bx1
  replace Ba2 := heap_kept gw15 Ba2
  replace Bx2 := heap_kept gw15 Bx2
  replace Bq := heap_kept gw15 Bq
  replace Be := heap_kept gw15 Be
  replace ia1 := ia1.kept gw15
  replace rx1 := rx1.kept gw15
  replace ia2 := ia2.kept gw15
  replace rx2 := rx2.kept gw15
  replace iq := iq.kept gw15
  replace ie := ie.kept gw15
  replace hG := grown_trans hG gw15
  clear gw15
  obtain ⟨Ca10, Ca11, Fa10, Fa11⟩ := box_cells Ba1
  obtain ⟨Cx10, Cx11, Fx10, Fx11⟩ := box_cells Bx1
  obtain ⟨Ca20, Ca21, Fa20, Fa21⟩ := box_cells Ba2
  obtain ⟨Cx20, Cx21, Fx20, Fx21⟩ := box_cells Bx2
  obtain ⟨Cq0, Cq1, Fq0, Fq1⟩ := box_cells Bq
  obtain ⟨Ce0, Ce1, Fe0, Fe1⟩ := box_cells Be
  go_wp2_with fail
  clear Ca10 Fa10 Ca11 Fa11 Cx10 Fx10 Cx11 Fx11 Ca20 Fa20 Ca21 Fa21 Cx20 Fx20 Cx21 Fx21 Cq0 Fq0 Cq1 Fq1 Ce0 Fe0 Ce1 Fe1
  refine (same_any w15 _ _ B1 8 ia2 rx2 (by omega) lB1).mono ?_
  rintro e w16 ⟨rfl, gw16⟩
  replace Ba1 := heap_kept gw16 Ba1
  replace Bx1 := heap_kept gw16 Bx1
  replace Ba2 := heap_kept gw16 Ba2
  replace Bx2 := heap_kept gw16 Bx2
  replace Bq := heap_kept gw16 Bq
  replace Be := heap_kept gw16 Be
  replace ia1 := ia1.kept gw16
  replace rx1 := rx1.kept gw16
  replace ia2 := ia2.kept gw16
  replace rx2 := rx2.kept gw16
  replace iq := iq.kept gw16
  replace ie := ie.kept gw16
  replace hG := grown_trans hG gw16
  clear gw16
  obtain ⟨Ca10, Ca11, Fa10, Fa11⟩ := box_cells Ba1
  obtain ⟨Cx10, Cx11, Fx10, Fx11⟩ := box_cells Bx1
  obtain ⟨Ca20, Ca21, Fa20, Fa21⟩ := box_cells Ba2
  obtain ⟨Cx20, Cx21, Fx20, Fx21⟩ := box_cells Bx2
  obtain ⟨Cq0, Cq1, Fq0, Fq1⟩ := box_cells Bq
  obtain ⟨Ce0, Ce1, Fe0, Fe1⟩ := box_cells Be
  go_wp2_with fail
  clear Ca10 Fa10 Ca11 Fa11 Cx10 Fx10 Cx11 Fx11 Ca20 Fa20 Ca21 Fa21 Cx20 Fx20 Cx21 Fx21 Cq0 Fq0 Cq1 Fq1 Ce0 Fe0 Ce1 Fe1
  refine (NZText_any w16 _ Z 8 iq (by omega) lz).mono ?_
  rintro e w17 ⟨m3, rfl, hm3, gw17⟩
  obtain rfl : m3 = m1 := ztext_uniq hm3 hm1
  replace Ba1 := heap_kept gw17 Ba1
  replace Bx1 := heap_kept gw17 Bx1
  replace Ba2 := heap_kept gw17 Ba2
  replace Bx2 := heap_kept gw17 Bx2
  replace Bq := heap_kept gw17 Bq
  replace Be := heap_kept gw17 Be
  replace ia1 := ia1.kept gw17
  replace rx1 := rx1.kept gw17
  replace ia2 := ia2.kept gw17
  replace rx2 := rx2.kept gw17
  replace iq := iq.kept gw17
  replace ie := ie.kept gw17
  replace hG := grown_trans hG gw17
  clear gw17
  obtain ⟨Ca10, Ca11, Fa10, Fa11⟩ := box_cells Ba1
  obtain ⟨Cx10, Cx11, Fx10, Fx11⟩ := box_cells Bx1
  obtain ⟨Ca20, Ca21, Fa20, Fa21⟩ := box_cells Ba2
  obtain ⟨Cx20, Cx21, Fx20, Fx21⟩ := box_cells Bx2
  obtain ⟨Cq0, Cq1, Fq0, Fq1⟩ := box_cells Bq
  obtain ⟨Ce0, Ce1, Fe0, Fe1⟩ := box_cells Be
  go_wp2_with fail
  clear Ca10 Fa10 Ca11 Fa11 Cx10 Fx10 Cx11 Fx11 Ca20 Fa20 Ca21 Fa21 Cx20 Fx20 Cx21 Fx21 Cq0 Fq0 Cq1 Fq1 Ce0 Fe0 Ce1 Fe1
  refine (NZText_any w17 _ R9 8 ie (by omega) lr).mono ?_
  rintro e w18 ⟨m4, rfl, hm4, gw18⟩
  obtain rfl : m4 = m2 := ztext_uniq hm4 hm2
  replace Ba1 := heap_kept gw18 Ba1
  replace Bx1 := heap_kept gw18 Bx1
  replace Ba2 := heap_kept gw18 Ba2
  replace Bx2 := heap_kept gw18 Bx2
  replace Bq := heap_kept gw18 Bq
  replace Be := heap_kept gw18 Be
  replace ia1 := ia1.kept gw18
  replace rx1 := rx1.kept gw18
  replace ia2 := ia2.kept gw18
  replace rx2 := rx2.kept gw18
  replace iq := iq.kept gw18
  replace ie := ie.kept gw18
  replace hG := grown_trans hG gw18
  clear gw18
  obtain ⟨Ca10, Ca11, Fa10, Fa11⟩ := box_cells Ba1
  obtain ⟨Cx10, Cx11, Fx10, Fx11⟩ := box_cells Bx1
  obtain ⟨Ca20, Ca21, Fa20, Fa21⟩ := box_cells Ba2
  obtain ⟨Cx20, Cx21, Fx20, Fx21⟩ := box_cells Bx2
  obtain ⟨Cq0, Cq1, Fq0, Fq1⟩ := box_cells Bq
  obtain ⟨Ce0, Ce1, Fe0, Fe1⟩ := box_cells Be
  go_wp2_with fail
  go_ret
  exact ⟨by first | rfl | simp, hG⟩
end Go.Proofs.Ytljfhiikoimdiaa
