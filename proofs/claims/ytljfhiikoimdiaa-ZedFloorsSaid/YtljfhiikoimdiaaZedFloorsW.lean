/- ZedFloors: quotients, rounded down, and rests are the document's. -/
import Derived.Test.YtljfhiikoimdiaaZRFloor
import Derived.Deep.RegionHeld3
namespace Go.Proofs.Ytljfhiikoimdiaa
open Go.RowKit Mat
set_option maxRecDepth 100000
set_option linter.unusedVariables false
set_option linter.unusedSimpArgs false

theorem zdiv_bd {x y : Int} {k : Nat} (h : x.natAbs < B ^ k) : (x / y).natAbs < B ^ k := Nat.lt_of_le_of_lt (Int.natAbs_ediv_le_natAbs x y) h
theorem zmod_bd {x y : Int} {k : Nat} (h0 : y ≠ 0) (h : y.natAbs < B ^ k) : (x % y).natAbs < B ^ k := by
  have h1 := Int.emod_nonneg x h0
  have h2 := Int.emod_lt x h0
  omega
set_option maxHeartbeats 16000000 in
theorem zedFloors_walk (w : World) (s t : ByteArray) :
    Calls Try.prog 7 #[.string s, .string t] w (fun e w' => e = .returned (.bool true) ∧ w.grownBy w' none) := by
  have hG : w.grownBy w none := grown_refl _ _
  obtain ⟨A1, o1, lA1, p1⟩ := one_val s
  have P1 := Lib.hid p1
  clear p1
  obtain ⟨B1, o2, lB1, p2⟩ := one_val t
  have P2 := Lib.hid p2
  clear p2
  go_enter Try.func7, Try.ntmps7
  go_wp2_with fail
  refine (P1.out w).mono ?_
  rintro e w1 ⟨_, _, rfl, ⟨sa1, xa1, ba1, rfl, ha1, va1, ta1⟩, ⟨gx1, sx1, lx1, cx1, rfl, hx1, mx1⟩, gw1⟩
  have ia1 : IntV w1 (.agg #[.slice sa1 xa1.length xa1.length, .bool ba1]) (A1) := ⟨sa1, xa1, ba1, rfl, ha1, va1, ta1⟩
  have rx1 : RIntV w1 (.agg #[.int .i64 gx1, .slice sx1 lx1 cx1]) (A1) := ⟨gx1, sx1, lx1, cx1, rfl, hx1, mx1⟩
  replace hG := grown_trans hG gw1
  clear gw1
  clear ha1 va1 ta1
  clear mx1
  have gbw1 := (grown_alloc (World.grownBy_alloc w1 (.cells #[.slice sa1 xa1.length xa1.length, .bool ba1] 26) none) (.cells #[.int .i64 gx1, .slice sx1 lx1 cx1] 34))
  have Ba1 := heap_kept (World.grownBy_alloc _ (.cells #[.int .i64 gx1, .slice sx1 lx1 cx1] 34) none) (heap_new w1 (.cells #[.slice sa1 xa1.length xa1.length, .bool ba1] 26) (w1.heap.size) rfl)
  have Bx1 := (heap_new (w1.alloc (.cells #[.slice sa1 xa1.length xa1.length, .bool ba1] 26)) (.cells #[.int .i64 gx1, .slice sx1 lx1 cx1] 34) (w1.heap.size + 1) (by simp))
  have hzw1 : Hid (w.heap.size ≤ w1.heap.size) := Lib.hid hG.size
  replace ia1 := ia1.kept gbw1
  replace rx1 := rx1.kept gbw1
  replace hG := grown_trans hG gbw1
  clear gbw1
  obtain ⟨Ca10, Ca11, Fa10, Fa11⟩ := box_cells Ba1
  obtain ⟨Cx10, Cx11, Fx10, Fx11⟩ := box_cells Bx1
  go_wp2_with fail
  generalize ((w1.alloc (.cells #[.slice sa1 xa1.length xa1.length, .bool ba1] 26)).alloc (.cells #[.int .i64 gx1, .slice sx1 lx1 cx1] 34)) = w2 at *
  generalize w1.heap.size = aw1 at *
  replace hzw1 := hzw1.out
  clear Ca10 Fa10 Ca11 Fa11 Cx10 Fx10 Cx11 Fx11
  refine (P2.out w2).mono ?_
  rintro e w3 ⟨_, _, rfl, ⟨sa2, xa2, ba2, rfl, ha2, va2, ta2⟩, ⟨gx2, sx2, lx2, cx2, rfl, hx2, mx2⟩, gw3⟩
  have ia2 : IntV w3 (.agg #[.slice sa2 xa2.length xa2.length, .bool ba2]) (B1) := ⟨sa2, xa2, ba2, rfl, ha2, va2, ta2⟩
  have rx2 : RIntV w3 (.agg #[.int .i64 gx2, .slice sx2 lx2 cx2]) (B1) := ⟨gx2, sx2, lx2, cx2, rfl, hx2, mx2⟩
  replace Ba1 := heap_kept gw3 Ba1
  replace Bx1 := heap_kept gw3 Bx1
  replace ia1 := ia1.kept gw3
  replace rx1 := rx1.kept gw3
  replace hG := grown_trans hG gw3
  clear gw3
  clear ha2 va2 ta2
  clear mx2
  obtain ⟨Ca10, Ca11, Fa10, Fa11⟩ := box_cells Ba1
  obtain ⟨Cx10, Cx11, Fx10, Fx11⟩ := box_cells Bx1
  have gbw3 := (grown_alloc (World.grownBy_alloc w3 (.cells #[.slice sa2 xa2.length xa2.length, .bool ba2] 26) none) (.cells #[.int .i64 gx2, .slice sx2 lx2 cx2] 34))
  have Ba2 := heap_kept (World.grownBy_alloc _ (.cells #[.int .i64 gx2, .slice sx2 lx2 cx2] 34) none) (heap_new w3 (.cells #[.slice sa2 xa2.length xa2.length, .bool ba2] 26) (w3.heap.size) rfl)
  have Bx2 := (heap_new (w3.alloc (.cells #[.slice sa2 xa2.length xa2.length, .bool ba2] 26)) (.cells #[.int .i64 gx2, .slice sx2 lx2 cx2] 34) (w3.heap.size + 1) (by simp))
  have hzw3 : Hid (w.heap.size ≤ w3.heap.size) := Lib.hid hG.size
  have hla1w3 : Hid (aw1 < w3.heap.size) := Lib.hid (Array.getElem?_eq_some_iff.1 Ba1).1
  have hlx1w3 : Hid (aw1 + 1 < w3.heap.size) := Lib.hid (Array.getElem?_eq_some_iff.1 Bx1).1
  clear Ca10 Fa10 Ca11 Fa11 Cx10 Fx10 Cx11 Fx11
  replace Ba1 := heap_kept gbw3 Ba1
  replace Bx1 := heap_kept gbw3 Bx1
  replace ia1 := ia1.kept gbw3
  replace rx1 := rx1.kept gbw3
  replace ia2 := ia2.kept gbw3
  replace rx2 := rx2.kept gbw3
  replace hG := grown_trans hG gbw3
  clear gbw3
  obtain ⟨Ca10, Ca11, Fa10, Fa11⟩ := box_cells Ba1
  obtain ⟨Cx10, Cx11, Fx10, Fx11⟩ := box_cells Bx1
  obtain ⟨Ca20, Ca21, Fa20, Fa21⟩ := box_cells Ba2
  obtain ⟨Cx20, Cx21, Fx20, Fx21⟩ := box_cells Bx2
  go_wp2_with fail
  cases o1
  · skip
    generalize ((w3.alloc (.cells #[.slice sa2 xa2.length xa2.length, .bool ba2] 26)).alloc (.cells #[.int .i64 gx2, .slice sx2 lx2 cx2] 34)) = w4 at *
    generalize w3.heap.size = aw3 at *
    replace hzw3 := hzw3.out
    replace hla1w3 := hla1w3.out
    replace hlx1w3 := hlx1w3.out
    clear Ca10 Fa10 Ca11 Fa11 Cx10 Fx10 Cx11 Fx11 Ca20 Fa20 Ca21 Fa21 Cx20 Fx20 Cx21 Fx21
    refine (known_any w4).mono ?_
    rintro e o0w5 ⟨rfl, go0w5⟩
    replace Ba1 := heap_kept go0w5 Ba1
    replace Bx1 := heap_kept go0w5 Bx1
    replace Ba2 := heap_kept go0w5 Ba2
    replace Bx2 := heap_kept go0w5 Bx2
    replace ia1 := ia1.kept go0w5
    replace rx1 := rx1.kept go0w5
    replace ia2 := ia2.kept go0w5
    replace rx2 := rx2.kept go0w5
    replace hG := grown_trans hG go0w5
    clear go0w5
    obtain ⟨Ca10, Ca11, Fa10, Fa11⟩ := box_cells Ba1
    obtain ⟨Cx10, Cx11, Fx10, Fx11⟩ := box_cells Bx1
    obtain ⟨Ca20, Ca21, Fa20, Fa21⟩ := box_cells Ba2
    obtain ⟨Cx20, Cx21, Fx20, Fx21⟩ := box_cells Bx2
    go_wp2_with fail
    clear Ca10 Fa10 Ca11 Fa11 Cx10 Fx10 Cx11 Fx11 Ca20 Fa20 Ca21 Fa21 Cx20 Fx20 Cx21 Fx21
    refine (known_any o0w5).mono ?_
    rintro e o0w6 ⟨rfl, go0w6⟩
    replace Ba1 := heap_kept go0w6 Ba1
    replace Bx1 := heap_kept go0w6 Bx1
    replace Ba2 := heap_kept go0w6 Ba2
    replace Bx2 := heap_kept go0w6 Bx2
    replace ia1 := ia1.kept go0w6
    replace rx1 := rx1.kept go0w6
    replace ia2 := ia2.kept go0w6
    replace rx2 := rx2.kept go0w6
    replace hG := grown_trans hG go0w6
    clear go0w6
    obtain ⟨Ca10, Ca11, Fa10, Fa11⟩ := box_cells Ba1
    obtain ⟨Cx10, Cx11, Fx10, Fx11⟩ := box_cells Bx1
    obtain ⟨Ca20, Ca21, Fa20, Fa21⟩ := box_cells Ba2
    obtain ⟨Cx20, Cx21, Fx20, Fx21⟩ := box_cells Bx2
    go_wp2_with fail
    clear Ca10 Fa10 Ca11 Fa11 Cx10 Fx10 Cx11 Fx11 Ca20 Fa20 Ca21 Fa21 Cx20 Fx20 Cx21 Fx21
    refine (apart_any o0w6 s).mono ?_
    rintro e o0w7 ⟨rfl, go0w7⟩
    replace Ba1 := heap_kept go0w7 Ba1
    replace Bx1 := heap_kept go0w7 Bx1
    replace Ba2 := heap_kept go0w7 Ba2
    replace Bx2 := heap_kept go0w7 Bx2
    replace ia1 := ia1.kept go0w7
    replace rx1 := rx1.kept go0w7
    replace ia2 := ia2.kept go0w7
    replace rx2 := rx2.kept go0w7
    replace hG := grown_trans hG go0w7
    clear go0w7
    obtain ⟨Ca10, Ca11, Fa10, Fa11⟩ := box_cells Ba1
    obtain ⟨Cx10, Cx11, Fx10, Fx11⟩ := box_cells Bx1
    obtain ⟨Ca20, Ca21, Fa20, Fa21⟩ := box_cells Ba2
    obtain ⟨Cx20, Cx21, Fx20, Fx21⟩ := box_cells Bx2
    go_wp2_with fail
    clear Ca10 Fa10 Ca11 Fa11 Cx10 Fx10 Cx11 Fx11 Ca20 Fa20 Ca21 Fa21 Cx20 Fx20 Cx21 Fx21
    refine (apart_any o0w7 t).mono ?_
    rintro e o0w8 ⟨rfl, go0w8⟩
    replace Ba1 := heap_kept go0w8 Ba1
    replace Bx1 := heap_kept go0w8 Bx1
    replace Ba2 := heap_kept go0w8 Ba2
    replace Bx2 := heap_kept go0w8 Bx2
    replace ia1 := ia1.kept go0w8
    replace rx1 := rx1.kept go0w8
    replace ia2 := ia2.kept go0w8
    replace rx2 := rx2.kept go0w8
    replace hG := grown_trans hG go0w8
    clear go0w8
    obtain ⟨Ca10, Ca11, Fa10, Fa11⟩ := box_cells Ba1
    obtain ⟨Cx10, Cx11, Fx10, Fx11⟩ := box_cells Bx1
    obtain ⟨Ca20, Ca21, Fa20, Fa21⟩ := box_cells Ba2
    obtain ⟨Cx20, Cx21, Fx20, Fx21⟩ := box_cells Bx2
    go_wp2_with fail
    go_ret
    exact ⟨by first | rfl | simp, hG⟩
  cases o2
  · skip
    generalize ((w3.alloc (.cells #[.slice sa2 xa2.length xa2.length, .bool ba2] 26)).alloc (.cells #[.int .i64 gx2, .slice sx2 lx2 cx2] 34)) = w4 at *
    generalize w3.heap.size = aw3 at *
    replace hzw3 := hzw3.out
    replace hla1w3 := hla1w3.out
    replace hlx1w3 := hlx1w3.out
    clear Ca10 Fa10 Ca11 Fa11 Cx10 Fx10 Cx11 Fx11 Ca20 Fa20 Ca21 Fa21 Cx20 Fx20 Cx21 Fx21
    refine (known_any w4).mono ?_
    rintro e o1w5 ⟨rfl, go1w5⟩
    replace Ba1 := heap_kept go1w5 Ba1
    replace Bx1 := heap_kept go1w5 Bx1
    replace Ba2 := heap_kept go1w5 Ba2
    replace Bx2 := heap_kept go1w5 Bx2
    replace ia1 := ia1.kept go1w5
    replace rx1 := rx1.kept go1w5
    replace ia2 := ia2.kept go1w5
    replace rx2 := rx2.kept go1w5
    replace hG := grown_trans hG go1w5
    clear go1w5
    obtain ⟨Ca10, Ca11, Fa10, Fa11⟩ := box_cells Ba1
    obtain ⟨Cx10, Cx11, Fx10, Fx11⟩ := box_cells Bx1
    obtain ⟨Ca20, Ca21, Fa20, Fa21⟩ := box_cells Ba2
    obtain ⟨Cx20, Cx21, Fx20, Fx21⟩ := box_cells Bx2
    go_wp2_with fail
    clear Ca10 Fa10 Ca11 Fa11 Cx10 Fx10 Cx11 Fx11 Ca20 Fa20 Ca21 Fa21 Cx20 Fx20 Cx21 Fx21
    refine (known_any o1w5).mono ?_
    rintro e o1w6 ⟨rfl, go1w6⟩
    replace Ba1 := heap_kept go1w6 Ba1
    replace Bx1 := heap_kept go1w6 Bx1
    replace Ba2 := heap_kept go1w6 Ba2
    replace Bx2 := heap_kept go1w6 Bx2
    replace ia1 := ia1.kept go1w6
    replace rx1 := rx1.kept go1w6
    replace ia2 := ia2.kept go1w6
    replace rx2 := rx2.kept go1w6
    replace hG := grown_trans hG go1w6
    clear go1w6
    obtain ⟨Ca10, Ca11, Fa10, Fa11⟩ := box_cells Ba1
    obtain ⟨Cx10, Cx11, Fx10, Fx11⟩ := box_cells Bx1
    obtain ⟨Ca20, Ca21, Fa20, Fa21⟩ := box_cells Ba2
    obtain ⟨Cx20, Cx21, Fx20, Fx21⟩ := box_cells Bx2
    go_wp2_with fail
    clear Ca10 Fa10 Ca11 Fa11 Cx10 Fx10 Cx11 Fx11 Ca20 Fa20 Ca21 Fa21 Cx20 Fx20 Cx21 Fx21
    refine (apart_any o1w6 s).mono ?_
    rintro e o1w7 ⟨rfl, go1w7⟩
    replace Ba1 := heap_kept go1w7 Ba1
    replace Bx1 := heap_kept go1w7 Bx1
    replace Ba2 := heap_kept go1w7 Ba2
    replace Bx2 := heap_kept go1w7 Bx2
    replace ia1 := ia1.kept go1w7
    replace rx1 := rx1.kept go1w7
    replace ia2 := ia2.kept go1w7
    replace rx2 := rx2.kept go1w7
    replace hG := grown_trans hG go1w7
    clear go1w7
    obtain ⟨Ca10, Ca11, Fa10, Fa11⟩ := box_cells Ba1
    obtain ⟨Cx10, Cx11, Fx10, Fx11⟩ := box_cells Bx1
    obtain ⟨Ca20, Ca21, Fa20, Fa21⟩ := box_cells Ba2
    obtain ⟨Cx20, Cx21, Fx20, Fx21⟩ := box_cells Bx2
    go_wp2_with fail
    clear Ca10 Fa10 Ca11 Fa11 Cx10 Fx10 Cx11 Fx11 Ca20 Fa20 Ca21 Fa21 Cx20 Fx20 Cx21 Fx21
    refine (apart_any o1w7 t).mono ?_
    rintro e o1w8 ⟨rfl, go1w8⟩
    replace Ba1 := heap_kept go1w8 Ba1
    replace Bx1 := heap_kept go1w8 Bx1
    replace Ba2 := heap_kept go1w8 Ba2
    replace Bx2 := heap_kept go1w8 Bx2
    replace ia1 := ia1.kept go1w8
    replace rx1 := rx1.kept go1w8
    replace ia2 := ia2.kept go1w8
    replace rx2 := rx2.kept go1w8
    replace hG := grown_trans hG go1w8
    clear go1w8
    obtain ⟨Ca10, Ca11, Fa10, Fa11⟩ := box_cells Ba1
    obtain ⟨Cx10, Cx11, Fx10, Fx11⟩ := box_cells Bx1
    obtain ⟨Ca20, Ca21, Fa20, Fa21⟩ := box_cells Ba2
    obtain ⟨Cx20, Cx21, Fx20, Fx21⟩ := box_cells Bx2
    go_wp2_with fail
    go_ret
    exact ⟨by first | rfl | simp, hG⟩
  generalize ((w3.alloc (.cells #[.slice sa2 xa2.length xa2.length, .bool ba2] 26)).alloc (.cells #[.int .i64 gx2, .slice sx2 lx2 cx2] 34)) = w4 at *
  generalize w3.heap.size = aw3 at *
  replace hzw3 := hzw3.out
  replace hla1w3 := hla1w3.out
  replace hlx1w3 := hlx1w3.out
  clear Ca10 Fa10 Ca11 Fa11 Cx10 Fx10 Cx11 Fx11 Ca20 Fa20 Ca21 Fa21 Cx20 Fx20 Cx21 Fx21
  refine (known_any w4).mono ?_
  rintro e w5 ⟨rfl, gw5⟩
  replace Ba1 := heap_kept gw5 Ba1
  replace Bx1 := heap_kept gw5 Bx1
  replace Ba2 := heap_kept gw5 Ba2
  replace Bx2 := heap_kept gw5 Bx2
  replace ia1 := ia1.kept gw5
  replace rx1 := rx1.kept gw5
  replace ia2 := ia2.kept gw5
  replace rx2 := rx2.kept gw5
  replace hG := grown_trans hG gw5
  clear gw5
  obtain ⟨Ca10, Ca11, Fa10, Fa11⟩ := box_cells Ba1
  obtain ⟨Cx10, Cx11, Fx10, Fx11⟩ := box_cells Bx1
  obtain ⟨Ca20, Ca21, Fa20, Fa21⟩ := box_cells Ba2
  obtain ⟨Cx20, Cx21, Fx20, Fx21⟩ := box_cells Bx2
  go_wp2_with fail
  by_cases h0 : B1 = 0
  · skip
    subst h0
    have f1 : (gx2 == 0) = true := by rw [hx2.out]; rfl
    clear Ca10 Fa10 Ca11 Fa11 Cx10 Fx10 Cx11 Fx11 Ca20 Fa20 Ca21 Fa21 Cx20 Fx20 Cx21 Fx21
    refine (ZFloor_zero w5 _ _ A1 ia1 ia2).mono ?_
    rintro e zw6 ⟨_, _, rfl, ⟨sq, xq, bq, rfl, hq, vq, tq⟩, ⟨se, xe, be, rfl, he, ve, te⟩, gzw6⟩
    have iq : IntV zw6 (.agg #[.slice sq xq.length xq.length, .bool bq]) (0) := ⟨sq, xq, bq, rfl, hq, vq, tq⟩
    have ie : IntV zw6 (.agg #[.slice se xe.length xe.length, .bool be]) (0) := ⟨se, xe, be, rfl, he, ve, te⟩
    replace Ba1 := heap_kept gzw6 Ba1
    replace Bx1 := heap_kept gzw6 Bx1
    replace Ba2 := heap_kept gzw6 Ba2
    replace Bx2 := heap_kept gzw6 Bx2
    replace ia1 := ia1.kept gzw6
    replace rx1 := rx1.kept gzw6
    replace ia2 := ia2.kept gzw6
    replace rx2 := rx2.kept gzw6
    replace hG := grown_trans hG gzw6
    clear gzw6
    clear hq vq tq
    clear he ve te
    obtain ⟨Ca10, Ca11, Fa10, Fa11⟩ := box_cells Ba1
    obtain ⟨Cx10, Cx11, Fx10, Fx11⟩ := box_cells Bx1
    obtain ⟨Ca20, Ca21, Fa20, Fa21⟩ := box_cells Ba2
    obtain ⟨Cx20, Cx21, Fx20, Fx21⟩ := box_cells Bx2
    have gbzw6 := (grown_alloc (World.grownBy_alloc zw6 (.cells #[.slice sq xq.length xq.length, .bool bq] 26) none) (.cells #[.slice se xe.length xe.length, .bool be] 26))
    have Bq := heap_kept (World.grownBy_alloc _ (.cells #[.slice se xe.length xe.length, .bool be] 26) none) (heap_new zw6 (.cells #[.slice sq xq.length xq.length, .bool bq] 26) (zw6.heap.size) rfl)
    have Be := (heap_new (zw6.alloc (.cells #[.slice sq xq.length xq.length, .bool bq] 26)) (.cells #[.slice se xe.length xe.length, .bool be] 26) (zw6.heap.size + 1) (by simp))
    have hzzw6 : Hid (w.heap.size ≤ zw6.heap.size) := Lib.hid hG.size
    have hla1zw6 : Hid (aw1 < zw6.heap.size) := Lib.hid (Array.getElem?_eq_some_iff.1 Ba1).1
    have hlx1zw6 : Hid (aw1 + 1 < zw6.heap.size) := Lib.hid (Array.getElem?_eq_some_iff.1 Bx1).1
    have hla2zw6 : Hid (aw3 < zw6.heap.size) := Lib.hid (Array.getElem?_eq_some_iff.1 Ba2).1
    have hlx2zw6 : Hid (aw3 + 1 < zw6.heap.size) := Lib.hid (Array.getElem?_eq_some_iff.1 Bx2).1
    clear Ca10 Fa10 Ca11 Fa11 Cx10 Fx10 Cx11 Fx11 Ca20 Fa20 Ca21 Fa21 Cx20 Fx20 Cx21 Fx21
    replace Ba1 := heap_kept gbzw6 Ba1
    replace Bx1 := heap_kept gbzw6 Bx1
    replace Ba2 := heap_kept gbzw6 Ba2
    replace Bx2 := heap_kept gbzw6 Bx2
    replace ia1 := ia1.kept gbzw6
    replace rx1 := rx1.kept gbzw6
    replace ia2 := ia2.kept gbzw6
    replace rx2 := rx2.kept gbzw6
    replace iq := iq.kept gbzw6
    replace ie := ie.kept gbzw6
    replace hG := grown_trans hG gbzw6
    clear gbzw6
    obtain ⟨Ca10, Ca11, Fa10, Fa11⟩ := box_cells Ba1
    obtain ⟨Cx10, Cx11, Fx10, Fx11⟩ := box_cells Bx1
    obtain ⟨Ca20, Ca21, Fa20, Fa21⟩ := box_cells Ba2
    obtain ⟨Cx20, Cx21, Fx20, Fx21⟩ := box_cells Bx2
    obtain ⟨Cq0, Cq1, Fq0, Fq1⟩ := box_cells Bq
    obtain ⟨Ce0, Ce1, Fe0, Fe1⟩ := box_cells Be
    go_wp2_with fail
    generalize ((zw6.alloc (.cells #[.slice sq xq.length xq.length, .bool bq] 26)).alloc (.cells #[.slice se xe.length xe.length, .bool be] 26)) = zw7 at *
    generalize zw6.heap.size = azw6 at *
    replace hzzw6 := hzzw6.out
    replace hla1zw6 := hla1zw6.out
    replace hlx1zw6 := hlx1zw6.out
    replace hla2zw6 := hla2zw6.out
    replace hlx2zw6 := hlx2zw6.out
    clear Ca10 Fa10 Ca11 Fa11 Cx10 Fx10 Cx11 Fx11 Ca20 Fa20 Ca21 Fa21 Cx20 Fx20 Cx21 Fx21 Cq0 Fq0 Cq1 Fq1 Ce0 Fe0 Ce1 Fe1
    refine (Sign_any zw7 _ 0 1 iq (by omega) (by decide)).mono ?_
    rintro e zw8 ⟨rfl, gzw8⟩
    rw [show Int.sign 0 = 0 from rfl]
    replace Ba1 := heap_kept gzw8 Ba1
    replace Bx1 := heap_kept gzw8 Bx1
    replace Ba2 := heap_kept gzw8 Ba2
    replace Bx2 := heap_kept gzw8 Bx2
    replace Bq := heap_kept gzw8 Bq
    replace Be := heap_kept gzw8 Be
    replace ia1 := ia1.kept gzw8
    replace rx1 := rx1.kept gzw8
    replace ia2 := ia2.kept gzw8
    replace rx2 := rx2.kept gzw8
    replace iq := iq.kept gzw8
    replace ie := ie.kept gzw8
    replace hG := grown_trans hG gzw8
    clear gzw8
    obtain ⟨Ca10, Ca11, Fa10, Fa11⟩ := box_cells Ba1
    obtain ⟨Cx10, Cx11, Fx10, Fx11⟩ := box_cells Bx1
    obtain ⟨Ca20, Ca21, Fa20, Fa21⟩ := box_cells Ba2
    obtain ⟨Cx20, Cx21, Fx20, Fx21⟩ := box_cells Bx2
    obtain ⟨Cq0, Cq1, Fq0, Fq1⟩ := box_cells Bq
    obtain ⟨Ce0, Ce1, Fe0, Fe1⟩ := box_cells Be
    go_wp2_with fail
    clear Ca10 Fa10 Ca11 Fa11 Cx10 Fx10 Cx11 Fx11 Ca20 Fa20 Ca21 Fa21 Cx20 Fx20 Cx21 Fx21 Cq0 Fq0 Cq1 Fq1 Ce0 Fe0 Ce1 Fe1
    refine (Sign_any zw8 _ 0 1 ie (by omega) (by decide)).mono ?_
    rintro e zw9 ⟨rfl, gzw9⟩
    rw [show Int.sign 0 = 0 from rfl]
    replace Ba1 := heap_kept gzw9 Ba1
    replace Bx1 := heap_kept gzw9 Bx1
    replace Ba2 := heap_kept gzw9 Ba2
    replace Bx2 := heap_kept gzw9 Bx2
    replace Bq := heap_kept gzw9 Bq
    replace Be := heap_kept gzw9 Be
    replace ia1 := ia1.kept gzw9
    replace rx1 := rx1.kept gzw9
    replace ia2 := ia2.kept gzw9
    replace rx2 := rx2.kept gzw9
    replace iq := iq.kept gzw9
    replace ie := ie.kept gzw9
    replace hG := grown_trans hG gzw9
    clear gzw9
    obtain ⟨Ca10, Ca11, Fa10, Fa11⟩ := box_cells Ba1
    obtain ⟨Cx10, Cx11, Fx10, Fx11⟩ := box_cells Bx1
    obtain ⟨Ca20, Ca21, Fa20, Fa21⟩ := box_cells Ba2
    obtain ⟨Cx20, Cx21, Fx20, Fx21⟩ := box_cells Bx2
    obtain ⟨Cq0, Cq1, Fq0, Fq1⟩ := box_cells Bq
    obtain ⟨Ce0, Ce1, Fe0, Fe1⟩ := box_cells Be
    go_wp2_with fail
    go_ret
    exact ⟨by first | rfl | simp, hG⟩
  · skip
    have f1 : (gx2 == 0) = false := beq_eq_false_iff_ne.2 (by rw [hx2.out]; intro h; exact h0 (Int.sign_eq_zero_iff_zero.1 h))
    have H0 := Lib.hid h0
    clear h0
    clear Ca10 Fa10 Ca11 Fa11 Cx10 Fx10 Cx11 Fx11 Ca20 Fa20 Ca21 Fa21 Cx20 Fx20 Cx21 Fx21
    refine (ZFloor_some w5 _ _ A1 B1 8 ia1 ia2 (by omega) lA1 lB1 H0.out).mono ?_
    rintro e yw6 ⟨_, _, rfl, ⟨sq, xq, bq, rfl, hq, vq, tq⟩, ⟨se, xe, be, rfl, he, ve, te⟩, gyw6⟩
    have iq : IntV yw6 (.agg #[.slice sq xq.length xq.length, .bool bq]) (A1 / B1) := ⟨sq, xq, bq, rfl, hq, vq, tq⟩
    have ie : IntV yw6 (.agg #[.slice se xe.length xe.length, .bool be]) (A1 % B1) := ⟨se, xe, be, rfl, he, ve, te⟩
    replace Ba1 := heap_kept gyw6 Ba1
    replace Bx1 := heap_kept gyw6 Bx1
    replace Ba2 := heap_kept gyw6 Ba2
    replace Bx2 := heap_kept gyw6 Bx2
    replace ia1 := ia1.kept gyw6
    replace rx1 := rx1.kept gyw6
    replace ia2 := ia2.kept gyw6
    replace rx2 := rx2.kept gyw6
    replace hG := grown_trans hG gyw6
    clear gyw6
    clear hq vq tq
    clear he ve te
    obtain ⟨Ca10, Ca11, Fa10, Fa11⟩ := box_cells Ba1
    obtain ⟨Cx10, Cx11, Fx10, Fx11⟩ := box_cells Bx1
    obtain ⟨Ca20, Ca21, Fa20, Fa21⟩ := box_cells Ba2
    obtain ⟨Cx20, Cx21, Fx20, Fx21⟩ := box_cells Bx2
    have gbyw6 := (grown_alloc (World.grownBy_alloc yw6 (.cells #[.slice sq xq.length xq.length, .bool bq] 26) none) (.cells #[.slice se xe.length xe.length, .bool be] 26))
    have Bq := heap_kept (World.grownBy_alloc _ (.cells #[.slice se xe.length xe.length, .bool be] 26) none) (heap_new yw6 (.cells #[.slice sq xq.length xq.length, .bool bq] 26) (yw6.heap.size) rfl)
    have Be := (heap_new (yw6.alloc (.cells #[.slice sq xq.length xq.length, .bool bq] 26)) (.cells #[.slice se xe.length xe.length, .bool be] 26) (yw6.heap.size + 1) (by simp))
    have hzyw6 : Hid (w.heap.size ≤ yw6.heap.size) := Lib.hid hG.size
    have hla1yw6 : Hid (aw1 < yw6.heap.size) := Lib.hid (Array.getElem?_eq_some_iff.1 Ba1).1
    have hlx1yw6 : Hid (aw1 + 1 < yw6.heap.size) := Lib.hid (Array.getElem?_eq_some_iff.1 Bx1).1
    have hla2yw6 : Hid (aw3 < yw6.heap.size) := Lib.hid (Array.getElem?_eq_some_iff.1 Ba2).1
    have hlx2yw6 : Hid (aw3 + 1 < yw6.heap.size) := Lib.hid (Array.getElem?_eq_some_iff.1 Bx2).1
    clear Ca10 Fa10 Ca11 Fa11 Cx10 Fx10 Cx11 Fx11 Ca20 Fa20 Ca21 Fa21 Cx20 Fx20 Cx21 Fx21
    replace Ba1 := heap_kept gbyw6 Ba1
    replace Bx1 := heap_kept gbyw6 Bx1
    replace Ba2 := heap_kept gbyw6 Ba2
    replace Bx2 := heap_kept gbyw6 Bx2
    replace ia1 := ia1.kept gbyw6
    replace rx1 := rx1.kept gbyw6
    replace ia2 := ia2.kept gbyw6
    replace rx2 := rx2.kept gbyw6
    replace iq := iq.kept gbyw6
    replace ie := ie.kept gbyw6
    replace hG := grown_trans hG gbyw6
    clear gbyw6
    obtain ⟨Ca10, Ca11, Fa10, Fa11⟩ := box_cells Ba1
    obtain ⟨Cx10, Cx11, Fx10, Fx11⟩ := box_cells Bx1
    obtain ⟨Ca20, Ca21, Fa20, Fa21⟩ := box_cells Ba2
    obtain ⟨Cx20, Cx21, Fx20, Fx21⟩ := box_cells Bx2
    obtain ⟨Cq0, Cq1, Fq0, Fq1⟩ := box_cells Bq
    obtain ⟨Ce0, Ce1, Fe0, Fe1⟩ := box_cells Be
    go_wp2_with fail
    generalize ((yw6.alloc (.cells #[.slice sq xq.length xq.length, .bool bq] 26)).alloc (.cells #[.slice se xe.length xe.length, .bool be] 26)) = yw7 at *
    generalize yw6.heap.size = ayw6 at *
    replace hzyw6 := hzyw6.out
    replace hla1yw6 := hla1yw6.out
    replace hlx1yw6 := hlx1yw6.out
    replace hla2yw6 := hla2yw6.out
    replace hlx2yw6 := hlx2yw6.out
    clear Ca10 Fa10 Ca11 Fa11 Cx10 Fx10 Cx11 Fx11 Ca20 Fa20 Ca21 Fa21 Cx20 Fx20 Cx21 Fx21 Cq0 Fq0 Cq1 Fq1 Ce0 Fe0 Ce1 Fe1
    refine (rZFloor_any yw7 _ _ A1 B1 rx1 rx2 H0.out (toD4 lA1 (by omega)) (toD4 lB1 (by omega))).mono ?_
    rintro e yw8 ⟨_, _, rfl, ⟨gu, su, lu, cu, rfl, hu, mu⟩, ⟨gv, sv, lv, cv, rfl, hv, mv⟩, gyw8⟩
    have ru : RIntV yw8 (.agg #[.int .i64 gu, .slice su lu cu]) (A1 / B1) := ⟨gu, su, lu, cu, rfl, hu, mu⟩
    have rv : RIntV yw8 (.agg #[.int .i64 gv, .slice sv lv cv]) (A1 % B1) := ⟨gv, sv, lv, cv, rfl, hv, mv⟩
    replace Ba1 := heap_kept gyw8 Ba1
    replace Bx1 := heap_kept gyw8 Bx1
    replace Ba2 := heap_kept gyw8 Ba2
    replace Bx2 := heap_kept gyw8 Bx2
    replace Bq := heap_kept gyw8 Bq
    replace Be := heap_kept gyw8 Be
    replace ia1 := ia1.kept gyw8
    replace rx1 := rx1.kept gyw8
    replace ia2 := ia2.kept gyw8
    replace rx2 := rx2.kept gyw8
    replace iq := iq.kept gyw8
    replace ie := ie.kept gyw8
    replace hG := grown_trans hG gyw8
    clear gyw8
    clear mu
    clear mv
    obtain ⟨Ca10, Ca11, Fa10, Fa11⟩ := box_cells Ba1
    obtain ⟨Cx10, Cx11, Fx10, Fx11⟩ := box_cells Bx1
    obtain ⟨Ca20, Ca21, Fa20, Fa21⟩ := box_cells Ba2
    obtain ⟨Cx20, Cx21, Fx20, Fx21⟩ := box_cells Bx2
    obtain ⟨Cq0, Cq1, Fq0, Fq1⟩ := box_cells Bq
    obtain ⟨Ce0, Ce1, Fe0, Fe1⟩ := box_cells Be
    have gbyw8 := (grown_alloc (World.grownBy_alloc yw8 (.cells #[.int .i64 gu, .slice su lu cu] 34) none) (.cells #[.int .i64 gv, .slice sv lv cv] 34))
    have Bu := heap_kept (World.grownBy_alloc _ (.cells #[.int .i64 gv, .slice sv lv cv] 34) none) (heap_new yw8 (.cells #[.int .i64 gu, .slice su lu cu] 34) (yw8.heap.size) rfl)
    have Bv := (heap_new (yw8.alloc (.cells #[.int .i64 gu, .slice su lu cu] 34)) (.cells #[.int .i64 gv, .slice sv lv cv] 34) (yw8.heap.size + 1) (by simp))
    have hzyw8 : Hid (w.heap.size ≤ yw8.heap.size) := Lib.hid hG.size
    have hla1yw8 : Hid (aw1 < yw8.heap.size) := Lib.hid (Array.getElem?_eq_some_iff.1 Ba1).1
    have hlx1yw8 : Hid (aw1 + 1 < yw8.heap.size) := Lib.hid (Array.getElem?_eq_some_iff.1 Bx1).1
    have hla2yw8 : Hid (aw3 < yw8.heap.size) := Lib.hid (Array.getElem?_eq_some_iff.1 Ba2).1
    have hlx2yw8 : Hid (aw3 + 1 < yw8.heap.size) := Lib.hid (Array.getElem?_eq_some_iff.1 Bx2).1
    have hlqyw8 : Hid (ayw6 < yw8.heap.size) := Lib.hid (Array.getElem?_eq_some_iff.1 Bq).1
    have hleyw8 : Hid (ayw6 + 1 < yw8.heap.size) := Lib.hid (Array.getElem?_eq_some_iff.1 Be).1
    clear Ca10 Fa10 Ca11 Fa11 Cx10 Fx10 Cx11 Fx11 Ca20 Fa20 Ca21 Fa21 Cx20 Fx20 Cx21 Fx21 Cq0 Fq0 Cq1 Fq1 Ce0 Fe0 Ce1 Fe1
    replace Ba1 := heap_kept gbyw8 Ba1
    replace Bx1 := heap_kept gbyw8 Bx1
    replace Ba2 := heap_kept gbyw8 Ba2
    replace Bx2 := heap_kept gbyw8 Bx2
    replace Bq := heap_kept gbyw8 Bq
    replace Be := heap_kept gbyw8 Be
    replace ia1 := ia1.kept gbyw8
    replace rx1 := rx1.kept gbyw8
    replace ia2 := ia2.kept gbyw8
    replace rx2 := rx2.kept gbyw8
    replace iq := iq.kept gbyw8
    replace ie := ie.kept gbyw8
    replace ru := ru.kept gbyw8
    replace rv := rv.kept gbyw8
    replace hG := grown_trans hG gbyw8
    clear gbyw8
    obtain ⟨Ca10, Ca11, Fa10, Fa11⟩ := box_cells Ba1
    obtain ⟨Cx10, Cx11, Fx10, Fx11⟩ := box_cells Bx1
    obtain ⟨Ca20, Ca21, Fa20, Fa21⟩ := box_cells Ba2
    obtain ⟨Cx20, Cx21, Fx20, Fx21⟩ := box_cells Bx2
    obtain ⟨Cq0, Cq1, Fq0, Fq1⟩ := box_cells Bq
    obtain ⟨Ce0, Ce1, Fe0, Fe1⟩ := box_cells Be
    obtain ⟨Cu0, Cu1, Fu0, Fu1⟩ := box_cells Bu
    obtain ⟨Cv0, Cv1, Fv0, Fv1⟩ := box_cells Bv
    go_wp2_with fail
    generalize ((yw8.alloc (.cells #[.int .i64 gu, .slice su lu cu] 34)).alloc (.cells #[.int .i64 gv, .slice sv lv cv] 34)) = yw9 at *
    generalize yw8.heap.size = ayw8 at *
    replace hzyw8 := hzyw8.out
    replace hla1yw8 := hla1yw8.out
    replace hlx1yw8 := hlx1yw8.out
    replace hla2yw8 := hla2yw8.out
    replace hlx2yw8 := hlx2yw8.out
    replace hlqyw8 := hlqyw8.out
    replace hleyw8 := hleyw8.out
    clear Ca10 Fa10 Ca11 Fa11 Cx10 Fx10 Cx11 Fx11 Ca20 Fa20 Ca21 Fa21 Cx20 Fx20 Cx21 Fx21 Cq0 Fq0 Cq1 Fq1 Ce0 Fe0 Ce1 Fe1 Cu0 Fu0 Cu1 Fu1 Cv0 Fv0 Cv1 Fv1
    refine (same_any yw9 _ _ (A1 / B1) 8 iq ru (by omega) (zdiv_bd lA1)).mono ?_
    rintro e yw10 ⟨rfl, gyw10⟩
    replace Ba1 := heap_kept gyw10 Ba1
    replace Bx1 := heap_kept gyw10 Bx1
    replace Ba2 := heap_kept gyw10 Ba2
    replace Bx2 := heap_kept gyw10 Bx2
    replace Bq := heap_kept gyw10 Bq
    replace Be := heap_kept gyw10 Be
    replace Bu := heap_kept gyw10 Bu
    replace Bv := heap_kept gyw10 Bv
    replace ia1 := ia1.kept gyw10
    replace rx1 := rx1.kept gyw10
    replace ia2 := ia2.kept gyw10
    replace rx2 := rx2.kept gyw10
    replace iq := iq.kept gyw10
    replace ie := ie.kept gyw10
    replace ru := ru.kept gyw10
    replace rv := rv.kept gyw10
    replace hG := grown_trans hG gyw10
    clear gyw10
    obtain ⟨Ca10, Ca11, Fa10, Fa11⟩ := box_cells Ba1
    obtain ⟨Cx10, Cx11, Fx10, Fx11⟩ := box_cells Bx1
    obtain ⟨Ca20, Ca21, Fa20, Fa21⟩ := box_cells Ba2
    obtain ⟨Cx20, Cx21, Fx20, Fx21⟩ := box_cells Bx2
    obtain ⟨Cq0, Cq1, Fq0, Fq1⟩ := box_cells Bq
    obtain ⟨Ce0, Ce1, Fe0, Fe1⟩ := box_cells Be
    obtain ⟨Cu0, Cu1, Fu0, Fu1⟩ := box_cells Bu
    obtain ⟨Cv0, Cv1, Fv0, Fv1⟩ := box_cells Bv
    go_wp2_with fail
    clear Ca10 Fa10 Ca11 Fa11 Cx10 Fx10 Cx11 Fx11 Ca20 Fa20 Ca21 Fa21 Cx20 Fx20 Cx21 Fx21 Cq0 Fq0 Cq1 Fq1 Ce0 Fe0 Ce1 Fe1 Cu0 Fu0 Cu1 Fu1 Cv0 Fv0 Cv1 Fv1
    refine (same_any yw10 _ _ (A1 % B1) 8 ie rv (by omega) (zmod_bd H0.out lB1)).mono ?_
    rintro e yw11 ⟨rfl, gyw11⟩
    replace Ba1 := heap_kept gyw11 Ba1
    replace Bx1 := heap_kept gyw11 Bx1
    replace Ba2 := heap_kept gyw11 Ba2
    replace Bx2 := heap_kept gyw11 Bx2
    replace Bq := heap_kept gyw11 Bq
    replace Be := heap_kept gyw11 Be
    replace Bu := heap_kept gyw11 Bu
    replace Bv := heap_kept gyw11 Bv
    replace ia1 := ia1.kept gyw11
    replace rx1 := rx1.kept gyw11
    replace ia2 := ia2.kept gyw11
    replace rx2 := rx2.kept gyw11
    replace iq := iq.kept gyw11
    replace ie := ie.kept gyw11
    replace ru := ru.kept gyw11
    replace rv := rv.kept gyw11
    replace hG := grown_trans hG gyw11
    clear gyw11
    obtain ⟨Ca10, Ca11, Fa10, Fa11⟩ := box_cells Ba1
    obtain ⟨Cx10, Cx11, Fx10, Fx11⟩ := box_cells Bx1
    obtain ⟨Ca20, Ca21, Fa20, Fa21⟩ := box_cells Ba2
    obtain ⟨Cx20, Cx21, Fx20, Fx21⟩ := box_cells Bx2
    obtain ⟨Cq0, Cq1, Fq0, Fq1⟩ := box_cells Bq
    obtain ⟨Ce0, Ce1, Fe0, Fe1⟩ := box_cells Be
    obtain ⟨Cu0, Cu1, Fu0, Fu1⟩ := box_cells Bu
    obtain ⟨Cv0, Cv1, Fv0, Fv1⟩ := box_cells Bv
    go_wp2_with fail
    go_ret
    exact ⟨by first | rfl | simp, hG⟩
end Go.Proofs.Ytljfhiikoimdiaa
