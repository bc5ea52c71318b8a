/- ZedRing: the rules of a ring, and of its order. -/
import Derived.Test.YtljfhiikoimdiaaZLaw
import Derived.Deep.RegionHeld3
namespace Go.Proofs.Ytljfhiikoimdiaa
open Go.RowKit Mat
set_option maxRecDepth 100000
set_option linter.unusedVariables false
set_option linter.unusedSimpArgs false

set_option maxHeartbeats 16000000 in
theorem zedRing_walk (w : World) (s t u : ByteArray) :
    Calls Try.prog 10 #[.string s, .string t, .string u] w (fun e w' => e = .returned (.bool true) ∧ w.grownBy w' none) := by
  have hG : w.grownBy w none := grown_refl _ _
  obtain ⟨A1, o1, lA1, p1⟩ := one_val s
  have P1 := Lib.hid p1
  clear p1
  obtain ⟨B1, o2, lB1, p2⟩ := one_val t
  have P2 := Lib.hid p2
  clear p2
  obtain ⟨C1, o3, lC1, p3⟩ := one_val u
  have P3 := Lib.hid p3
  clear p3
  go_enter Try.func10, Try.ntmps10
  go_wp2_with fail
  refine (P1.out w).mono ?_
  rintro e w1 ⟨_, _, rfl, ⟨sa1, xa1, ba1, rfl, ha1, va1, ta1⟩, ⟨gx1, sx1, lx1, cx1, rfl, hx1, mx1⟩, gw1⟩
  have ia1 : IntV w1 (.agg #[.slice sa1 xa1.length xa1.length, .bool ba1]) (A1) := ⟨sa1, xa1, ba1, rfl, ha1, va1, ta1⟩
  have rx1 : RIntV w1 (.agg #[.int .i64 gx1, .slice sx1 lx1 cx1]) (A1) := ⟨gx1, sx1, lx1, cx1, rfl, hx1, mx1⟩
  replace hG := grown_trans hG gw1
  clear gw1
  clear ha1 va1 ta1
  clear mx1
  have gbw1 := (grown_alloc (World.grownBy_alloc w1 (.cells #[.slice sa1 xa1.length xa1.length, .bool ba1] 26) none) (.cells #[.int .i64 gx1, .slice sx1 lx1 cx1] 34))
  have Ba1 := heap_kept (World.grownBy_alloc _ (.cells #[.int .i64 gx1, .slice sx1 lx1 cx1] 34) none) (heap_new w1 (.cells #[.slice sa1 xa1.length xa1.length, .bool ba1] 26) (w1.heap.size) rfl)
  have Bx1 := (heap_new (w1.alloc (.cells #[.slice sa1 xa1.length xa1.length, .bool ba1] 26)) (.cells #[.int .i64 gx1, .slice sx1 lx1 cx1] 34) (w1.heap.size + 1) (by simp))
  have hzw1 : Hid (w.heap.size ≤ w1.heap.size) := Lib.hid hG.size
  replace ia1 := ia1.kept gbw1
  replace rx1 := rx1.kept gbw1
  replace hG := grown_trans hG gbw1
  clear gbw1
  obtain ⟨Ca10, Ca11, Fa10, Fa11⟩ := box_cells Ba1
  obtain ⟨Cx10, Cx11, Fx10, Fx11⟩ := box_cells Bx1
  go_wp2_with fail
  generalize ((w1.alloc (.cells #[.slice sa1 xa1.length xa1.length, .bool ba1] 26)).alloc (.cells #[.int .i64 gx1, .slice sx1 lx1 cx1] 34)) = w2 at *
  generalize w1.heap.size = aw1 at *
  replace hzw1 := hzw1.out
  clear Ca10 Fa10 Ca11 Fa11 Cx10 Fx10 Cx11 Fx11
  refine (P2.out w2).mono ?_
  rintro e w3 ⟨_, _, rfl, ⟨sa2, xa2, ba2, rfl, ha2, va2, ta2⟩, ⟨gx2, sx2, lx2, cx2, rfl, hx2, mx2⟩, gw3⟩
  have ia2 : IntV w3 (.agg #[.slice sa2 xa2.length xa2.length, .bool ba2]) (B1) := ⟨sa2, xa2, ba2, rfl, ha2, va2, ta2⟩
  have rx2 : RIntV w3 (.agg #[.int .i64 gx2, .slice sx2 lx2 cx2]) (B1) := ⟨gx2, sx2, lx2, cx2, rfl, hx2, mx2⟩
  replace Ba1 := heap_kept gw3 Ba1
  replace Bx1 := heap_kept gw3 Bx1
  replace ia1 := ia1.kept gw3
  replace rx1 := rx1.kept gw3
  replace hG := grown_trans hG gw3
  clear gw3
  clear ha2 va2 ta2
  clear mx2
  obtain ⟨Ca10, Ca11, Fa10, Fa11⟩ := box_cells Ba1
  obtain ⟨Cx10, Cx11, Fx10, Fx11⟩ := box_cells Bx1
  have gbw3 := (grown_alloc (World.grownBy_alloc w3 (.cells #[.slice sa2 xa2.length xa2.length, .bool ba2] 26) none) (.cells #[.int .i64 gx2, .slice sx2 lx2 cx2] 34))
  have Ba2 := heap_kept (World.grownBy_alloc _ (.cells #[.int .i64 gx2, .slice sx2 lx2 cx2] 34) none) (heap_new w3 (.cells #[.slice sa2 xa2.length xa2.length, .bool ba2] 26) (w3.heap.size) rfl)
  have Bx2 := (heap_new (w3.alloc (.cells #[.slice sa2 xa2.length xa2.length, .bool ba2] 26)) (.cells #[.int .i64 gx2, .slice sx2 lx2 cx2] 34) (w3.heap.size + 1) (by simp))
  have hzw3 : Hid (w.heap.size ≤ w3.heap.size) := Lib.hid hG.size
  have hla1w3 : Hid (aw1 < w3.heap.size) := Lib.hid (Array.getElem?_eq_some_iff.1 Ba1).1
  have hlx1w3 : Hid (aw1 + 1 < w3.heap.size) := Lib.hid (Array.getElem?_eq_some_iff.1 Bx1).1
  clear Ca10 Fa10 Ca11 Fa11 Cx10 Fx10 Cx11 Fx11
  replace Ba1 := heap_kept gbw3 Ba1
  replace Bx1 := heap_kept gbw3 Bx1
  replace ia1 := ia1.kept gbw3
  replace rx1 := rx1.kept gbw3
  replace ia2 := ia2.kept gbw3
  replace rx2 := rx2.kept gbw3
  replace hG := grown_trans hG gbw3
  clear gbw3
  obtain ⟨Ca10, Ca11, Fa10, Fa11⟩ := box_cells Ba1
  obtain ⟨Cx10, Cx11, Fx10, Fx11⟩ := box_cells Bx1
  obtain ⟨Ca20, Ca21, Fa20, Fa21⟩ := box_cells Ba2
  obtain ⟨Cx20, Cx21, Fx20, Fx21⟩ := box_cells Bx2
  go_wp2_with fail
  generalize ((w3.alloc (.cells #[.slice sa2 xa2.length xa2.length, .bool ba2] 26)).alloc (.cells #[.int .i64 gx2, .slice sx2 lx2 cx2] 34)) = w4 at *
  generalize w3.heap.size = aw3 at *
  replace hzw3 := hzw3.out
  replace hla1w3 := hla1w3.out
  replace hlx1w3 := hlx1w3.out
  clear Ca10 Fa10 Ca11 Fa11 Cx10 Fx10 Cx11 Fx11 Ca20 Fa20 Ca21 Fa21 Cx20 Fx20 Cx21 Fx21
  refine (P3.out w4).mono ?_
  rintro e w5 ⟨_, _, rfl, ⟨sa3, xa3, ba3, rfl, ha3, va3, ta3⟩, ⟨gx3, sx3, lx3, cx3, rfl, hx3, mx3⟩, gw5⟩
  have ia3 : IntV w5 (.agg #[.slice sa3 xa3.length xa3.length, .bool ba3]) (C1) := ⟨sa3, xa3, ba3, rfl, ha3, va3, ta3⟩
  have rx3 : RIntV w5 (.agg #[.int .i64 gx3, .slice sx3 lx3 cx3]) (C1) := ⟨gx3, sx3, lx3, cx3, rfl, hx3, mx3⟩
  replace Ba1 := heap_kept gw5 Ba1
  replace Bx1 := heap_kept gw5 Bx1
  replace Ba2 := heap_kept gw5 Ba2
  replace Bx2 := heap_kept gw5 Bx2
  replace ia1 := ia1.kept gw5
  replace rx1 := rx1.kept gw5
  replace ia2 := ia2.kept gw5
  replace rx2 := rx2.kept gw5
  replace hG := grown_trans hG gw5
  clear gw5
  clear ha3 va3 ta3
  clear mx3
  obtain ⟨Ca10, Ca11, Fa10, Fa11⟩ := box_cells Ba1
  obtain ⟨Cx10, Cx11, Fx10, Fx11⟩ := box_cells Bx1
  obtain ⟨Ca20, Ca21, Fa20, Fa21⟩ := box_cells Ba2
  obtain ⟨Cx20, Cx21, Fx20, Fx21⟩ := box_cells Bx2
  have gbw5 := (grown_alloc (World.grownBy_alloc w5 (.cells #[.slice sa3 xa3.length xa3.length, .bool ba3] 26) none) (.cells #[.int .i64 gx3, .slice sx3 lx3 cx3] 34))
  have Ba3 := heap_kept (World.grownBy_alloc _ (.cells #[.int .i64 gx3, .slice sx3 lx3 cx3] 34) none) (heap_new w5 (.cells #[.slice sa3 xa3.length xa3.length, .bool ba3] 26) (w5.heap.size) rfl)
  have Bx3 := (heap_new (w5.alloc (.cells #[.slice sa3 xa3.length xa3.length, .bool ba3] 26)) (.cells #[.int .i64 gx3, .slice sx3 lx3 cx3] 34) (w5.heap.size + 1) (by simp))
  have hzw5 : Hid (w.heap.size ≤ w5.heap.size) := Lib.hid hG.size
  have hla1w5 : Hid (aw1 < w5.heap.size) := Lib.hid (Array.getElem?_eq_some_iff.1 Ba1).1
  have hlx1w5 : Hid (aw1 + 1 < w5.heap.size) := Lib.hid (Array.getElem?_eq_some_iff.1 Bx1).1
  have hla2w5 : Hid (aw3 < w5.heap.size) := Lib.hid (Array.getElem?_eq_some_iff.1 Ba2).1
  have hlx2w5 : Hid (aw3 + 1 < w5.heap.size) := Lib.hid (Array.getElem?_eq_some_iff.1 Bx2).1
  clear Ca10 Fa10 Ca11 Fa11 Cx10 Fx10 Cx11 Fx11 Ca20 Fa20 Ca21 Fa21 Cx20 Fx20 Cx21 Fx21
  replace Ba1 := heap_kept gbw5 Ba1
  replace Bx1 := heap_kept gbw5 Bx1
  replace Ba2 := heap_kept gbw5 Ba2
  replace Bx2 := heap_kept gbw5 Bx2
  replace ia1 := ia1.kept gbw5
  replace rx1 := rx1.kept gbw5
  replace ia2 := ia2.kept gbw5
  replace rx2 := rx2.kept gbw5
  replace ia3 := ia3.kept gbw5
  replace rx3 := rx3.kept gbw5
  replace hG := grown_trans hG gbw5
  clear gbw5
  obtain ⟨Ca10, Ca11, Fa10, Fa11⟩ := box_cells Ba1
  obtain ⟨Cx10, Cx11, Fx10, Fx11⟩ := box_cells Bx1
  obtain ⟨Ca20, Ca21, Fa20, Fa21⟩ := box_cells Ba2
  obtain ⟨Cx20, Cx21, Fx20, Fx21⟩ := box_cells Bx2
  obtain ⟨Ca30, Ca31, Fa30, Fa31⟩ := box_cells Ba3
  obtain ⟨Cx30, Cx31, Fx30, Fx31⟩ := box_cells Bx3
  go_wp2_with fail
  cases o1
  · skip
    generalize ((w5.alloc (.cells #[.slice sa3 xa3.length xa3.length, .bool ba3] 26)).alloc (.cells #[.int .i64 gx3, .slice sx3 lx3 cx3] 34)) = w6 at *
    generalize w5.heap.size = aw5 at *
    replace hzw5 := hzw5.out
    replace hla1w5 := hla1w5.out
    replace hlx1w5 := hlx1w5.out
    replace hla2w5 := hla2w5.out
    replace hlx2w5 := hlx2w5.out
    clear Ca10 Fa10 Ca11 Fa11 Cx10 Fx10 Cx11 Fx11 Ca20 Fa20 Ca21 Fa21 Cx20 Fx20 Cx21 Fx21 Ca30 Fa30 Ca31 Fa31 Cx30 Fx30 Cx31 Fx31
    refine (known_any w6).mono ?_
    rintro e o0w7 ⟨rfl, go0w7⟩
    replace Ba1 := heap_kept go0w7 Ba1
    replace Bx1 := heap_kept go0w7 Bx1
    replace Ba2 := heap_kept go0w7 Ba2
    replace Bx2 := heap_kept go0w7 Bx2
    replace Ba3 := heap_kept go0w7 Ba3
    replace Bx3 := heap_kept go0w7 Bx3
    replace ia1 := ia1.kept go0w7
    replace rx1 := rx1.kept go0w7
    replace ia2 := ia2.kept go0w7
    replace rx2 := rx2.kept go0w7
    replace ia3 := ia3.kept go0w7
    replace rx3 := rx3.kept go0w7
    replace hG := grown_trans hG go0w7
    clear go0w7
    obtain ⟨Ca10, Ca11, Fa10, Fa11⟩ := box_cells Ba1
    obtain ⟨Cx10, Cx11, Fx10, Fx11⟩ := box_cells Bx1
    obtain ⟨Ca20, Ca21, Fa20, Fa21⟩ := box_cells Ba2
    obtain ⟨Cx20, Cx21, Fx20, Fx21⟩ := box_cells Bx2
    obtain ⟨Ca30, Ca31, Fa30, Fa31⟩ := box_cells Ba3
    obtain ⟨Cx30, Cx31, Fx30, Fx31⟩ := box_cells Bx3
    go_wp2_with fail
    clear Ca10 Fa10 Ca11 Fa11 Cx10 Fx10 Cx11 Fx11 Ca20 Fa20 Ca21 Fa21 Cx20 Fx20 Cx21 Fx21 Ca30 Fa30 Ca31 Fa31 Cx30 Fx30 Cx31 Fx31
    refine (known_any o0w7).mono ?_
    rintro e o0w8 ⟨rfl, go0w8⟩
    replace Ba1 := heap_kept go0w8 Ba1
    replace Bx1 := heap_kept go0w8 Bx1
    replace Ba2 := heap_kept go0w8 Ba2
    replace Bx2 := heap_kept go0w8 Bx2
    replace Ba3 := heap_kept go0w8 Ba3
    replace Bx3 := heap_kept go0w8 Bx3
    replace ia1 := ia1.kept go0w8
    replace rx1 := rx1.kept go0w8
    replace ia2 := ia2.kept go0w8
    replace rx2 := rx2.kept go0w8
    replace ia3 := ia3.kept go0w8
    replace rx3 := rx3.kept go0w8
    replace hG := grown_trans hG go0w8
    clear go0w8
    obtain ⟨Ca10, Ca11, Fa10, Fa11⟩ := box_cells Ba1
    obtain ⟨Cx10, Cx11, Fx10, Fx11⟩ := box_cells Bx1
    obtain ⟨Ca20, Ca21, Fa20, Fa21⟩ := box_cells Ba2
    obtain ⟨Cx20, Cx21, Fx20, Fx21⟩ := box_cells Bx2
    obtain ⟨Ca30, Ca31, Fa30, Fa31⟩ := box_cells Ba3
    obtain ⟨Cx30, Cx31, Fx30, Fx31⟩ := box_cells Bx3
    go_wp2_with fail
    go_ret
    exact ⟨by first | rfl | simp, hG⟩
  cases o2
  · skip
    generalize ((w5.alloc (.cells #[.slice sa3 xa3.length xa3.length, .bool ba3] 26)).alloc (.cells #[.int .i64 gx3, .slice sx3 lx3 cx3] 34)) = w6 at *
    generalize w5.heap.size = aw5 at *
    replace hzw5 := hzw5.out
    replace hla1w5 := hla1w5.out
    replace hlx1w5 := hlx1w5.out
    replace hla2w5 := hla2w5.out
    replace hlx2w5 := hlx2w5.out
    clear Ca10 Fa10 Ca11 Fa11 Cx10 Fx10 Cx11 Fx11 Ca20 Fa20 Ca21 Fa21 Cx20 Fx20 Cx21 Fx21 Ca30 Fa30 Ca31 Fa31 Cx30 Fx30 Cx31 Fx31
    refine (known_any w6).mono ?_
    rintro e o1w7 ⟨rfl, go1w7⟩
    replace Ba1 := heap_kept go1w7 Ba1
    replace Bx1 := heap_kept go1w7 Bx1
    replace Ba2 := heap_kept go1w7 Ba2
    replace Bx2 := heap_kept go1w7 Bx2
    replace Ba3 := heap_kept go1w7 Ba3
    replace Bx3 := heap_kept go1w7 Bx3
    replace ia1 := ia1.kept go1w7
    replace rx1 := rx1.kept go1w7
    replace ia2 := ia2.kept go1w7
    replace rx2 := rx2.kept go1w7
    replace ia3 := ia3.kept go1w7
    replace rx3 := rx3.kept go1w7
    replace hG := grown_trans hG go1w7
    clear go1w7
    obtain ⟨Ca10, Ca11, Fa10, Fa11⟩ := box_cells Ba1
    obtain ⟨Cx10, Cx11, Fx10, Fx11⟩ := box_cells Bx1
    obtain ⟨Ca20, Ca21, Fa20, Fa21⟩ := box_cells Ba2
    obtain ⟨Cx20, Cx21, Fx20, Fx21⟩ := box_cells Bx2
    obtain ⟨Ca30, Ca31, Fa30, Fa31⟩ := box_cells Ba3
    obtain ⟨Cx30, Cx31, Fx30, Fx31⟩ := box_cells Bx3
    go_wp2_with fail
    clear Ca10 Fa10 Ca11 Fa11 Cx10 Fx10 Cx11 Fx11 Ca20 Fa20 Ca21 Fa21 Cx20 Fx20 Cx21 Fx21 Ca30 Fa30 Ca31 Fa31 Cx30 Fx30 Cx31 Fx31
    refine (known_any o1w7).mono ?_
    rintro e o1w8 ⟨rfl, go1w8⟩
    replace Ba1 := heap_kept go1w8 Ba1
    replace Bx1 := heap_kept go1w8 Bx1
    replace Ba2 := heap_kept go1w8 Ba2
    replace Bx2 := heap_kept go1w8 Bx2
    replace Ba3 := heap_kept go1w8 Ba3
    replace Bx3 := heap_kept go1w8 Bx3
    replace ia1 := ia1.kept go1w8
    replace rx1 := rx1.kept go1w8
    replace ia2 := ia2.kept go1w8
    replace rx2 := rx2.kept go1w8
    replace ia3 := ia3.kept go1w8
    replace rx3 := rx3.kept go1w8
    replace hG := grown_trans hG go1w8
    clear go1w8
    obtain ⟨Ca10, Ca11, Fa10, Fa11⟩ := box_cells Ba1
    obtain ⟨Cx10, Cx11, Fx10, Fx11⟩ := box_cells Bx1
    obtain ⟨Ca20, Ca21, Fa20, Fa21⟩ := box_cells Ba2
    obtain ⟨Cx20, Cx21, Fx20, Fx21⟩ := box_cells Bx2
    obtain ⟨Ca30, Ca31, Fa30, Fa31⟩ := box_cells Ba3
    obtain ⟨Cx30, Cx31, Fx30, Fx31⟩ := box_cells Bx3
    go_wp2_with fail
    go_ret
    exact ⟨by first | rfl | simp, hG⟩
  cases o3
  · skip
    generalize ((w5.alloc (.cells #[.slice sa3 xa3.length xa3.length, .bool ba3] 26)).alloc (.cells #[.int .i64 gx3, .slice sx3 lx3 cx3] 34)) = w6 at *
    generalize w5.heap.size = aw5 at *
    replace hzw5 := hzw5.out
    replace hla1w5 := hla1w5.out
    replace hlx1w5 := hlx1w5.out
    replace hla2w5 := hla2w5.out
    replace hlx2w5 := hlx2w5.out
    clear Ca10 Fa10 Ca11 Fa11 Cx10 Fx10 Cx11 Fx11 Ca20 Fa20 Ca21 Fa21 Cx20 Fx20 Cx21 Fx21 Ca30 Fa30 Ca31 Fa31 Cx30 Fx30 Cx31 Fx31
    refine (known_any w6).mono ?_
    rintro e o2w7 ⟨rfl, go2w7⟩
    replace Ba1 := heap_kept go2w7 Ba1
    replace Bx1 := heap_kept go2w7 Bx1
    replace Ba2 := heap_kept go2w7 Ba2
    replace Bx2 := heap_kept go2w7 Bx2
    replace Ba3 := heap_kept go2w7 Ba3
    replace Bx3 := heap_kept go2w7 Bx3
    replace ia1 := ia1.kept go2w7
    replace rx1 := rx1.kept go2w7
    replace ia2 := ia2.kept go2w7
    replace rx2 := rx2.kept go2w7
    replace ia3 := ia3.kept go2w7
    replace rx3 := rx3.kept go2w7
    replace hG := grown_trans hG go2w7
    clear go2w7
    obtain ⟨Ca10, Ca11, Fa10, Fa11⟩ := box_cells Ba1
    obtain ⟨Cx10, Cx11, Fx10, Fx11⟩ := box_cells Bx1
    obtain ⟨Ca20, Ca21, Fa20, Fa21⟩ := box_cells Ba2
    obtain ⟨Cx20, Cx21, Fx20, Fx21⟩ := box_cells Bx2
    obtain ⟨Ca30, Ca31, Fa30, Fa31⟩ := box_cells Ba3
    obtain ⟨Cx30, Cx31, Fx30, Fx31⟩ := box_cells Bx3
    go_wp2_with fail
    clear Ca10 Fa10 Ca11 Fa11 Cx10 Fx10 Cx11 Fx11 Ca20 Fa20 Ca21 Fa21 Cx20 Fx20 Cx21 Fx21 Ca30 Fa30 Ca31 Fa31 Cx30 Fx30 Cx31 Fx31
    refine (known_any o2w7).mono ?_
    rintro e o2w8 ⟨rfl, go2w8⟩
    replace Ba1 := heap_kept go2w8 Ba1
    replace Bx1 := heap_kept go2w8 Bx1
    replace Ba2 := heap_kept go2w8 Ba2
    replace Bx2 := heap_kept go2w8 Bx2
    replace Ba3 := heap_kept go2w8 Ba3
    replace Bx3 := heap_kept go2w8 Bx3
    replace ia1 := ia1.kept go2w8
    replace rx1 := rx1.kept go2w8
    replace ia2 := ia2.kept go2w8
    replace rx2 := rx2.kept go2w8
    replace ia3 := ia3.kept go2w8
    replace rx3 := rx3.kept go2w8
    replace hG := grown_trans hG go2w8
    clear go2w8
    obtain ⟨Ca10, Ca11, Fa10, Fa11⟩ := box_cells Ba1
    obtain ⟨Cx10, Cx11, Fx10, Fx11⟩ := box_cells Bx1
    obtain ⟨Ca20, Ca21, Fa20, Fa21⟩ := box_cells Ba2
    obtain ⟨Cx20, Cx21, Fx20, Fx21⟩ := box_cells Bx2
    obtain ⟨Ca30, Ca31, Fa30, Fa31⟩ := box_cells Ba3
    obtain ⟨Cx30, Cx31, Fx30, Fx31⟩ := box_cells Bx3
    go_wp2_with fail
    go_ret
    exact ⟨by first | rfl | simp, hG⟩
  generalize ((w5.alloc (.cells #[.slice sa3 xa3.length xa3.length, .bool ba3] 26)).alloc (.cells #[.int .i64 gx3, .slice sx3 lx3 cx3] 34)) = w6 at *
  generalize w5.heap.size = aw5 at *
  replace hzw5 := hzw5.out
  replace hla1w5 := hla1w5.out
  replace hlx1w5 := hlx1w5.out
  replace hla2w5 := hla2w5.out
  replace hlx2w5 := hlx2w5.out
  clear Ca10 Fa10 Ca11 Fa11 Cx10 Fx10 Cx11 Fx11 Ca20 Fa20 Ca21 Fa21 Cx20 Fx20 Cx21 Fx21 Ca30 Fa30 Ca31 Fa31 Cx30 Fx30 Cx31 Fx31
  refine (known_any w6).mono ?_
  rintro e w7 ⟨rfl, gw7⟩
  replace Ba1 := heap_kept gw7 Ba1
  replace Bx1 := heap_kept gw7 Bx1
  replace Ba2 := heap_kept gw7 Ba2
  replace Bx2 := heap_kept gw7 Bx2
  replace Ba3 := heap_kept gw7 Ba3
  replace Bx3 := heap_kept gw7 Bx3
  replace ia1 := ia1.kept gw7
  replace rx1 := rx1.kept gw7
  replace ia2 := ia2.kept gw7
  replace rx2 := rx2.kept gw7
  replace ia3 := ia3.kept gw7
  replace rx3 := rx3.kept gw7
  replace hG := grown_trans hG gw7
  clear gw7
  obtain ⟨Ca10, Ca11, Fa10, Fa11⟩ := box_cells Ba1
  obtain ⟨Cx10, Cx11, Fx10, Fx11⟩ := box_cells Bx1
  obtain ⟨Ca20, Ca21, Fa20, Fa21⟩ := box_cells Ba2
  obtain ⟨Cx20, Cx21, Fx20, Fx21⟩ := box_cells Bx2
  obtain ⟨Ca30, Ca31, Fa30, Fa31⟩ := box_cells Ba3
  obtain ⟨Cx30, Cx31, Fx30, Fx31⟩ := box_cells Bx3
  go_wp2_with fail
  obtain ⟨k, hk⟩ : ∃ k, zcmp A1 B1 = k := ⟨_, rfl⟩
  obtain ⟨k5, hk5⟩ : ∃ k, zcmp B1 A1 = k := ⟨_, rfl⟩
  obtain ⟨sc, hsc⟩ : ∃ k, C1.sign = k := ⟨_, rfl⟩
  obtain ⟨p, hp⟩ : ∃ p, zcmp (A1 * C1) (B1 * C1) = p := ⟨_, rfl⟩
  have hw : IntKind.i64.wrap (k * sc) = p := by
    rw [← hk, ← hsc, ← zcmp_mul, hp, IntKind.wrap_i64]; have := zcmp_bd (A1 * C1) (B1 * C1); omega
  have hw5 : IntKind.i64.wrap (-k5) = k := by
    rw [← hk5, zcmp_swap A1 B1, hk, IntKind.wrap_i64]; have := zcmp_bd A1 B1; omega
  have HK := Lib.hid hk
  have HK5 := Lib.hid hk5
  have HSC := Lib.hid hsc
  have HP := Lib.hid hp
  have HAC : Hid (zcmp (A1 + C1) (B1 + C1) = k) := (zcmp_add A1 B1 C1).trans hk
  have HSU : Hid ((A1 - B1).sign = k) := (zcmp_sub A1 B1).trans hk
  clear hk hk5 hsc hp
  dsimp only [List.append]
  go_region_held3 (fun w' => w'.cell? ⟨aw1, 0, none⟩ = some (.slice sa1 xa1.length xa1.length) ∧ w'.cell? ⟨aw1, 1, none⟩ = some (.bool ba1) ∧ w'.cell? ⟨aw3, 0, none⟩ = some (.slice sa2 xa2.length xa2.length) ∧ w'.cell? ⟨aw3, 1, none⟩ = some (.bool ba2) ∧ w'.cell? ⟨aw5, 0, none⟩ = some (.slice sa3 xa3.length xa3.length) ∧ w'.cell? ⟨aw5, 1, none⟩ = some (.bool ba3))
    (first | assumption | exact ⟨Ca10, Ca11, Ca20, Ca21, Ca30, Ca31⟩ | go_keep)
    (first
      | (go_at_call 29; (with_reducible refine (ZAdd_any w7.drew _ _ A1 B1 8 (ia1.kept (grown_drew (grown_refl _ _))) (ia2.kept (grown_drew (grown_refl _ _))) (by omega) lA1 lB1).mono ?_); rintro e w8_1 ⟨vz9_, rfl, z9_, gw8_1⟩; have hGw8_1 := grown_pre w7 gw8_1 rfl rfl rfl rfl; have hSw8_1 := (And.intro (hGw8_1.cell Ca10 (by simp)) (And.intro (hGw8_1.cell Ca11 (by simp)) (And.intro (hGw8_1.cell Ca20 (by simp)) (And.intro (hGw8_1.cell Ca21 (by simp)) (And.intro (hGw8_1.cell Ca30 (by simp)) (hGw8_1.cell Ca31 (by simp))))))); clear gw8_1)
      | (go_at_call 29; (with_reducible refine (ZAdd_any w8_1 _ _ B1 A1 8 (ia2.kept hGw8_1) (ia1.kept hGw8_1) (by omega) lB1 lA1).mono ?_); rintro e w8_2 ⟨vz10_, rfl, z10_, gw8_2⟩; have hGw8_2 := grown_trans hGw8_1 gw8_2; replace z9_ := z9_.kept gw8_2; have hSw8_2 := (And.intro (hGw8_2.cell Ca10 (by simp)) (And.intro (hGw8_2.cell Ca11 (by simp)) (And.intro (hGw8_2.cell Ca20 (by simp)) (And.intro (hGw8_2.cell Ca21 (by simp)) (And.intro (hGw8_2.cell Ca30 (by simp)) (hGw8_2.cell Ca31 (by simp))))))); clear gw8_2)
      | (go_at_call 25; (with_reducible refine (ZCmp_any w8_2 _ _ (A1 + B1) (B1 + A1) 9 z9_ z10_ (by omega) (zadd_bd (k := 8) lA1 lB1) (zadd_bd (k := 8) lB1 lA1)).mono ?_); rintro e w8_3 ⟨rfl, gw8_3⟩; rw [zcmp_eq (show (A1 + B1) = (B1 + A1) from Int.add_comm _ _)]; have hGw8_3 := grown_trans hGw8_2 gw8_3; replace z9_ := z9_.kept gw8_3; replace z10_ := z10_.kept gw8_3; have hSw8_3 := (And.intro (hGw8_3.cell Ca10 (by simp)) (And.intro (hGw8_3.cell Ca11 (by simp)) (And.intro (hGw8_3.cell Ca20 (by simp)) (And.intro (hGw8_3.cell Ca21 (by simp)) (And.intro (hGw8_3.cell Ca30 (by simp)) (hGw8_3.cell Ca31 (by simp))))))); clear gw8_3)
      | (go_at_call 36; (with_reducible refine (ZMul_any w8_3 _ _ A1 B1 8 (ia1.kept hGw8_3) (ia2.kept hGw8_3) (by omega) lA1 lB1).mono ?_); rintro e w8_4 ⟨vz11_, rfl, z11_, gw8_4⟩; have hGw8_4 := grown_trans hGw8_3 gw8_4; replace z9_ := z9_.kept gw8_4; replace z10_ := z10_.kept gw8_4; have hSw8_4 := (And.intro (hGw8_4.cell Ca10 (by simp)) (And.intro (hGw8_4.cell Ca11 (by simp)) (And.intro (hGw8_4.cell Ca20 (by simp)) (And.intro (hGw8_4.cell Ca21 (by simp)) (And.intro (hGw8_4.cell Ca30 (by simp)) (hGw8_4.cell Ca31 (by simp))))))); clear gw8_4)
      | (go_at_call 36; (with_reducible refine (ZMul_any w8_4 _ _ B1 A1 8 (ia2.kept hGw8_4) (ia1.kept hGw8_4) (by omega) lB1 lA1).mono ?_); rintro e w8_5 ⟨vz12_, rfl, z12_, gw8_5⟩; have hGw8_5 := grown_trans hGw8_4 gw8_5; replace z9_ := z9_.kept gw8_5; replace z10_ := z10_.kept gw8_5; replace z11_ := z11_.kept gw8_5; have hSw8_5 := (And.intro (hGw8_5.cell Ca10 (by simp)) (And.intro (hGw8_5.cell Ca11 (by simp)) (And.intro (hGw8_5.cell Ca20 (by simp)) (And.intro (hGw8_5.cell Ca21 (by simp)) (And.intro (hGw8_5.cell Ca30 (by simp)) (hGw8_5.cell Ca31 (by simp))))))); clear gw8_5)
      | (go_at_call 25; (with_reducible refine (ZCmp_any w8_5 _ _ (A1 * B1) (B1 * A1) 16 z11_ z12_ (by omega) (zmul_bd lA1 lB1) (zmul_bd lB1 lA1)).mono ?_); rintro e w8_6 ⟨rfl, gw8_6⟩; rw [zcmp_eq (show (A1 * B1) = (B1 * A1) from Int.mul_comm _ _)]; have hGw8_6 := grown_trans hGw8_5 gw8_6; replace z9_ := z9_.kept gw8_6; replace z10_ := z10_.kept gw8_6; replace z11_ := z11_.kept gw8_6; replace z12_ := z12_.kept gw8_6; have hSw8_6 := (And.intro (hGw8_6.cell Ca10 (by simp)) (And.intro (hGw8_6.cell Ca11 (by simp)) (And.intro (hGw8_6.cell Ca20 (by simp)) (And.intro (hGw8_6.cell Ca21 (by simp)) (And.intro (hGw8_6.cell Ca30 (by simp)) (hGw8_6.cell Ca31 (by simp))))))); clear gw8_6)
      | (go_at_call 29; (with_reducible refine (ZAdd_any w8_6 _ _ A1 B1 8 (ia1.kept hGw8_6) (ia2.kept hGw8_6) (by omega) lA1 lB1).mono ?_); rintro e w8_7 ⟨vz13_, rfl, z13_, gw8_7⟩; have hGw8_7 := grown_trans hGw8_6 gw8_7; replace z9_ := z9_.kept gw8_7; replace z10_ := z10_.kept gw8_7; replace z11_ := z11_.kept gw8_7; replace z12_ := z12_.kept gw8_7; have hSw8_7 := (And.intro (hGw8_7.cell Ca10 (by simp)) (And.intro (hGw8_7.cell Ca11 (by simp)) (And.intro (hGw8_7.cell Ca20 (by simp)) (And.intro (hGw8_7.cell Ca21 (by simp)) (And.intro (hGw8_7.cell Ca30 (by simp)) (hGw8_7.cell Ca31 (by simp))))))); clear gw8_7)
      | (go_at_call 29; (with_reducible refine (ZAdd_any w8_7 _ _ (A1 + B1) C1 9 z13_ (ia3.kept hGw8_7) (by omega) (zadd_bd (k := 8) lA1 lB1) (bw lC1 (by omega))).mono ?_); rintro e w8_8 ⟨vz14_, rfl, z14_, gw8_8⟩; have hGw8_8 := grown_trans hGw8_7 gw8_8; replace z9_ := z9_.kept gw8_8; replace z10_ := z10_.kept gw8_8; replace z11_ := z11_.kept gw8_8; replace z12_ := z12_.kept gw8_8; replace z13_ := z13_.kept gw8_8; have hSw8_8 := (And.intro (hGw8_8.cell Ca10 (by simp)) (And.intro (hGw8_8.cell Ca11 (by simp)) (And.intro (hGw8_8.cell Ca20 (by simp)) (And.intro (hGw8_8.cell Ca21 (by simp)) (And.intro (hGw8_8.cell Ca30 (by simp)) (hGw8_8.cell Ca31 (by simp))))))); clear gw8_8)
      | (go_at_call 29; (with_reducible refine (ZAdd_any w8_8 _ _ B1 C1 8 (ia2.kept hGw8_8) (ia3.kept hGw8_8) (by omega) lB1 lC1).mono ?_); rintro e w8_9 ⟨vz15_, rfl, z15_, gw8_9⟩; have hGw8_9 := grown_trans hGw8_8 gw8_9; replace z9_ := z9_.kept gw8_9; replace z10_ := z10_.kept gw8_9; replace z11_ := z11_.kept gw8_9; replace z12_ := z12_.kept gw8_9; replace z13_ := z13_.kept gw8_9; replace z14_ := z14_.kept gw8_9; have hSw8_9 := (And.intro (hGw8_9.cell Ca10 (by simp)) (And.intro (hGw8_9.cell Ca11 (by simp)) (And.intro (hGw8_9.cell Ca20 (by simp)) (And.intro (hGw8_9.cell Ca21 (by simp)) (And.intro (hGw8_9.cell Ca30 (by simp)) (hGw8_9.cell Ca31 (by simp))))))); clear gw8_9)
      | (go_at_call 29; (with_reducible refine (ZAdd_any w8_9 _ _ A1 (B1 + C1) 9 (ia1.kept hGw8_9) z15_ (by omega) (bw lA1 (by omega)) (zadd_bd (k := 8) lB1 lC1)).mono ?_); rintro e w8_10 ⟨vz16_, rfl, z16_, gw8_10⟩; have hGw8_10 := grown_trans hGw8_9 gw8_10; replace z9_ := z9_.kept gw8_10; replace z10_ := z10_.kept gw8_10; replace z11_ := z11_.kept gw8_10; replace z12_ := z12_.kept gw8_10; replace z13_ := z13_.kept gw8_10; replace z14_ := z14_.kept gw8_10; replace z15_ := z15_.kept gw8_10; have hSw8_10 := (And.intro (hGw8_10.cell Ca10 (by simp)) (And.intro (hGw8_10.cell Ca11 (by simp)) (And.intro (hGw8_10.cell Ca20 (by simp)) (And.intro (hGw8_10.cell Ca21 (by simp)) (And.intro (hGw8_10.cell Ca30 (by simp)) (hGw8_10.cell Ca31 (by simp))))))); clear gw8_10)
      | (go_at_call 25; (with_reducible refine (ZCmp_any w8_10 _ _ ((A1 + B1) + C1) (A1 + (B1 + C1)) 10 z14_ z16_ (by omega) (zadd_bd (k := 9) (zadd_bd (k := 8) lA1 lB1) (bw lC1 (by omega))) (zadd_bd (k := 9) (bw lA1 (by omega)) (zadd_bd (k := 8) lB1 lC1))).mono ?_); rintro e w8_11 ⟨rfl, gw8_11⟩; rw [zcmp_eq (show ((A1 + B1) + C1) = (A1 + (B1 + C1)) from Int.add_assoc _ _ _)]; have hGw8_11 := grown_trans hGw8_10 gw8_11; replace z9_ := z9_.kept gw8_11; replace z10_ := z10_.kept gw8_11; replace z11_ := z11_.kept gw8_11; replace z12_ := z12_.kept gw8_11; replace z13_ := z13_.kept gw8_11; replace z14_ := z14_.kept gw8_11; replace z15_ := z15_.kept gw8_11; replace z16_ := z16_.kept gw8_11; have hSw8_11 := (And.intro (hGw8_11.cell Ca10 (by simp)) (And.intro (hGw8_11.cell Ca11 (by simp)) (And.intro (hGw8_11.cell Ca20 (by simp)) (And.intro (hGw8_11.cell Ca21 (by simp)) (And.intro (hGw8_11.cell Ca30 (by simp)) (hGw8_11.cell Ca31 (by simp))))))); clear gw8_11)
      | (go_at_call 36; (with_reducible refine (ZMul_any w8_11 _ _ A1 B1 8 (ia1.kept hGw8_11) (ia2.kept hGw8_11) (by omega) lA1 lB1).mono ?_); rintro e w8_12 ⟨vz17_, rfl, z17_, gw8_12⟩; have hGw8_12 := grown_trans hGw8_11 gw8_12; replace z9_ := z9_.kept gw8_12; replace z10_ := z10_.kept gw8_12; replace z11_ := z11_.kept gw8_12; replace z12_ := z12_.kept gw8_12; replace z13_ := z13_.kept gw8_12; replace z14_ := z14_.kept gw8_12; replace z15_ := z15_.kept gw8_12; replace z16_ := z16_.kept gw8_12; have hSw8_12 := (And.intro (hGw8_12.cell Ca10 (by simp)) (And.intro (hGw8_12.cell Ca11 (by simp)) (And.intro (hGw8_12.cell Ca20 (by simp)) (And.intro (hGw8_12.cell Ca21 (by simp)) (And.intro (hGw8_12.cell Ca30 (by simp)) (hGw8_12.cell Ca31 (by simp))))))); clear gw8_12)
      | (go_at_call 36; (with_reducible refine (ZMul_any w8_12 _ _ (A1 * B1) C1 16 z17_ (ia3.kept hGw8_12) (by omega) (zmul_bd lA1 lB1) (bw lC1 (by omega))).mono ?_); rintro e w8_13 ⟨vz18_, rfl, z18_, gw8_13⟩; have hGw8_13 := grown_trans hGw8_12 gw8_13; replace z9_ := z9_.kept gw8_13; replace z10_ := z10_.kept gw8_13; replace z11_ := z11_.kept gw8_13; replace z12_ := z12_.kept gw8_13; replace z13_ := z13_.kept gw8_13; replace z14_ := z14_.kept gw8_13; replace z15_ := z15_.kept gw8_13; replace z16_ := z16_.kept gw8_13; replace z17_ := z17_.kept gw8_13; have hSw8_13 := (And.intro (hGw8_13.cell Ca10 (by simp)) (And.intro (hGw8_13.cell Ca11 (by simp)) (And.intro (hGw8_13.cell Ca20 (by simp)) (And.intro (hGw8_13.cell Ca21 (by simp)) (And.intro (hGw8_13.cell Ca30 (by simp)) (hGw8_13.cell Ca31 (by simp))))))); clear gw8_13)
      | (go_at_call 36; (with_reducible refine (ZMul_any w8_13 _ _ B1 C1 8 (ia2.kept hGw8_13) (ia3.kept hGw8_13) (by omega) lB1 lC1).mono ?_); rintro e w8_14 ⟨vz19_, rfl, z19_, gw8_14⟩; have hGw8_14 := grown_trans hGw8_13 gw8_14; replace z9_ := z9_.kept gw8_14; replace z10_ := z10_.kept gw8_14; replace z11_ := z11_.kept gw8_14; replace z12_ := z12_.kept gw8_14; replace z13_ := z13_.kept gw8_14; replace z14_ := z14_.kept gw8_14; replace z15_ := z15_.kept gw8_14; replace z16_ := z16_.kept gw8_14; replace z17_ := z17_.kept gw8_14; replace z18_ := z18_.kept gw8_14; have hSw8_14 := (And.intro (hGw8_14.cell Ca10 (by simp)) (And.intro (hGw8_14.cell Ca11 (by simp)) (And.intro (hGw8_14.cell Ca20 (by simp)) (And.intro (hGw8_14.cell Ca21 (by simp)) (And.intro (hGw8_14.cell Ca30 (by simp)) (hGw8_14.cell Ca31 (by simp))))))); clear gw8_14)
      | (go_at_call 36; (with_reducible refine (ZMul_any w8_14 _ _ A1 (B1 * C1) 16 (ia1.kept hGw8_14) z19_ (by omega) (bw lA1 (by omega)) (zmul_bd lB1 lC1)).mono ?_); rintro e w8_15 ⟨vz20_, rfl, z20_, gw8_15⟩; have hGw8_15 := grown_trans hGw8_14 gw8_15; replace z9_ := z9_.kept gw8_15; replace z10_ := z10_.kept gw8_15; replace z11_ := z11_.kept gw8_15; replace z12_ := z12_.kept gw8_15; replace z13_ := z13_.kept gw8_15; replace z14_ := z14_.kept gw8_15; replace z15_ := z15_.kept gw8_15; replace z16_ := z16_.kept gw8_15; replace z17_ := z17_.kept gw8_15; replace z18_ := z18_.kept gw8_15; replace z19_ := z19_.kept gw8_15; have hSw8_15 := (And.intro (hGw8_15.cell Ca10 (by simp)) (And.intro (hGw8_15.cell Ca11 (by simp)) (And.intro (hGw8_15.cell Ca20 (by simp)) (And.intro (hGw8_15.cell Ca21 (by simp)) (And.intro (hGw8_15.cell Ca30 (by simp)) (hGw8_15.cell Ca31 (by simp))))))); clear gw8_15)
      | (go_at_call 25; (with_reducible refine (ZCmp_any w8_15 _ _ ((A1 * B1) * C1) (A1 * (B1 * C1)) 24 z18_ z20_ (by omega) (zmul_bd (zmul_bd lA1 lB1) lC1) (zmul_bd lA1 (zmul_bd lB1 lC1))).mono ?_); rintro e w8_16 ⟨rfl, gw8_16⟩; rw [zcmp_eq (show ((A1 * B1) * C1) = (A1 * (B1 * C1)) from Int.mul_assoc _ _ _)]; have hGw8_16 := grown_trans hGw8_15 gw8_16; replace z9_ := z9_.kept gw8_16; replace z10_ := z10_.kept gw8_16; replace z11_ := z11_.kept gw8_16; replace z12_ := z12_.kept gw8_16; replace z13_ := z13_.kept gw8_16; replace z14_ := z14_.kept gw8_16; replace z15_ := z15_.kept gw8_16; replace z16_ := z16_.kept gw8_16; replace z17_ := z17_.kept gw8_16; replace z18_ := z18_.kept gw8_16; replace z19_ := z19_.kept gw8_16; replace z20_ := z20_.kept gw8_16; have hSw8_16 := (And.intro (hGw8_16.cell Ca10 (by simp)) (And.intro (hGw8_16.cell Ca11 (by simp)) (And.intro (hGw8_16.cell Ca20 (by simp)) (And.intro (hGw8_16.cell Ca21 (by simp)) (And.intro (hGw8_16.cell Ca30 (by simp)) (hGw8_16.cell Ca31 (by simp))))))); clear gw8_16)
      | (go_at_call 29; (with_reducible refine (ZAdd_any w8_16 _ _ B1 C1 8 (ia2.kept hGw8_16) (ia3.kept hGw8_16) (by omega) lB1 lC1).mono ?_); rintro e w8_17 ⟨vz21_, rfl, z21_, gw8_17⟩; have hGw8_17 := grown_trans hGw8_16 gw8_17; replace z9_ := z9_.kept gw8_17; replace z10_ := z10_.kept gw8_17; replace z11_ := z11_.kept gw8_17; replace z12_ := z12_.kept gw8_17; replace z13_ := z13_.kept gw8_17; replace z14_ := z14_.kept gw8_17; replace z15_ := z15_.kept gw8_17; replace z16_ := z16_.kept gw8_17; replace z17_ := z17_.kept gw8_17; replace z18_ := z18_.kept gw8_17; replace z19_ := z19_.kept gw8_17; replace z20_ := z20_.kept gw8_17; have hSw8_17 := (And.intro (hGw8_17.cell Ca10 (by simp)) (And.intro (hGw8_17.cell Ca11 (by simp)) (And.intro (hGw8_17.cell Ca20 (by simp)) (And.intro (hGw8_17.cell Ca21 (by simp)) (And.intro (hGw8_17.cell Ca30 (by simp)) (hGw8_17.cell Ca31 (by simp))))))); clear gw8_17)
      | (go_at_call 36; (with_reducible refine (ZMul_any w8_17 _ _ A1 (B1 + C1) 9 (ia1.kept hGw8_17) z21_ (by omega) (bw lA1 (by omega)) (zadd_bd (k := 8) lB1 lC1)).mono ?_); rintro e w8_18 ⟨vz22_, rfl, z22_, gw8_18⟩; have hGw8_18 := grown_trans hGw8_17 gw8_18; replace z9_ := z9_.kept gw8_18; replace z10_ := z10_.kept gw8_18; replace z11_ := z11_.kept gw8_18; replace z12_ := z12_.kept gw8_18; replace z13_ := z13_.kept gw8_18; replace z14_ := z14_.kept gw8_18; replace z15_ := z15_.kept gw8_18; replace z16_ := z16_.kept gw8_18; replace z17_ := z17_.kept gw8_18; replace z18_ := z18_.kept gw8_18; replace z19_ := z19_.kept gw8_18; replace z20_ := z20_.kept gw8_18; replace z21_ := z21_.kept gw8_18; have hSw8_18 := (And.intro (hGw8_18.cell Ca10 (by simp)) (And.intro (hGw8_18.cell Ca11 (by simp)) (And.intro (hGw8_18.cell Ca20 (by simp)) (And.intro (hGw8_18.cell Ca21 (by simp)) (And.intro (hGw8_18.cell Ca30 (by simp)) (hGw8_18.cell Ca31 (by simp))))))); clear gw8_18)
      | (go_at_call 36; (with_reducible refine (ZMul_any w8_18 _ _ A1 B1 8 (ia1.kept hGw8_18) (ia2.kept hGw8_18) (by omega) lA1 lB1).mono ?_); rintro e w8_19 ⟨vz23_, rfl, z23_, gw8_19⟩; have hGw8_19 := grown_trans hGw8_18 gw8_19; replace z9_ := z9_.kept gw8_19; replace z10_ := z10_.kept gw8_19; replace z11_ := z11_.kept gw8_19; replace z12_ := z12_.kept gw8_19; replace z13_ := z13_.kept gw8_19; replace z14_ := z14_.kept gw8_19; replace z15_ := z15_.kept gw8_19; replace z16_ := z16_.kept gw8_19; replace z17_ := z17_.kept gw8_19; replace z18_ := z18_.kept gw8_19; replace z19_ := z19_.kept gw8_19; replace z20_ := z20_.kept gw8_19; replace z21_ := z21_.kept gw8_19; replace z22_ := z22_.kept gw8_19; have hSw8_19 := (And.intro (hGw8_19.cell Ca10 (by simp)) (And.intro (hGw8_19.cell Ca11 (by simp)) (And.intro (hGw8_19.cell Ca20 (by simp)) (And.intro (hGw8_19.cell Ca21 (by simp)) (And.intro (hGw8_19.cell Ca30 (by simp)) (hGw8_19.cell Ca31 (by simp))))))); clear gw8_19)
      | (go_at_call 36; (with_reducible refine (ZMul_any w8_19 _ _ A1 C1 8 (ia1.kept hGw8_19) (ia3.kept hGw8_19) (by omega) lA1 lC1).mono ?_); rintro e w8_20 ⟨vz24_, rfl, z24_, gw8_20⟩; have hGw8_20 := grown_trans hGw8_19 gw8_20; replace z9_ := z9_.kept gw8_20; replace z10_ := z10_.kept gw8_20; replace z11_ := z11_.kept gw8_20; replace z12_ := z12_.kept gw8_20; replace z13_ := z13_.kept gw8_20; replace z14_ := z14_.kept gw8_20; replace z15_ := z15_.kept gw8_20; replace z16_ := z16_.kept gw8_20; replace z17_ := z17_.kept gw8_20; replace z18_ := z18_.kept gw8_20; replace z19_ := z19_.kept gw8_20; replace z20_ := z20_.kept gw8_20; replace z21_ := z21_.kept gw8_20; replace z22_ := z22_.kept gw8_20; replace z23_ := z23_.kept gw8_20; have hSw8_20 := (And.intro (hGw8_20.cell Ca10 (by simp)) (And.intro (hGw8_20.cell Ca11 (by simp)) (And.intro (hGw8_20.cell Ca20 (by simp)) (And.intro (hGw8_20.cell Ca21 (by simp)) (And.intro (hGw8_20.cell Ca30 (by simp)) (hGw8_20.cell Ca31 (by simp))))))); clear gw8_20)
      | (go_at_call 29; (with_reducible refine (ZAdd_any w8_20 _ _ (A1 * B1) (A1 * C1) 16 z23_ z24_ (by omega) (zmul_bd lA1 lB1) (zmul_bd lA1 lC1)).mono ?_); rintro e w8_21 ⟨vz25_, rfl, z25_, gw8_21⟩; have hGw8_21 := grown_trans hGw8_20 gw8_21; replace z9_ := z9_.kept gw8_21; replace z10_ := z10_.kept gw8_21; replace z11_ := z11_.kept gw8_21; replace z12_ := z12_.kept gw8_21; replace z13_ := z13_.kept gw8_21; replace z14_ := z14_.kept gw8_21; replace z15_ := z15_.kept gw8_21; replace z16_ := z16_.kept gw8_21; replace z17_ := z17_.kept gw8_21; replace z18_ := z18_.kept gw8_21; replace z19_ := z19_.kept gw8_21; replace z20_ := z20_.kept gw8_21; replace z21_ := z21_.kept gw8_21; replace z22_ := z22_.kept gw8_21; replace z23_ := z23_.kept gw8_21; replace z24_ := z24_.kept gw8_21; have hSw8_21 := (And.intro (hGw8_21.cell Ca10 (by simp)) (And.intro (hGw8_21.cell Ca11 (by simp)) (And.intro (hGw8_21.cell Ca20 (by simp)) (And.intro (hGw8_21.cell Ca21 (by simp)) (And.intro (hGw8_21.cell Ca30 (by simp)) (hGw8_21.cell Ca31 (by simp))))))); clear gw8_21)
      | (go_at_call 25; (with_reducible refine (ZCmp_any w8_21 _ _ (A1 * (B1 + C1)) ((A1 * B1) + (A1 * C1)) 17 z22_ z25_ (by omega) (zmul_bd lA1 (zadd_bd (k := 8) lB1 lC1)) (zadd_bd (k := 16) (zmul_bd lA1 lB1) (zmul_bd lA1 lC1))).mono ?_); rintro e w8_22 ⟨rfl, gw8_22⟩; rw [zcmp_eq (show (A1 * (B1 + C1)) = ((A1 * B1) + (A1 * C1)) from Int.mul_add _ _ _)]; have hGw8_22 := grown_trans hGw8_21 gw8_22; replace z9_ := z9_.kept gw8_22; replace z10_ := z10_.kept gw8_22; replace z11_ := z11_.kept gw8_22; replace z12_ := z12_.kept gw8_22; replace z13_ := z13_.kept gw8_22; replace z14_ := z14_.kept gw8_22; replace z15_ := z15_.kept gw8_22; replace z16_ := z16_.kept gw8_22; replace z17_ := z17_.kept gw8_22; replace z18_ := z18_.kept gw8_22; replace z19_ := z19_.kept gw8_22; replace z20_ := z20_.kept gw8_22; replace z21_ := z21_.kept gw8_22; replace z22_ := z22_.kept gw8_22; replace z23_ := z23_.kept gw8_22; replace z24_ := z24_.kept gw8_22; replace z25_ := z25_.kept gw8_22; have hSw8_22 := (And.intro (hGw8_22.cell Ca10 (by simp)) (And.intro (hGw8_22.cell Ca11 (by simp)) (And.intro (hGw8_22.cell Ca20 (by simp)) (And.intro (hGw8_22.cell Ca21 (by simp)) (And.intro (hGw8_22.cell Ca30 (by simp)) (hGw8_22.cell Ca31 (by simp))))))); clear gw8_22)
      | (go_at_call 31; (with_reducible refine (ZSub_any w8_22 _ _ A1 A1 8 (ia1.kept hGw8_22) (ia1.kept hGw8_22) (by omega) lA1 lA1).mono ?_); rintro e w8_23 ⟨vz26_, rfl, z26_, gw8_23⟩; have hGw8_23 := grown_trans hGw8_22 gw8_23; replace z9_ := z9_.kept gw8_23; replace z10_ := z10_.kept gw8_23; replace z11_ := z11_.kept gw8_23; replace z12_ := z12_.kept gw8_23; replace z13_ := z13_.kept gw8_23; replace z14_ := z14_.kept gw8_23; replace z15_ := z15_.kept gw8_23; replace z16_ := z16_.kept gw8_23; replace z17_ := z17_.kept gw8_23; replace z18_ := z18_.kept gw8_23; replace z19_ := z19_.kept gw8_23; replace z20_ := z20_.kept gw8_23; replace z21_ := z21_.kept gw8_23; replace z22_ := z22_.kept gw8_23; replace z23_ := z23_.kept gw8_23; replace z24_ := z24_.kept gw8_23; replace z25_ := z25_.kept gw8_23; have hSw8_23 := (And.intro (hGw8_23.cell Ca10 (by simp)) (And.intro (hGw8_23.cell Ca11 (by simp)) (And.intro (hGw8_23.cell Ca20 (by simp)) (And.intro (hGw8_23.cell Ca21 (by simp)) (And.intro (hGw8_23.cell Ca30 (by simp)) (hGw8_23.cell Ca31 (by simp))))))); clear gw8_23)
      | (go_at_call 20; (with_reducible refine (Sign_any w8_23 _ (A1 - A1) 9 z26_ (by omega) (zsub_bd (k := 8) lA1 lA1)).mono ?_); rintro e w8_24 ⟨rfl, gw8_24⟩; rw [show (A1 - A1).sign = 0 from by rw [Int.sub_self]; rfl]; have hGw8_24 := grown_trans hGw8_23 gw8_24; replace z9_ := z9_.kept gw8_24; replace z10_ := z10_.kept gw8_24; replace z11_ := z11_.kept gw8_24; replace z12_ := z12_.kept gw8_24; replace z13_ := z13_.kept gw8_24; replace z14_ := z14_.kept gw8_24; replace z15_ := z15_.kept gw8_24; replace z16_ := z16_.kept gw8_24; replace z17_ := z17_.kept gw8_24; replace z18_ := z18_.kept gw8_24; replace z19_ := z19_.kept gw8_24; replace z20_ := z20_.kept gw8_24; replace z21_ := z21_.kept gw8_24; replace z22_ := z22_.kept gw8_24; replace z23_ := z23_.kept gw8_24; replace z24_ := z24_.kept gw8_24; replace z25_ := z25_.kept gw8_24; replace z26_ := z26_.kept gw8_24; have hSw8_24 := (And.intro (hGw8_24.cell Ca10 (by simp)) (And.intro (hGw8_24.cell Ca11 (by simp)) (And.intro (hGw8_24.cell Ca20 (by simp)) (And.intro (hGw8_24.cell Ca21 (by simp)) (And.intro (hGw8_24.cell Ca30 (by simp)) (hGw8_24.cell Ca31 (by simp))))))); clear gw8_24)
      | (go_at_call 33; (with_reducible refine (ZNeg_any w8_24 _ A1 8 (ia1.kept hGw8_24) (by omega) lA1).mono ?_); rintro e w8_25 ⟨vz27_, rfl, z27_, gw8_25⟩; have hGw8_25 := grown_trans hGw8_24 gw8_25; replace z9_ := z9_.kept gw8_25; replace z10_ := z10_.kept gw8_25; replace z11_ := z11_.kept gw8_25; replace z12_ := z12_.kept gw8_25; replace z13_ := z13_.kept gw8_25; replace z14_ := z14_.kept gw8_25; replace z15_ := z15_.kept gw8_25; replace z16_ := z16_.kept gw8_25; replace z17_ := z17_.kept gw8_25; replace z18_ := z18_.kept gw8_25; replace z19_ := z19_.kept gw8_25; replace z20_ := z20_.kept gw8_25; replace z21_ := z21_.kept gw8_25; replace z22_ := z22_.kept gw8_25; replace z23_ := z23_.kept gw8_25; replace z24_ := z24_.kept gw8_25; replace z25_ := z25_.kept gw8_25; replace z26_ := z26_.kept gw8_25; have hSw8_25 := (And.intro (hGw8_25.cell Ca10 (by simp)) (And.intro (hGw8_25.cell Ca11 (by simp)) (And.intro (hGw8_25.cell Ca20 (by simp)) (And.intro (hGw8_25.cell Ca21 (by simp)) (And.intro (hGw8_25.cell Ca30 (by simp)) (hGw8_25.cell Ca31 (by simp))))))); clear gw8_25)
      | (go_at_call 33; (with_reducible refine (ZNeg_any w8_25 _ (-A1) 8 z27_ (by omega) (zneg_bd lA1)).mono ?_); rintro e w8_26 ⟨vz28_, rfl, z28_, gw8_26⟩; have hGw8_26 := grown_trans hGw8_25 gw8_26; replace z9_ := z9_.kept gw8_26; replace z10_ := z10_.kept gw8_26; replace z11_ := z11_.kept gw8_26; replace z12_ := z12_.kept gw8_26; replace z13_ := z13_.kept gw8_26; replace z14_ := z14_.kept gw8_26; replace z15_ := z15_.kept gw8_26; replace z16_ := z16_.kept gw8_26; replace z17_ := z17_.kept gw8_26; replace z18_ := z18_.kept gw8_26; replace z19_ := z19_.kept gw8_26; replace z20_ := z20_.kept gw8_26; replace z21_ := z21_.kept gw8_26; replace z22_ := z22_.kept gw8_26; replace z23_ := z23_.kept gw8_26; replace z24_ := z24_.kept gw8_26; replace z25_ := z25_.kept gw8_26; replace z26_ := z26_.kept gw8_26; replace z27_ := z27_.kept gw8_26; have hSw8_26 := (And.intro (hGw8_26.cell Ca10 (by simp)) (And.intro (hGw8_26.cell Ca11 (by simp)) (And.intro (hGw8_26.cell Ca20 (by simp)) (And.intro (hGw8_26.cell Ca21 (by simp)) (And.intro (hGw8_26.cell Ca30 (by simp)) (hGw8_26.cell Ca31 (by simp))))))); clear gw8_26)
      | (go_at_call 25; (with_reducible refine (ZCmp_any w8_26 _ _ (-(-A1)) A1 8 z28_ (ia1.kept hGw8_26) (by omega) (zneg_bd (zneg_bd lA1)) lA1).mono ?_); rintro e w8_27 ⟨rfl, gw8_27⟩; rw [zcmp_eq (show (-(-A1)) = A1 from Int.neg_neg _)]; have hGw8_27 := grown_trans hGw8_26 gw8_27; replace z9_ := z9_.kept gw8_27; replace z10_ := z10_.kept gw8_27; replace z11_ := z11_.kept gw8_27; replace z12_ := z12_.kept gw8_27; replace z13_ := z13_.kept gw8_27; replace z14_ := z14_.kept gw8_27; replace z15_ := z15_.kept gw8_27; replace z16_ := z16_.kept gw8_27; replace z17_ := z17_.kept gw8_27; replace z18_ := z18_.kept gw8_27; replace z19_ := z19_.kept gw8_27; replace z20_ := z20_.kept gw8_27; replace z21_ := z21_.kept gw8_27; replace z22_ := z22_.kept gw8_27; replace z23_ := z23_.kept gw8_27; replace z24_ := z24_.kept gw8_27; replace z25_ := z25_.kept gw8_27; replace z26_ := z26_.kept gw8_27; replace z27_ := z27_.kept gw8_27; replace z28_ := z28_.kept gw8_27; have hSw8_27 := (And.intro (hGw8_27.cell Ca10 (by simp)) (And.intro (hGw8_27.cell Ca11 (by simp)) (And.intro (hGw8_27.cell Ca20 (by simp)) (And.intro (hGw8_27.cell Ca21 (by simp)) (And.intro (hGw8_27.cell Ca30 (by simp)) (hGw8_27.cell Ca31 (by simp))))))); clear gw8_27))
  replace Ba1 := heap_kept hGw8_27 Ba1
  replace Bx1 := heap_kept hGw8_27 Bx1
  replace Ba2 := heap_kept hGw8_27 Ba2
  replace Bx2 := heap_kept hGw8_27 Bx2
  replace Ba3 := heap_kept hGw8_27 Ba3
  replace Bx3 := heap_kept hGw8_27 Bx3
  replace ia1 := ia1.kept hGw8_27
  replace rx1 := rx1.kept hGw8_27
  replace ia2 := ia2.kept hGw8_27
  replace rx2 := rx2.kept hGw8_27
  replace ia3 := ia3.kept hGw8_27
  replace rx3 := rx3.kept hGw8_27
  replace hG := grown_trans hG hGw8_27
  clear Ca10 Fa10 Ca11 Fa11 Cx10 Fx10 Cx11 Fx11 Ca20 Fa20 Ca21 Fa21 Cx20 Fx20 Cx21 Fx21 Ca30 Fa30 Ca31 Fa31 Cx30 Fx30 Cx31 Fx31
  obtain ⟨Ca10, Ca11, Fa10, Fa11⟩ := box_cells Ba1
  obtain ⟨Cx10, Cx11, Fx10, Fx11⟩ := box_cells Bx1
  obtain ⟨Ca20, Ca21, Fa20, Fa21⟩ := box_cells Ba2
  obtain ⟨Cx20, Cx21, Fx20, Fx21⟩ := box_cells Bx2
  obtain ⟨Ca30, Ca31, Fa30, Fa31⟩ := box_cells Ba3
  obtain ⟨Cx30, Cx31, Fx30, Fx31⟩ := box_cells Bx3
  go_wp2_with fail
  go_region_held3 (fun w' => w'.cell? ⟨aw1, 0, none⟩ = some (.slice sa1 xa1.length xa1.length) ∧ w'.cell? ⟨aw1, 1, none⟩ = some (.bool ba1) ∧ w'.cell? ⟨aw3, 0, none⟩ = some (.slice sa2 xa2.length xa2.length) ∧ w'.cell? ⟨aw3, 1, none⟩ = some (.bool ba2) ∧ w'.cell? ⟨aw5, 0, none⟩ = some (.slice sa3 xa3.length xa3.length) ∧ w'.cell? ⟨aw5, 1, none⟩ = some (.bool ba3))
    (first | assumption | exact ⟨Ca10, Ca11, Ca20, Ca21, Ca30, Ca31⟩ | go_keep)
    (first
      | (go_at_call 29; (with_reducible refine (ZAdd_any w8_27.drew _ _ A1 C1 8 (ia1.kept (grown_drew (grown_refl _ _))) (ia3.kept (grown_drew (grown_refl _ _))) (by omega) lA1 lC1).mono ?_); rintro e w9_1 ⟨vz29_, rfl, z29_, gw9_1⟩; have hGw9_1 := grown_pre w8_27 gw9_1 rfl rfl rfl rfl; have hSw9_1 := (And.intro (hGw9_1.cell Ca10 (by simp)) (And.intro (hGw9_1.cell Ca11 (by simp)) (And.intro (hGw9_1.cell Ca20 (by simp)) (And.intro (hGw9_1.cell Ca21 (by simp)) (And.intro (hGw9_1.cell Ca30 (by simp)) (hGw9_1.cell Ca31 (by simp))))))); clear gw9_1)
      | (go_at_call 29; (with_reducible refine (ZAdd_any w9_1 _ _ B1 C1 8 (ia2.kept hGw9_1) (ia3.kept hGw9_1) (by omega) lB1 lC1).mono ?_); rintro e w9_2 ⟨vz30_, rfl, z30_, gw9_2⟩; have hGw9_2 := grown_trans hGw9_1 gw9_2; replace z29_ := z29_.kept gw9_2; have hSw9_2 := (And.intro (hGw9_2.cell Ca10 (by simp)) (And.intro (hGw9_2.cell Ca11 (by simp)) (And.intro (hGw9_2.cell Ca20 (by simp)) (And.intro (hGw9_2.cell Ca21 (by simp)) (And.intro (hGw9_2.cell Ca30 (by simp)) (hGw9_2.cell Ca31 (by simp))))))); clear gw9_2)
      | (go_at_call 25; (with_reducible refine (ZCmp_any w9_2 _ _ (A1 + C1) (B1 + C1) 9 z29_ z30_ (by omega) (zadd_bd (k := 8) lA1 lC1) (zadd_bd (k := 8) lB1 lC1)).mono ?_); rintro e w9_3 ⟨rfl, gw9_3⟩; rw [HAC.out]; have hGw9_3 := grown_trans hGw9_2 gw9_3; replace z29_ := z29_.kept gw9_3; replace z30_ := z30_.kept gw9_3; have hSw9_3 := (And.intro (hGw9_3.cell Ca10 (by simp)) (And.intro (hGw9_3.cell Ca11 (by simp)) (And.intro (hGw9_3.cell Ca20 (by simp)) (And.intro (hGw9_3.cell Ca21 (by simp)) (And.intro (hGw9_3.cell Ca30 (by simp)) (hGw9_3.cell Ca31 (by simp))))))); clear gw9_3)
      | (go_at_call 25; (with_reducible refine (ZCmp_any w9_3 _ _ A1 B1 8 (ia1.kept hGw9_3) (ia2.kept hGw9_3) (by omega) lA1 lB1).mono ?_); rintro e w9_4 ⟨rfl, gw9_4⟩; rw [HK.out]; have hGw9_4 := grown_trans hGw9_3 gw9_4; replace z29_ := z29_.kept gw9_4; replace z30_ := z30_.kept gw9_4; have hSw9_4 := (And.intro (hGw9_4.cell Ca10 (by simp)) (And.intro (hGw9_4.cell Ca11 (by simp)) (And.intro (hGw9_4.cell Ca20 (by simp)) (And.intro (hGw9_4.cell Ca21 (by simp)) (And.intro (hGw9_4.cell Ca30 (by simp)) (hGw9_4.cell Ca31 (by simp))))))); clear gw9_4)
      | (go_at_call 36; (with_reducible refine (ZMul_any w9_4 _ _ A1 C1 8 (ia1.kept hGw9_4) (ia3.kept hGw9_4) (by omega) lA1 lC1).mono ?_); rintro e w9_5 ⟨vz31_, rfl, z31_, gw9_5⟩; have hGw9_5 := grown_trans hGw9_4 gw9_5; replace z29_ := z29_.kept gw9_5; replace z30_ := z30_.kept gw9_5; have hSw9_5 := (And.intro (hGw9_5.cell Ca10 (by simp)) (And.intro (hGw9_5.cell Ca11 (by simp)) (And.intro (hGw9_5.cell Ca20 (by simp)) (And.intro (hGw9_5.cell Ca21 (by simp)) (And.intro (hGw9_5.cell Ca30 (by simp)) (hGw9_5.cell Ca31 (by simp))))))); clear gw9_5)
      | (go_at_call 36; (with_reducible refine (ZMul_any w9_5 _ _ B1 C1 8 (ia2.kept hGw9_5) (ia3.kept hGw9_5) (by omega) lB1 lC1).mono ?_); rintro e w9_6 ⟨vz32_, rfl, z32_, gw9_6⟩; have hGw9_6 := grown_trans hGw9_5 gw9_6; replace z29_ := z29_.kept gw9_6; replace z30_ := z30_.kept gw9_6; replace z31_ := z31_.kept gw9_6; have hSw9_6 := (And.intro (hGw9_6.cell Ca10 (by simp)) (And.intro (hGw9_6.cell Ca11 (by simp)) (And.intro (hGw9_6.cell Ca20 (by simp)) (And.intro (hGw9_6.cell Ca21 (by simp)) (And.intro (hGw9_6.cell Ca30 (by simp)) (hGw9_6.cell Ca31 (by simp))))))); clear gw9_6)
      | (go_at_call 25; (with_reducible refine (ZCmp_any w9_6 _ _ (A1 * C1) (B1 * C1) 16 z31_ z32_ (by omega) (zmul_bd lA1 lC1) (zmul_bd lB1 lC1)).mono ?_); rintro e w9_7 ⟨rfl, gw9_7⟩; rw [HP.out]; have hGw9_7 := grown_trans hGw9_6 gw9_7; replace z29_ := z29_.kept gw9_7; replace z30_ := z30_.kept gw9_7; replace z31_ := z31_.kept gw9_7; replace z32_ := z32_.kept gw9_7; have hSw9_7 := (And.intro (hGw9_7.cell Ca10 (by simp)) (And.intro (hGw9_7.cell Ca11 (by simp)) (And.intro (hGw9_7.cell Ca20 (by simp)) (And.intro (hGw9_7.cell Ca21 (by simp)) (And.intro (hGw9_7.cell Ca30 (by simp)) (hGw9_7.cell Ca31 (by simp))))))); clear gw9_7)
      | (go_at_call 25; (with_reducible refine (ZCmp_any w9_7 _ _ A1 B1 8 (ia1.kept hGw9_7) (ia2.kept hGw9_7) (by omega) lA1 lB1).mono ?_); rintro e w9_8 ⟨rfl, gw9_8⟩; rw [HK.out]; have hGw9_8 := grown_trans hGw9_7 gw9_8; replace z29_ := z29_.kept gw9_8; replace z30_ := z30_.kept gw9_8; replace z31_ := z31_.kept gw9_8; replace z32_ := z32_.kept gw9_8; have hSw9_8 := (And.intro (hGw9_8.cell Ca10 (by simp)) (And.intro (hGw9_8.cell Ca11 (by simp)) (And.intro (hGw9_8.cell Ca20 (by simp)) (And.intro (hGw9_8.cell Ca21 (by simp)) (And.intro (hGw9_8.cell Ca30 (by simp)) (hGw9_8.cell Ca31 (by simp))))))); clear gw9_8)
      | (go_at_call 20; (with_reducible refine (Sign_any w9_8 _ C1 8 (ia3.kept hGw9_8) (by omega) lC1).mono ?_); rintro e w9_9 ⟨rfl, gw9_9⟩; rw [HSC.out]; have hGw9_9 := grown_trans hGw9_8 gw9_9; replace z29_ := z29_.kept gw9_9; replace z30_ := z30_.kept gw9_9; replace z31_ := z31_.kept gw9_9; replace z32_ := z32_.kept gw9_9; have hSw9_9 := (And.intro (hGw9_9.cell Ca10 (by simp)) (And.intro (hGw9_9.cell Ca11 (by simp)) (And.intro (hGw9_9.cell Ca20 (by simp)) (And.intro (hGw9_9.cell Ca21 (by simp)) (And.intro (hGw9_9.cell Ca30 (by simp)) (hGw9_9.cell Ca31 (by simp))))))); clear gw9_9)
      | (go_at_call 25; (with_reducible refine (ZCmp_any w9_9 _ _ A1 B1 8 (ia1.kept hGw9_9) (ia2.kept hGw9_9) (by omega) lA1 lB1).mono ?_); rintro e w9_10 ⟨rfl, gw9_10⟩; rw [HK.out]; have hGw9_10 := grown_trans hGw9_9 gw9_10; replace z29_ := z29_.kept gw9_10; replace z30_ := z30_.kept gw9_10; replace z31_ := z31_.kept gw9_10; replace z32_ := z32_.kept gw9_10; have hSw9_10 := (And.intro (hGw9_10.cell Ca10 (by simp)) (And.intro (hGw9_10.cell Ca11 (by simp)) (And.intro (hGw9_10.cell Ca20 (by simp)) (And.intro (hGw9_10.cell Ca21 (by simp)) (And.intro (hGw9_10.cell Ca30 (by simp)) (hGw9_10.cell Ca31 (by simp))))))); clear gw9_10)
      | (go_at_call 31; (with_reducible refine (ZSub_any w9_10 _ _ A1 B1 8 (ia1.kept hGw9_10) (ia2.kept hGw9_10) (by omega) lA1 lB1).mono ?_); rintro e w9_11 ⟨vz33_, rfl, z33_, gw9_11⟩; have hGw9_11 := grown_trans hGw9_10 gw9_11; replace z29_ := z29_.kept gw9_11; replace z30_ := z30_.kept gw9_11; replace z31_ := z31_.kept gw9_11; replace z32_ := z32_.kept gw9_11; have hSw9_11 := (And.intro (hGw9_11.cell Ca10 (by simp)) (And.intro (hGw9_11.cell Ca11 (by simp)) (And.intro (hGw9_11.cell Ca20 (by simp)) (And.intro (hGw9_11.cell Ca21 (by simp)) (And.intro (hGw9_11.cell Ca30 (by simp)) (hGw9_11.cell Ca31 (by simp))))))); clear gw9_11)
      | (go_at_call 20; (with_reducible refine (Sign_any w9_11 _ (A1 - B1) 9 z33_ (by omega) (zsub_bd (k := 8) lA1 lB1)).mono ?_); rintro e w9_12 ⟨rfl, gw9_12⟩; rw [HSU.out]; have hGw9_12 := grown_trans hGw9_11 gw9_12; replace z29_ := z29_.kept gw9_12; replace z30_ := z30_.kept gw9_12; replace z31_ := z31_.kept gw9_12; replace z32_ := z32_.kept gw9_12; replace z33_ := z33_.kept gw9_12; have hSw9_12 := (And.intro (hGw9_12.cell Ca10 (by simp)) (And.intro (hGw9_12.cell Ca11 (by simp)) (And.intro (hGw9_12.cell Ca20 (by simp)) (And.intro (hGw9_12.cell Ca21 (by simp)) (And.intro (hGw9_12.cell Ca30 (by simp)) (hGw9_12.cell Ca31 (by simp))))))); clear gw9_12)
      | (go_at_call 25; (with_reducible refine (ZCmp_any w9_12 _ _ A1 B1 8 (ia1.kept hGw9_12) (ia2.kept hGw9_12) (by omega) lA1 lB1).mono ?_); rintro e w9_13 ⟨rfl, gw9_13⟩; rw [HK.out]; have hGw9_13 := grown_trans hGw9_12 gw9_13; replace z29_ := z29_.kept gw9_13; replace z30_ := z30_.kept gw9_13; replace z31_ := z31_.kept gw9_13; replace z32_ := z32_.kept gw9_13; replace z33_ := z33_.kept gw9_13; have hSw9_13 := (And.intro (hGw9_13.cell Ca10 (by simp)) (And.intro (hGw9_13.cell Ca11 (by simp)) (And.intro (hGw9_13.cell Ca20 (by simp)) (And.intro (hGw9_13.cell Ca21 (by simp)) (And.intro (hGw9_13.cell Ca30 (by simp)) (hGw9_13.cell Ca31 (by simp))))))); clear gw9_13)
      | (go_at_call 25; (with_reducible refine (ZCmp_any w9_13 _ _ B1 A1 8 (ia2.kept hGw9_13) (ia1.kept hGw9_13) (by omega) lB1 lA1).mono ?_); rintro e w9_14 ⟨rfl, gw9_14⟩; rw [HK5.out]; have hGw9_14 := grown_trans hGw9_13 gw9_14; replace z29_ := z29_.kept gw9_14; replace z30_ := z30_.kept gw9_14; replace z31_ := z31_.kept gw9_14; replace z32_ := z32_.kept gw9_14; replace z33_ := z33_.kept gw9_14; have hSw9_14 := (And.intro (hGw9_14.cell Ca10 (by simp)) (And.intro (hGw9_14.cell Ca11 (by simp)) (And.intro (hGw9_14.cell Ca20 (by simp)) (And.intro (hGw9_14.cell Ca21 (by simp)) (And.intro (hGw9_14.cell Ca30 (by simp)) (hGw9_14.cell Ca31 (by simp))))))); clear gw9_14))
  replace Ba1 := heap_kept hGw9_14 Ba1
  replace Bx1 := heap_kept hGw9_14 Bx1
  replace Ba2 := heap_kept hGw9_14 Ba2
  replace Bx2 := heap_kept hGw9_14 Bx2
  replace Ba3 := heap_kept hGw9_14 Ba3
  replace Bx3 := heap_kept hGw9_14 Bx3
  replace ia1 := ia1.kept hGw9_14
  replace rx1 := rx1.kept hGw9_14
  replace ia2 := ia2.kept hGw9_14
  replace rx2 := rx2.kept hGw9_14
  replace ia3 := ia3.kept hGw9_14
  replace rx3 := rx3.kept hGw9_14
  replace hG := grown_trans hG hGw9_14
  clear Ca10 Fa10 Ca11 Fa11 Cx10 Fx10 Cx11 Fx11 Ca20 Fa20 Ca21 Fa21 Cx20 Fx20 Cx21 Fx21 Ca30 Fa30 Ca31 Fa31 Cx30 Fx30 Cx31 Fx31
  obtain ⟨Ca10, Ca11, Fa10, Fa11⟩ := box_cells Ba1
  obtain ⟨Cx10, Cx11, Fx10, Fx11⟩ := box_cells Bx1
  obtain ⟨Ca20, Ca21, Fa20, Fa21⟩ := box_cells Ba2
  obtain ⟨Cx20, Cx21, Fx20, Fx21⟩ := box_cells Bx2
  obtain ⟨Ca30, Ca31, Fa30, Fa31⟩ := box_cells Ba3
  obtain ⟨Cx30, Cx31, Fx30, Fx31⟩ := box_cells Bx3
  go_wp2_with fail
  go_ret
  exact ⟨by first | rfl | simp, hG⟩
end Go.Proofs.Ytljfhiikoimdiaa
