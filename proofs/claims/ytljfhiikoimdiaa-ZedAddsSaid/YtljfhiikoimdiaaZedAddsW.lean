/- ZedAdds: sums, differences, the other side and which number is greater are the document's. -/
import Derived.Test.YtljfhiikoimdiaaZLaw
import Derived.Deep.RegionHeld3
namespace Go.Proofs.Ytljfhiikoimdiaa
open Go.RowKit Mat
set_option maxRecDepth 100000
set_option linter.unusedVariables false
set_option linter.unusedSimpArgs false

set_option maxHeartbeats 16000000 in
theorem zedAdds_walk (w : World) (s t : ByteArray) :
    Calls Try.prog 5 #[.string s, .string t] w (fun e w' => e = .returned (.bool true) ∧ w.grownBy w' none) := by
  have hG : w.grownBy w none := grown_refl _ _
  obtain ⟨A1, o1, lA1, p1⟩ := one_val s
  have P1 := Lib.hid p1
  clear p1
  obtain ⟨B1, o2, lB1, p2⟩ := one_val t
  have P2 := Lib.hid p2
  clear p2
  go_enter Try.func5, Try.ntmps5
  go_wp2_with fail
  refine (P1.out w).mono ?_
  rintro e w1 ⟨_, _, rfl, ⟨sa1, xa1, ba1, rfl, ha1, va1, ta1⟩, ⟨gx1, sx1, lx1, cx1, rfl, hx1, mx1⟩, gw1⟩
  have ia1 : IntV w1 (.agg #[.slice sa1 xa1.length xa1.length, .bool ba1]) (A1) := ⟨sa1, xa1, ba1, rfl, ha1, va1, ta1⟩
  have rx1 : RIntV w1 (.agg #[.int .i64 gx1, .slice sx1 lx1 cx1]) (A1) := ⟨gx1, sx1, lx1, cx1, rfl, hx1, mx1⟩
  replace hG := grown_trans hG gw1
  clear gw1
  clear ha1 va1 ta1
  clear mx1
  have gbw1 := (grown_alloc (World.grownBy_alloc w1 (.cells #[.slice sa1 xa1.length xa1.length, .bool ba1] 26) none) (.cells #[.int .i64 gx1, .slice sx1 lx1 cx1] 34))
  have Ba1 := heap_kept (World.grownBy_alloc _ (.cells #[.int .i64 gx1, .slice sx1 lx1 cx1] 34) none) (heap_new w1 (.cells #[.slice sa1 xa1.length xa1.length, .bool ba1] 26) (w1.heap.size) rfl)
  have Bx1 := (heap_new (w1.alloc (.cells #[.slice sa1 xa1.length xa1.length, .bool ba1] 26)) (.cells #[.int .i64 gx1, .slice sx1 lx1 cx1] 34) (w1.heap.size + 1) (by simp))
  have hzw1 : Hid (w.heap.size ≤ w1.heap.size) := Lib.hid hG.size
  replace ia1 := ia1.kept gbw1
  replace rx1 := rx1.kept gbw1
  replace hG := grown_trans hG gbw1
  clear gbw1
  obtain ⟨Ca10, Ca11, Fa10, Fa11⟩ := box_cells Ba1
  obtain ⟨Cx10, Cx11, Fx10, Fx11⟩ := box_cells Bx1
  go_wp2_with fail
  generalize ((w1.alloc (.cells #[.slice sa1 xa1.length xa1.length, .bool ba1] 26)).alloc (.cells #[.int .i64 gx1, .slice sx1 lx1 cx1] 34)) = w2 at *
  generalize w1.heap.size = aw1 at *
  replace hzw1 := hzw1.out
  clear Ca10 Fa10 Ca11 Fa11 Cx10 Fx10 Cx11 Fx11
  refine (P2.out w2).mono ?_
  rintro e w3 ⟨_, _, rfl, ⟨sa2, xa2, ba2, rfl, ha2, va2, ta2⟩, ⟨gx2, sx2, lx2, cx2, rfl, hx2, mx2⟩, gw3⟩
  have ia2 : IntV w3 (.agg #[.slice sa2 xa2.length xa2.length, .bool ba2]) (B1) := ⟨sa2, xa2, ba2, rfl, ha2, va2, ta2⟩
  have rx2 : RIntV w3 (.agg #[.int .i64 gx2, .slice sx2 lx2 cx2]) (B1) := ⟨gx2, sx2, lx2, cx2, rfl, hx2, mx2⟩
  replace Ba1 := heap_kept gw3 Ba1
  replace Bx1 := heap_kept gw3 Bx1
  replace ia1 := ia1.kept gw3
  replace rx1 := rx1.kept gw3
  replace hG := grown_trans hG gw3
  clear gw3
  clear ha2 va2 ta2
  clear mx2
  obtain ⟨Ca10, Ca11, Fa10, Fa11⟩ := box_cells Ba1
  obtain ⟨Cx10, Cx11, Fx10, Fx11⟩ := box_cells Bx1
  have gbw3 := (grown_alloc (World.grownBy_alloc w3 (.cells #[.slice sa2 xa2.length xa2.length, .bool ba2] 26) none) (.cells #[.int .i64 gx2, .slice sx2 lx2 cx2] 34))
  have Ba2 := heap_kept (World.grownBy_alloc _ (.cells #[.int .i64 gx2, .slice sx2 lx2 cx2] 34) none) (heap_new w3 (.cells #[.slice sa2 xa2.length xa2.length, .bool ba2] 26) (w3.heap.size) rfl)
  have Bx2 := (heap_new (w3.alloc (.cells #[.slice sa2 xa2.length xa2.length, .bool ba2] 26)) (.cells #[.int .i64 gx2, .slice sx2 lx2 cx2] 34) (w3.heap.size + 1) (by simp))
  have hzw3 : Hid (w.heap.size ≤ w3.heap.size) := Lib.hid hG.size
  have hla1w3 : Hid (aw1 < w3.heap.size) := Lib.hid (Array.getElem?_eq_some_iff.1 Ba1).1
  have hlx1w3 : Hid (aw1 + 1 < w3.heap.size) := Lib.hid (Array.getElem?_eq_some_iff.1 Bx1).1
  clear Ca10 Fa10 Ca11 Fa11 Cx10 Fx10 Cx11 Fx11
  replace Ba1 := heap_kept gbw3 Ba1
  replace Bx1 := heap_kept gbw3 Bx1
  replace ia1 := ia1.kept gbw3
  replace rx1 := rx1.kept gbw3
  replace ia2 := ia2.kept gbw3
  replace rx2 := rx2.kept gbw3
  replace hG := grown_trans hG gbw3
  clear gbw3
  obtain ⟨Ca10, Ca11, Fa10, Fa11⟩ := box_cells Ba1
  obtain ⟨Cx10, Cx11, Fx10, Fx11⟩ := box_cells Bx1
  obtain ⟨Ca20, Ca21, Fa20, Fa21⟩ := box_cells Ba2
  obtain ⟨Cx20, Cx21, Fx20, Fx21⟩ := box_cells Bx2
  go_wp2_with fail
  cases o1
  · skip
    generalize ((w3.alloc (.cells #[.slice sa2 xa2.length xa2.length, .bool ba2] 26)).alloc (.cells #[.int .i64 gx2, .slice sx2 lx2 cx2] 34)) = w4 at *
    generalize w3.heap.size = aw3 at *
    replace hzw3 := hzw3.out
    replace hla1w3 := hla1w3.out
    replace hlx1w3 := hlx1w3.out
    clear Ca10 Fa10 Ca11 Fa11 Cx10 Fx10 Cx11 Fx11 Ca20 Fa20 Ca21 Fa21 Cx20 Fx20 Cx21 Fx21
    refine (known_any w4).mono ?_
    rintro e o0w5 ⟨rfl, go0w5⟩
    replace Ba1 := heap_kept go0w5 Ba1
    replace Bx1 := heap_kept go0w5 Bx1
    replace Ba2 := heap_kept go0w5 Ba2
    replace Bx2 := heap_kept go0w5 Bx2
    replace ia1 := ia1.kept go0w5
    replace rx1 := rx1.kept go0w5
    replace ia2 := ia2.kept go0w5
    replace rx2 := rx2.kept go0w5
    replace hG := grown_trans hG go0w5
    clear go0w5
    obtain ⟨Ca10, Ca11, Fa10, Fa11⟩ := box_cells Ba1
    obtain ⟨Cx10, Cx11, Fx10, Fx11⟩ := box_cells Bx1
    obtain ⟨Ca20, Ca21, Fa20, Fa21⟩ := box_cells Ba2
    obtain ⟨Cx20, Cx21, Fx20, Fx21⟩ := box_cells Bx2
    go_wp2_with fail
    clear Ca10 Fa10 Ca11 Fa11 Cx10 Fx10 Cx11 Fx11 Ca20 Fa20 Ca21 Fa21 Cx20 Fx20 Cx21 Fx21
    refine (known_any o0w5).mono ?_
    rintro e o0w6 ⟨rfl, go0w6⟩
    replace Ba1 := heap_kept go0w6 Ba1
    replace Bx1 := heap_kept go0w6 Bx1
    replace Ba2 := heap_kept go0w6 Ba2
    replace Bx2 := heap_kept go0w6 Bx2
    replace ia1 := ia1.kept go0w6
    replace rx1 := rx1.kept go0w6
    replace ia2 := ia2.kept go0w6
    replace rx2 := rx2.kept go0w6
    replace hG := grown_trans hG go0w6
    clear go0w6
    obtain ⟨Ca10, Ca11, Fa10, Fa11⟩ := box_cells Ba1
    obtain ⟨Cx10, Cx11, Fx10, Fx11⟩ := box_cells Bx1
    obtain ⟨Ca20, Ca21, Fa20, Fa21⟩ := box_cells Ba2
    obtain ⟨Cx20, Cx21, Fx20, Fx21⟩ := box_cells Bx2
    go_wp2_with fail
    clear Ca10 Fa10 Ca11 Fa11 Cx10 Fx10 Cx11 Fx11 Ca20 Fa20 Ca21 Fa21 Cx20 Fx20 Cx21 Fx21
    refine (apart_any o0w6 s).mono ?_
    rintro e o0w7 ⟨rfl, go0w7⟩
    replace Ba1 := heap_kept go0w7 Ba1
    replace Bx1 := heap_kept go0w7 Bx1
    replace Ba2 := heap_kept go0w7 Ba2
    replace Bx2 := heap_kept go0w7 Bx2
    replace ia1 := ia1.kept go0w7
    replace rx1 := rx1.kept go0w7
    replace ia2 := ia2.kept go0w7
    replace rx2 := rx2.kept go0w7
    replace hG := grown_trans hG go0w7
    clear go0w7
    obtain ⟨Ca10, Ca11, Fa10, Fa11⟩ := box_cells Ba1
    obtain ⟨Cx10, Cx11, Fx10, Fx11⟩ := box_cells Bx1
    obtain ⟨Ca20, Ca21, Fa20, Fa21⟩ := box_cells Ba2
    obtain ⟨Cx20, Cx21, Fx20, Fx21⟩ := box_cells Bx2
    go_wp2_with fail
    clear Ca10 Fa10 Ca11 Fa11 Cx10 Fx10 Cx11 Fx11 Ca20 Fa20 Ca21 Fa21 Cx20 Fx20 Cx21 Fx21
    refine (apart_any o0w7 t).mono ?_
    rintro e o0w8 ⟨rfl, go0w8⟩
    replace Ba1 := heap_kept go0w8 Ba1
    replace Bx1 := heap_kept go0w8 Bx1
    replace Ba2 := heap_kept go0w8 Ba2
    replace Bx2 := heap_kept go0w8 Bx2
    replace ia1 := ia1.kept go0w8
    replace rx1 := rx1.kept go0w8
    replace ia2 := ia2.kept go0w8
    replace rx2 := rx2.kept go0w8
    replace hG := grown_trans hG go0w8
    clear go0w8
    obtain ⟨Ca10, Ca11, Fa10, Fa11⟩ := box_cells Ba1
    obtain ⟨Cx10, Cx11, Fx10, Fx11⟩ := box_cells Bx1
    obtain ⟨Ca20, Ca21, Fa20, Fa21⟩ := box_cells Ba2
    obtain ⟨Cx20, Cx21, Fx20, Fx21⟩ := box_cells Bx2
    go_wp2_with fail
    go_ret
    exact ⟨by first | rfl | simp, hG⟩
  cases o2
  · skip
    generalize ((w3.alloc (.cells #[.slice sa2 xa2.length xa2.length, .bool ba2] 26)).alloc (.cells #[.int .i64 gx2, .slice sx2 lx2 cx2] 34)) = w4 at *
    generalize w3.heap.size = aw3 at *
    replace hzw3 := hzw3.out
    replace hla1w3 := hla1w3.out
    replace hlx1w3 := hlx1w3.out
    clear Ca10 Fa10 Ca11 Fa11 Cx10 Fx10 Cx11 Fx11 Ca20 Fa20 Ca21 Fa21 Cx20 Fx20 Cx21 Fx21
    refine (known_any w4).mono ?_
    rintro e o1w5 ⟨rfl, go1w5⟩
    replace Ba1 := heap_kept go1w5 Ba1
    replace Bx1 := heap_kept go1w5 Bx1
    replace Ba2 := heap_kept go1w5 Ba2
    replace Bx2 := heap_kept go1w5 Bx2
    replace ia1 := ia1.kept go1w5
    replace rx1 := rx1.kept go1w5
    replace ia2 := ia2.kept go1w5
    replace rx2 := rx2.kept go1w5
    replace hG := grown_trans hG go1w5
    clear go1w5
    obtain ⟨Ca10, Ca11, Fa10, Fa11⟩ := box_cells Ba1
    obtain ⟨Cx10, Cx11, Fx10, Fx11⟩ := box_cells Bx1
    obtain ⟨Ca20, Ca21, Fa20, Fa21⟩ := box_cells Ba2
    obtain ⟨Cx20, Cx21, Fx20, Fx21⟩ := box_cells Bx2
    go_wp2_with fail
    clear Ca10 Fa10 Ca11 Fa11 Cx10 Fx10 Cx11 Fx11 Ca20 Fa20 Ca21 Fa21 Cx20 Fx20 Cx21 Fx21
    refine (known_any o1w5).mono ?_
    rintro e o1w6 ⟨rfl, go1w6⟩
    replace Ba1 := heap_kept go1w6 Ba1
    replace Bx1 := heap_kept go1w6 Bx1
    replace Ba2 := heap_kept go1w6 Ba2
    replace Bx2 := heap_kept go1w6 Bx2
    replace ia1 := ia1.kept go1w6
    replace rx1 := rx1.kept go1w6
    replace ia2 := ia2.kept go1w6
    replace rx2 := rx2.kept go1w6
    replace hG := grown_trans hG go1w6
    clear go1w6
    obtain ⟨Ca10, Ca11, Fa10, Fa11⟩ := box_cells Ba1
    obtain ⟨Cx10, Cx11, Fx10, Fx11⟩ := box_cells Bx1
    obtain ⟨Ca20, Ca21, Fa20, Fa21⟩ := box_cells Ba2
    obtain ⟨Cx20, Cx21, Fx20, Fx21⟩ := box_cells Bx2
    go_wp2_with fail
    clear Ca10 Fa10 Ca11 Fa11 Cx10 Fx10 Cx11 Fx11 Ca20 Fa20 Ca21 Fa21 Cx20 Fx20 Cx21 Fx21
    refine (apart_any o1w6 s).mono ?_
    rintro e o1w7 ⟨rfl, go1w7⟩
    replace Ba1 := heap_kept go1w7 Ba1
    replace Bx1 := heap_kept go1w7 Bx1
    replace Ba2 := heap_kept go1w7 Ba2
    replace Bx2 := heap_kept go1w7 Bx2
    replace ia1 := ia1.kept go1w7
    replace rx1 := rx1.kept go1w7
    replace ia2 := ia2.kept go1w7
    replace rx2 := rx2.kept go1w7
    replace hG := grown_trans hG go1w7
    clear go1w7
    obtain ⟨Ca10, Ca11, Fa10, Fa11⟩ := box_cells Ba1
    obtain ⟨Cx10, Cx11, Fx10, Fx11⟩ := box_cells Bx1
    obtain ⟨Ca20, Ca21, Fa20, Fa21⟩ := box_cells Ba2
    obtain ⟨Cx20, Cx21, Fx20, Fx21⟩ := box_cells Bx2
    go_wp2_with fail
    clear Ca10 Fa10 Ca11 Fa11 Cx10 Fx10 Cx11 Fx11 Ca20 Fa20 Ca21 Fa21 Cx20 Fx20 Cx21 Fx21
    refine (apart_any o1w7 t).mono ?_
    rintro e o1w8 ⟨rfl, go1w8⟩
    replace Ba1 := heap_kept go1w8 Ba1
    replace Bx1 := heap_kept go1w8 Bx1
    replace Ba2 := heap_kept go1w8 Ba2
    replace Bx2 := heap_kept go1w8 Bx2
    replace ia1 := ia1.kept go1w8
    replace rx1 := rx1.kept go1w8
    replace ia2 := ia2.kept go1w8
    replace rx2 := rx2.kept go1w8
    replace hG := grown_trans hG go1w8
    clear go1w8
    obtain ⟨Ca10, Ca11, Fa10, Fa11⟩ := box_cells Ba1
    obtain ⟨Cx10, Cx11, Fx10, Fx11⟩ := box_cells Bx1
    obtain ⟨Ca20, Ca21, Fa20, Fa21⟩ := box_cells Ba2
    obtain ⟨Cx20, Cx21, Fx20, Fx21⟩ := box_cells Bx2
    go_wp2_with fail
    go_ret
    exact ⟨by first | rfl | simp, hG⟩
  generalize ((w3.alloc (.cells #[.slice sa2 xa2.length xa2.length, .bool ba2] 26)).alloc (.cells #[.int .i64 gx2, .slice sx2 lx2 cx2] 34)) = w4 at *
  generalize w3.heap.size = aw3 at *
  replace hzw3 := hzw3.out
  replace hla1w3 := hla1w3.out
  replace hlx1w3 := hlx1w3.out
  clear Ca10 Fa10 Ca11 Fa11 Cx10 Fx10 Cx11 Fx11 Ca20 Fa20 Ca21 Fa21 Cx20 Fx20 Cx21 Fx21
  refine (known_any w4).mono ?_
  rintro e w5 ⟨rfl, gw5⟩
  replace Ba1 := heap_kept gw5 Ba1
  replace Bx1 := heap_kept gw5 Bx1
  replace Ba2 := heap_kept gw5 Ba2
  replace Bx2 := heap_kept gw5 Bx2
  replace ia1 := ia1.kept gw5
  replace rx1 := rx1.kept gw5
  replace ia2 := ia2.kept gw5
  replace rx2 := rx2.kept gw5
  replace hG := grown_trans hG gw5
  clear gw5
  obtain ⟨Ca10, Ca11, Fa10, Fa11⟩ := box_cells Ba1
  obtain ⟨Cx10, Cx11, Fx10, Fx11⟩ := box_cells Bx1
  obtain ⟨Ca20, Ca21, Fa20, Fa21⟩ := box_cells Ba2
  obtain ⟨Cx20, Cx21, Fx20, Fx21⟩ := box_cells Bx2
  go_wp2_with fail
  obtain ⟨k, hk⟩ : ∃ k, zcmp A1 B1 = k := ⟨_, rfl⟩
  have HK := Lib.hid hk
  clear hk
  go_region_held3 (fun w' => w'.cell? ⟨aw1, 0, none⟩ = some (.slice sa1 xa1.length xa1.length) ∧ w'.cell? ⟨aw1, 1, none⟩ = some (.bool ba1) ∧ w'.cell? ⟨aw1 + 1, 0, none⟩ = some (.int .i64 gx1) ∧ w'.cell? ⟨aw1 + 1, 1, none⟩ = some (.slice sx1 lx1 cx1) ∧ w'.cell? ⟨aw3, 0, none⟩ = some (.slice sa2 xa2.length xa2.length) ∧ w'.cell? ⟨aw3, 1, none⟩ = some (.bool ba2) ∧ w'.cell? ⟨aw3 + 1, 0, none⟩ = some (.int .i64 gx2) ∧ w'.cell? ⟨aw3 + 1, 1, none⟩ = some (.slice sx2 lx2 cx2))
    (first | assumption | exact ⟨Ca10, Ca11, Cx10, Cx11, Ca20, Ca21, Cx20, Cx21⟩ | go_keep)
    (first
      | (go_at_call 29; (with_reducible refine (ZAdd_any w5.drew _ _ A1 B1 8 (ia1.kept (grown_drew (grown_refl _ _))) (ia2.kept (grown_drew (grown_refl _ _))) (by omega) lA1 lB1).mono ?_); rintro e w6_1 ⟨vz3_, rfl, z3_, gw6_1⟩; have hGw6_1 := grown_pre w5 gw6_1 rfl rfl rfl rfl; have hSw6_1 := (And.intro (hGw6_1.cell Ca10 (by simp)) (And.intro (hGw6_1.cell Ca11 (by simp)) (And.intro (hGw6_1.cell Cx10 (by simp)) (And.intro (hGw6_1.cell Cx11 (by simp)) (And.intro (hGw6_1.cell Ca20 (by simp)) (And.intro (hGw6_1.cell Ca21 (by simp)) (And.intro (hGw6_1.cell Cx20 (by simp)) (hGw6_1.cell Cx21 (by simp))))))))); clear gw6_1)
      | (go_at_call 30; (with_reducible refine (rZAdd_any w6_1 _ _ A1 B1 (rx1.kept hGw6_1) (rx2.kept hGw6_1) (toD lA1 (by omega)) (toD lB1 (by omega))).mono ?_); rintro e w6_2 ⟨vr4_, rfl, r4_, gw6_2⟩; have hGw6_2 := grown_trans hGw6_1 gw6_2; replace z3_ := z3_.kept gw6_2; have hSw6_2 := (And.intro (hGw6_2.cell Ca10 (by simp)) (And.intro (hGw6_2.cell Ca11 (by simp)) (And.intro (hGw6_2.cell Cx10 (by simp)) (And.intro (hGw6_2.cell Cx11 (by simp)) (And.intro (hGw6_2.cell Ca20 (by simp)) (And.intro (hGw6_2.cell Ca21 (by simp)) (And.intro (hGw6_2.cell Cx20 (by simp)) (hGw6_2.cell Cx21 (by simp))))))))); clear gw6_2)
      | (go_at_call 18; (with_reducible refine (same_any w6_2 _ _ (A1 + B1) 9 z3_ r4_ (by omega) (zadd_bd (k := 8) lA1 lB1)).mono ?_); rintro e w6_3 ⟨rfl, gw6_3⟩; have hGw6_3 := grown_trans hGw6_2 gw6_3; replace z3_ := z3_.kept gw6_3; replace r4_ := r4_.kept gw6_3; have hSw6_3 := (And.intro (hGw6_3.cell Ca10 (by simp)) (And.intro (hGw6_3.cell Ca11 (by simp)) (And.intro (hGw6_3.cell Cx10 (by simp)) (And.intro (hGw6_3.cell Cx11 (by simp)) (And.intro (hGw6_3.cell Ca20 (by simp)) (And.intro (hGw6_3.cell Ca21 (by simp)) (And.intro (hGw6_3.cell Cx20 (by simp)) (hGw6_3.cell Cx21 (by simp))))))))); clear gw6_3)
      | (go_at_call 31; (with_reducible refine (ZSub_any w6_3 _ _ A1 B1 8 (ia1.kept hGw6_3) (ia2.kept hGw6_3) (by omega) lA1 lB1).mono ?_); rintro e w6_4 ⟨vz5_, rfl, z5_, gw6_4⟩; have hGw6_4 := grown_trans hGw6_3 gw6_4; replace z3_ := z3_.kept gw6_4; replace r4_ := r4_.kept gw6_4; have hSw6_4 := (And.intro (hGw6_4.cell Ca10 (by simp)) (And.intro (hGw6_4.cell Ca11 (by simp)) (And.intro (hGw6_4.cell Cx10 (by simp)) (And.intro (hGw6_4.cell Cx11 (by simp)) (And.intro (hGw6_4.cell Ca20 (by simp)) (And.intro (hGw6_4.cell Ca21 (by simp)) (And.intro (hGw6_4.cell Cx20 (by simp)) (hGw6_4.cell Cx21 (by simp))))))))); clear gw6_4)
      | (go_at_call 32; (with_reducible refine (rZSub_any w6_4 _ _ A1 B1 (rx1.kept hGw6_4) (rx2.kept hGw6_4) (toD lA1 (by omega)) (toD lB1 (by omega))).mono ?_); rintro e w6_5 ⟨vr6_, rfl, r6_, gw6_5⟩; have hGw6_5 := grown_trans hGw6_4 gw6_5; replace z3_ := z3_.kept gw6_5; replace r4_ := r4_.kept gw6_5; replace z5_ := z5_.kept gw6_5; have hSw6_5 := (And.intro (hGw6_5.cell Ca10 (by simp)) (And.intro (hGw6_5.cell Ca11 (by simp)) (And.intro (hGw6_5.cell Cx10 (by simp)) (And.intro (hGw6_5.cell Cx11 (by simp)) (And.intro (hGw6_5.cell Ca20 (by simp)) (And.intro (hGw6_5.cell Ca21 (by simp)) (And.intro (hGw6_5.cell Cx20 (by simp)) (hGw6_5.cell Cx21 (by simp))))))))); clear gw6_5)
      | (go_at_call 18; (with_reducible refine (same_any w6_5 _ _ (A1 - B1) 9 z5_ r6_ (by omega) (zsub_bd (k := 8) lA1 lB1)).mono ?_); rintro e w6_6 ⟨rfl, gw6_6⟩; have hGw6_6 := grown_trans hGw6_5 gw6_6; replace z3_ := z3_.kept gw6_6; replace r4_ := r4_.kept gw6_6; replace z5_ := z5_.kept gw6_6; replace r6_ := r6_.kept gw6_6; have hSw6_6 := (And.intro (hGw6_6.cell Ca10 (by simp)) (And.intro (hGw6_6.cell Ca11 (by simp)) (And.intro (hGw6_6.cell Cx10 (by simp)) (And.intro (hGw6_6.cell Cx11 (by simp)) (And.intro (hGw6_6.cell Ca20 (by simp)) (And.intro (hGw6_6.cell Ca21 (by simp)) (And.intro (hGw6_6.cell Cx20 (by simp)) (hGw6_6.cell Cx21 (by simp))))))))); clear gw6_6)
      | (go_at_call 33; (with_reducible refine (ZNeg_any w6_6 _ A1 8 (ia1.kept hGw6_6) (by omega) lA1).mono ?_); rintro e w6_7 ⟨vz7_, rfl, z7_, gw6_7⟩; have hGw6_7 := grown_trans hGw6_6 gw6_7; replace z3_ := z3_.kept gw6_7; replace r4_ := r4_.kept gw6_7; replace z5_ := z5_.kept gw6_7; replace r6_ := r6_.kept gw6_7; have hSw6_7 := (And.intro (hGw6_7.cell Ca10 (by simp)) (And.intro (hGw6_7.cell Ca11 (by simp)) (And.intro (hGw6_7.cell Cx10 (by simp)) (And.intro (hGw6_7.cell Cx11 (by simp)) (And.intro (hGw6_7.cell Ca20 (by simp)) (And.intro (hGw6_7.cell Ca21 (by simp)) (And.intro (hGw6_7.cell Cx20 (by simp)) (hGw6_7.cell Cx21 (by simp))))))))); clear gw6_7)
      | (go_at_call 34; (with_reducible refine (rNeg_any w6_7 _ A1 (rx1.kept hGw6_7)).mono ?_); rintro e w6_8 ⟨vr8_, rfl, r8_, gw6_8⟩; have hGw6_8 := grown_trans hGw6_7 gw6_8; replace z3_ := z3_.kept gw6_8; replace r4_ := r4_.kept gw6_8; replace z5_ := z5_.kept gw6_8; replace r6_ := r6_.kept gw6_8; replace z7_ := z7_.kept gw6_8; have hSw6_8 := (And.intro (hGw6_8.cell Ca10 (by simp)) (And.intro (hGw6_8.cell Ca11 (by simp)) (And.intro (hGw6_8.cell Cx10 (by simp)) (And.intro (hGw6_8.cell Cx11 (by simp)) (And.intro (hGw6_8.cell Ca20 (by simp)) (And.intro (hGw6_8.cell Ca21 (by simp)) (And.intro (hGw6_8.cell Cx20 (by simp)) (hGw6_8.cell Cx21 (by simp))))))))); clear gw6_8)
      | (go_at_call 18; (with_reducible refine (same_any w6_8 _ _ (-A1) 8 z7_ r8_ (by omega) (zneg_bd lA1)).mono ?_); rintro e w6_9 ⟨rfl, gw6_9⟩; have hGw6_9 := grown_trans hGw6_8 gw6_9; replace z3_ := z3_.kept gw6_9; replace r4_ := r4_.kept gw6_9; replace z5_ := z5_.kept gw6_9; replace r6_ := r6_.kept gw6_9; replace z7_ := z7_.kept gw6_9; replace r8_ := r8_.kept gw6_9; have hSw6_9 := (And.intro (hGw6_9.cell Ca10 (by simp)) (And.intro (hGw6_9.cell Ca11 (by simp)) (And.intro (hGw6_9.cell Cx10 (by simp)) (And.intro (hGw6_9.cell Cx11 (by simp)) (And.intro (hGw6_9.cell Ca20 (by simp)) (And.intro (hGw6_9.cell Ca21 (by simp)) (And.intro (hGw6_9.cell Cx20 (by simp)) (hGw6_9.cell Cx21 (by simp))))))))); clear gw6_9)
      | (go_at_call 25; (with_reducible refine (ZCmp_any w6_9 _ _ A1 B1 8 (ia1.kept hGw6_9) (ia2.kept hGw6_9) (by omega) lA1 lB1).mono ?_); rintro e w6_10 ⟨rfl, gw6_10⟩; rw [HK.out]; have hGw6_10 := grown_trans hGw6_9 gw6_10; replace z3_ := z3_.kept gw6_10; replace r4_ := r4_.kept gw6_10; replace z5_ := z5_.kept gw6_10; replace r6_ := r6_.kept gw6_10; replace z7_ := z7_.kept gw6_10; replace r8_ := r8_.kept gw6_10; have hSw6_10 := (And.intro (hGw6_10.cell Ca10 (by simp)) (And.intro (hGw6_10.cell Ca11 (by simp)) (And.intro (hGw6_10.cell Cx10 (by simp)) (And.intro (hGw6_10.cell Cx11 (by simp)) (And.intro (hGw6_10.cell Ca20 (by simp)) (And.intro (hGw6_10.cell Ca21 (by simp)) (And.intro (hGw6_10.cell Cx20 (by simp)) (hGw6_10.cell Cx21 (by simp))))))))); clear gw6_10)
      | (go_at_call 35; (with_reducible refine (rZCmp_any w6_10 _ _ A1 B1 (rx1.kept hGw6_10) (rx2.kept hGw6_10) (toD lA1 (by omega)) (toD lB1 (by omega))).mono ?_); rintro e w6_11 ⟨rfl, gw6_11⟩; rw [HK.out]; have hGw6_11 := grown_trans hGw6_10 gw6_11; replace z3_ := z3_.kept gw6_11; replace r4_ := r4_.kept gw6_11; replace z5_ := z5_.kept gw6_11; replace r6_ := r6_.kept gw6_11; replace z7_ := z7_.kept gw6_11; replace r8_ := r8_.kept gw6_11; have hSw6_11 := (And.intro (hGw6_11.cell Ca10 (by simp)) (And.intro (hGw6_11.cell Ca11 (by simp)) (And.intro (hGw6_11.cell Cx10 (by simp)) (And.intro (hGw6_11.cell Cx11 (by simp)) (And.intro (hGw6_11.cell Ca20 (by simp)) (And.intro (hGw6_11.cell Ca21 (by simp)) (And.intro (hGw6_11.cell Cx20 (by simp)) (hGw6_11.cell Cx21 (by simp))))))))); clear gw6_11))
  replace Ba1 := heap_kept hGw6_11 Ba1
  replace Bx1 := heap_kept hGw6_11 Bx1
  replace Ba2 := heap_kept hGw6_11 Ba2
  replace Bx2 := heap_kept hGw6_11 Bx2
  replace ia1 := ia1.kept hGw6_11
  replace rx1 := rx1.kept hGw6_11
  replace ia2 := ia2.kept hGw6_11
  replace rx2 := rx2.kept hGw6_11
  replace hG := grown_trans hG hGw6_11
  clear Ca10 Fa10 Ca11 Fa11 Cx10 Fx10 Cx11 Fx11 Ca20 Fa20 Ca21 Fa21 Cx20 Fx20 Cx21 Fx21
  obtain ⟨Ca10, Ca11, Fa10, Fa11⟩ := box_cells Ba1
  obtain ⟨Cx10, Cx11, Fx10, Fx11⟩ := box_cells Bx1
  obtain ⟨Ca20, Ca21, Fa20, Fa21⟩ := box_cells Ba2
  obtain ⟨Cx20, Cx21, Fx20, Fx21⟩ := box_cells Bx2
  go_wp2_with fail
  go_ret
  exact ⟨by first | rfl | simp, hG⟩
end Go.Proofs.Ytljfhiikoimdiaa
