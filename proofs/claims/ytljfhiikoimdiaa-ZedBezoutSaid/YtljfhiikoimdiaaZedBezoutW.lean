/- ZedBezout: what divides two numbers is made of both, of small ones. -/
import Derived.Test.YtljfhiikoimdiaaZBez
import Derived.Test.YtljfhiikoimdiaaRefGcd
import Derived.Test.YtljfhiikoimdiaaRefDiv
import Derived.Deep.RegionHeld3
import Derived.Deep.DeepCutAuto
namespace Go.Proofs.Ytljfhiikoimdiaa
open Go.RowKit Mat
set_option maxRecDepth 100000
set_option linter.unusedVariables false
set_option linter.unusedSimpArgs false

theorem zgcd_bd {a b k : Nat} (ha : a < B ^ k) (hb : b < B ^ k) : Nat.gcd a b < B ^ k := by
  rcases Nat.eq_zero_or_pos b with h | h
  · subst h; rw [Nat.gcd_zero_right]; exact ha
  · exact Nat.lt_of_le_of_lt (Nat.gcd_le_right _ h) hb
theorem zcmp_one (m : Nat) : zcmp (m : Int) 1 ≤ 0 ↔ m ≤ 1 := by
  unfold zcmp
  split
  · constructor <;> intro _ <;> omega
  · split
    · constructor <;> intro _ <;> omega
    · constructor <;> intro _ <;> omega
theorem ncmp_le (a b : Nat) : cmpInt a b ≤ 0 ↔ a ≤ b := by
  rcases Nat.lt_trichotomy a b with h | h | h
  · rw [cmpInt_lt h]; constructor <;> intro _ <;> omega
  · rw [cmpInt_eq h]; constructor <;> intro _ <;> omega
  · rw [cmpInt_gt h]; constructor <;> intro _ <;> omega
theorem refv_of {w : World} {g : Int} {s : Option Addr} {l c : Nat} {z : Int} (h : RIntV w (.agg #[.int .i64 g, .slice s l c]) z) : RefV w (.agg #[.slice s l c]) z.natAbs := by
  obtain ⟨g', s', l', c', e, h1, h2⟩ := h
  cases e
  exact h2
theorem RGcd_any (w : World) (va vb : Value) (a b : Nat) (ha : RefV w va a) (hb : RefV w vb b) (ba : a < D ^ 400000) (bb : b < D ^ 400000) :
    Calls Try.prog 45 #[va, vb] w (RetRef w (Nat.gcd a b)) := rGcd_any w va vb a b ha hb ba bb
theorem Big_one (w : World) (va : Value) (ha : NatV w va 1) : Calls Try.prog 24 #[va] w (RetInt w 1) := Big_any w va 1 1 ha (by omega) (by decide)
set_option maxHeartbeats 16000000 in
theorem zedBezout_walk (w : World) (s t : ByteArray) :
    Calls Try.prog 9 #[.string s, .string t] w (fun e w' => e = .returned (.bool true) ∧ w.grownBy w' none) := by
  have hG : w.grownBy w none := grown_refl _ _
  go_enter Try.func9, Try.ntmps9
  go_upto_if 18 with fail
  go_cut [0] (fun a wx => ∃ p : ByteArray, a = .string p ∧ w = wx)
  case first =>
    go_wp2_with fail
    all_goals go_meet
    all_goals exact ⟨_, rfl, rfl⟩
  case rest =>
    obtain ⟨ps, rfl, rfl⟩ := hcut
    go_upto_if 23 with fail
    go_cut [1] (fun a wx => ∃ p : ByteArray, a = .string p ∧ w = wx)
    case first =>
      go_wp2_with fail
      all_goals go_meet
      all_goals exact ⟨_, rfl, rfl⟩
    case rest =>
      obtain ⟨pt, rfl, rfl⟩ := hcut
      obtain ⟨A1, o1, lA1, p1⟩ := one_val ps
      have P1 := Lib.hid p1
      clear p1
      obtain ⟨B1, o2, lB1, p2⟩ := one_val pt
      have P2 := Lib.hid p2
      clear p2
      go_wp2_with fail
      refine (P1.out w).mono ?_
      rintro e w1 ⟨_, _, rfl, ⟨sa1, xa1, ba1, rfl, ha1, va1, ta1⟩, ⟨gx1, sx1, lx1, cx1, rfl, hx1, mx1⟩, gw1⟩
      have ia1 : IntV w1 (.agg #[.slice sa1 xa1.length xa1.length, .bool ba1]) (A1) := ⟨sa1, xa1, ba1, rfl, ha1, va1, ta1⟩
      have rx1 : RIntV w1 (.agg #[.int .i64 gx1, .slice sx1 lx1 cx1]) (A1) := ⟨gx1, sx1, lx1, cx1, rfl, hx1, mx1⟩
      replace hG := grown_trans hG gw1
      clear gw1
      clear ha1 va1 ta1
      clear mx1
      have gbw1 := (grown_alloc (World.grownBy_alloc w1 (.cells #[.slice sa1 xa1.length xa1.length, .bool ba1] 26) none) (.cells #[.int .i64 gx1, .slice sx1 lx1 cx1] 34))
      have Ba1 := heap_kept (World.grownBy_alloc _ (.cells #[.int .i64 gx1, .slice sx1 lx1 cx1] 34) none) (heap_new w1 (.cells #[.slice sa1 xa1.length xa1.length, .bool ba1] 26) (w1.heap.size) rfl)
      have Bx1 := (heap_new (w1.alloc (.cells #[.slice sa1 xa1.length xa1.length, .bool ba1] 26)) (.cells #[.int .i64 gx1, .slice sx1 lx1 cx1] 34) (w1.heap.size + 1) (by simp))
      have hzw1 : Hid (w.heap.size ≤ w1.heap.size) := Lib.hid hG.size
      replace ia1 := ia1.kept gbw1
      replace rx1 := rx1.kept gbw1
      replace hG := grown_trans hG gbw1
      clear gbw1
      obtain ⟨Ca10, Ca11, Fa10, Fa11⟩ := box_cells Ba1
      obtain ⟨Cx10, Cx11, Fx10, Fx11⟩ := box_cells Bx1
      go_wp2_with fail
      generalize ((w1.alloc (.cells #[.slice sa1 xa1.length xa1.length, .bool ba1] 26)).alloc (.cells #[.int .i64 gx1, .slice sx1 lx1 cx1] 34)) = w2 at *
      generalize w1.heap.size = aw1 at *
      replace hzw1 := hzw1.out
      clear Ca10 Fa10 Ca11 Fa11 Cx10 Fx10 Cx11 Fx11
      refine (P2.out w2).mono ?_
      rintro e w3 ⟨_, _, rfl, ⟨sa2, xa2, ba2, rfl, ha2, va2, ta2⟩, ⟨gx2, sx2, lx2, cx2, rfl, hx2, mx2⟩, gw3⟩
      have ia2 : IntV w3 (.agg #[.slice sa2 xa2.length xa2.length, .bool ba2]) (B1) := ⟨sa2, xa2, ba2, rfl, ha2, va2, ta2⟩
      have rx2 : RIntV w3 (.agg #[.int .i64 gx2, .slice sx2 lx2 cx2]) (B1) := ⟨gx2, sx2, lx2, cx2, rfl, hx2, mx2⟩
      replace Ba1 := heap_kept gw3 Ba1
      replace Bx1 := heap_kept gw3 Bx1
      replace ia1 := ia1.kept gw3
      replace rx1 := rx1.kept gw3
      replace hG := grown_trans hG gw3
      clear gw3
      clear ha2 va2 ta2
      clear mx2
      obtain ⟨Ca10, Ca11, Fa10, Fa11⟩ := box_cells Ba1
      obtain ⟨Cx10, Cx11, Fx10, Fx11⟩ := box_cells Bx1
      have gbw3 := (grown_alloc (World.grownBy_alloc w3 (.cells #[.slice sa2 xa2.length xa2.length, .bool ba2] 26) none) (.cells #[.int .i64 gx2, .slice sx2 lx2 cx2] 34))
      have Ba2 := heap_kept (World.grownBy_alloc _ (.cells #[.int .i64 gx2, .slice sx2 lx2 cx2] 34) none) (heap_new w3 (.cells #[.slice sa2 xa2.length xa2.length, .bool ba2] 26) (w3.heap.size) rfl)
      have Bx2 := (heap_new (w3.alloc (.cells #[.slice sa2 xa2.length xa2.length, .bool ba2] 26)) (.cells #[.int .i64 gx2, .slice sx2 lx2 cx2] 34) (w3.heap.size + 1) (by simp))
      have hzw3 : Hid (w.heap.size ≤ w3.heap.size) := Lib.hid hG.size
      have hla1w3 : Hid (aw1 < w3.heap.size) := Lib.hid (Array.getElem?_eq_some_iff.1 Ba1).1
      have hlx1w3 : Hid (aw1 + 1 < w3.heap.size) := Lib.hid (Array.getElem?_eq_some_iff.1 Bx1).1
      clear Ca10 Fa10 Ca11 Fa11 Cx10 Fx10 Cx11 Fx11
      replace Ba1 := heap_kept gbw3 Ba1
      replace Bx1 := heap_kept gbw3 Bx1
      replace ia1 := ia1.kept gbw3
      replace rx1 := rx1.kept gbw3
      replace ia2 := ia2.kept gbw3
      replace rx2 := rx2.kept gbw3
      replace hG := grown_trans hG gbw3
      clear gbw3
      obtain ⟨Ca10, Ca11, Fa10, Fa11⟩ := box_cells Ba1
      obtain ⟨Cx10, Cx11, Fx10, Fx11⟩ := box_cells Bx1
      obtain ⟨Ca20, Ca21, Fa20, Fa21⟩ := box_cells Ba2
      obtain ⟨Cx20, Cx21, Fx20, Fx21⟩ := box_cells Bx2
      go_wp2_with fail
      cases o1
      · skip
        generalize ((w3.alloc (.cells #[.slice sa2 xa2.length xa2.length, .bool ba2] 26)).alloc (.cells #[.int .i64 gx2, .slice sx2 lx2 cx2] 34)) = w4 at *
        generalize w3.heap.size = aw3 at *
        replace hzw3 := hzw3.out
        replace hla1w3 := hla1w3.out
        replace hlx1w3 := hlx1w3.out
        clear Ca10 Fa10 Ca11 Fa11 Cx10 Fx10 Cx11 Fx11 Ca20 Fa20 Ca21 Fa21 Cx20 Fx20 Cx21 Fx21
        refine (known_any w4).mono ?_
        rintro e o0w5 ⟨rfl, go0w5⟩
        replace Ba1 := heap_kept go0w5 Ba1
        replace Bx1 := heap_kept go0w5 Bx1
        replace Ba2 := heap_kept go0w5 Ba2
        replace Bx2 := heap_kept go0w5 Bx2
        replace ia1 := ia1.kept go0w5
        replace rx1 := rx1.kept go0w5
        replace ia2 := ia2.kept go0w5
        replace rx2 := rx2.kept go0w5
        replace hG := grown_trans hG go0w5
        clear go0w5
        obtain ⟨Ca10, Ca11, Fa10, Fa11⟩ := box_cells Ba1
        obtain ⟨Cx10, Cx11, Fx10, Fx11⟩ := box_cells Bx1
        obtain ⟨Ca20, Ca21, Fa20, Fa21⟩ := box_cells Ba2
        obtain ⟨Cx20, Cx21, Fx20, Fx21⟩ := box_cells Bx2
        go_wp2_with fail
        clear Ca10 Fa10 Ca11 Fa11 Cx10 Fx10 Cx11 Fx11 Ca20 Fa20 Ca21 Fa21 Cx20 Fx20 Cx21 Fx21
        refine (known_any o0w5).mono ?_
        rintro e o0w6 ⟨rfl, go0w6⟩
        replace Ba1 := heap_kept go0w6 Ba1
        replace Bx1 := heap_kept go0w6 Bx1
        replace Ba2 := heap_kept go0w6 Ba2
        replace Bx2 := heap_kept go0w6 Bx2
        replace ia1 := ia1.kept go0w6
        replace rx1 := rx1.kept go0w6
        replace ia2 := ia2.kept go0w6
        replace rx2 := rx2.kept go0w6
        replace hG := grown_trans hG go0w6
        clear go0w6
        obtain ⟨Ca10, Ca11, Fa10, Fa11⟩ := box_cells Ba1
        obtain ⟨Cx10, Cx11, Fx10, Fx11⟩ := box_cells Bx1
        obtain ⟨Ca20, Ca21, Fa20, Fa21⟩ := box_cells Ba2
        obtain ⟨Cx20, Cx21, Fx20, Fx21⟩ := box_cells Bx2
        go_wp2_with fail
        clear Ca10 Fa10 Ca11 Fa11 Cx10 Fx10 Cx11 Fx11 Ca20 Fa20 Ca21 Fa21 Cx20 Fx20 Cx21 Fx21
        refine (apart_any o0w6 ps).mono ?_
        rintro e o0w7 ⟨rfl, go0w7⟩
        replace Ba1 := heap_kept go0w7 Ba1
        replace Bx1 := heap_kept go0w7 Bx1
        replace Ba2 := heap_kept go0w7 Ba2
        replace Bx2 := heap_kept go0w7 Bx2
        replace ia1 := ia1.kept go0w7
        replace rx1 := rx1.kept go0w7
        replace ia2 := ia2.kept go0w7
        replace rx2 := rx2.kept go0w7
        replace hG := grown_trans hG go0w7
        clear go0w7
        obtain ⟨Ca10, Ca11, Fa10, Fa11⟩ := box_cells Ba1
        obtain ⟨Cx10, Cx11, Fx10, Fx11⟩ := box_cells Bx1
        obtain ⟨Ca20, Ca21, Fa20, Fa21⟩ := box_cells Ba2
        obtain ⟨Cx20, Cx21, Fx20, Fx21⟩ := box_cells Bx2
        go_wp2_with fail
        clear Ca10 Fa10 Ca11 Fa11 Cx10 Fx10 Cx11 Fx11 Ca20 Fa20 Ca21 Fa21 Cx20 Fx20 Cx21 Fx21
        refine (apart_any o0w7 pt).mono ?_
        rintro e o0w8 ⟨rfl, go0w8⟩
        replace Ba1 := heap_kept go0w8 Ba1
        replace Bx1 := heap_kept go0w8 Bx1
        replace Ba2 := heap_kept go0w8 Ba2
        replace Bx2 := heap_kept go0w8 Bx2
        replace ia1 := ia1.kept go0w8
        replace rx1 := rx1.kept go0w8
        replace ia2 := ia2.kept go0w8
        replace rx2 := rx2.kept go0w8
        replace hG := grown_trans hG go0w8
        clear go0w8
        obtain ⟨Ca10, Ca11, Fa10, Fa11⟩ := box_cells Ba1
        obtain ⟨Cx10, Cx11, Fx10, Fx11⟩ := box_cells Bx1
        obtain ⟨Ca20, Ca21, Fa20, Fa21⟩ := box_cells Ba2
        obtain ⟨Cx20, Cx21, Fx20, Fx21⟩ := box_cells Bx2
        go_wp2_with fail
        go_ret
        exact ⟨by first | rfl | simp, hG⟩
      cases o2
      · skip
        generalize ((w3.alloc (.cells #[.slice sa2 xa2.length xa2.length, .bool ba2] 26)).alloc (.cells #[.int .i64 gx2, .slice sx2 lx2 cx2] 34)) = w4 at *
        generalize w3.heap.size = aw3 at *
        replace hzw3 := hzw3.out
        replace hla1w3 := hla1w3.out
        replace hlx1w3 := hlx1w3.out
        clear Ca10 Fa10 Ca11 Fa11 Cx10 Fx10 Cx11 Fx11 Ca20 Fa20 Ca21 Fa21 Cx20 Fx20 Cx21 Fx21
        refine (known_any w4).mono ?_
        rintro e o1w5 ⟨rfl, go1w5⟩
        replace Ba1 := heap_kept go1w5 Ba1
        replace Bx1 := heap_kept go1w5 Bx1
        replace Ba2 := heap_kept go1w5 Ba2
        replace Bx2 := heap_kept go1w5 Bx2
        replace ia1 := ia1.kept go1w5
        replace rx1 := rx1.kept go1w5
        replace ia2 := ia2.kept go1w5
        replace rx2 := rx2.kept go1w5
        replace hG := grown_trans hG go1w5
        clear go1w5
        obtain ⟨Ca10, Ca11, Fa10, Fa11⟩ := box_cells Ba1
        obtain ⟨Cx10, Cx11, Fx10, Fx11⟩ := box_cells Bx1
        obtain ⟨Ca20, Ca21, Fa20, Fa21⟩ := box_cells Ba2
        obtain ⟨Cx20, Cx21, Fx20, Fx21⟩ := box_cells Bx2
        go_wp2_with fail
        clear Ca10 Fa10 Ca11 Fa11 Cx10 Fx10 Cx11 Fx11 Ca20 Fa20 Ca21 Fa21 Cx20 Fx20 Cx21 Fx21
        refine (known_any o1w5).mono ?_
        rintro e o1w6 ⟨rfl, go1w6⟩
        replace Ba1 := heap_kept go1w6 Ba1
        replace Bx1 := heap_kept go1w6 Bx1
        replace Ba2 := heap_kept go1w6 Ba2
        replace Bx2 := heap_kept go1w6 Bx2
        replace ia1 := ia1.kept go1w6
        replace rx1 := rx1.kept go1w6
        replace ia2 := ia2.kept go1w6
        replace rx2 := rx2.kept go1w6
        replace hG := grown_trans hG go1w6
        clear go1w6
        obtain ⟨Ca10, Ca11, Fa10, Fa11⟩ := box_cells Ba1
        obtain ⟨Cx10, Cx11, Fx10, Fx11⟩ := box_cells Bx1
        obtain ⟨Ca20, Ca21, Fa20, Fa21⟩ := box_cells Ba2
        obtain ⟨Cx20, Cx21, Fx20, Fx21⟩ := box_cells Bx2
        go_wp2_with fail
        clear Ca10 Fa10 Ca11 Fa11 Cx10 Fx10 Cx11 Fx11 Ca20 Fa20 Ca21 Fa21 Cx20 Fx20 Cx21 Fx21
        refine (apart_any o1w6 ps).mono ?_
        rintro e o1w7 ⟨rfl, go1w7⟩
        replace Ba1 := heap_kept go1w7 Ba1
        replace Bx1 := heap_kept go1w7 Bx1
        replace Ba2 := heap_kept go1w7 Ba2
        replace Bx2 := heap_kept go1w7 Bx2
        replace ia1 := ia1.kept go1w7
        replace rx1 := rx1.kept go1w7
        replace ia2 := ia2.kept go1w7
        replace rx2 := rx2.kept go1w7
        replace hG := grown_trans hG go1w7
        clear go1w7
        obtain ⟨Ca10, Ca11, Fa10, Fa11⟩ := box_cells Ba1
        obtain ⟨Cx10, Cx11, Fx10, Fx11⟩ := box_cells Bx1
        obtain ⟨Ca20, Ca21, Fa20, Fa21⟩ := box_cells Ba2
        obtain ⟨Cx20, Cx21, Fx20, Fx21⟩ := box_cells Bx2
        go_wp2_with fail
        clear Ca10 Fa10 Ca11 Fa11 Cx10 Fx10 Cx11 Fx11 Ca20 Fa20 Ca21 Fa21 Cx20 Fx20 Cx21 Fx21
        refine (apart_any o1w7 pt).mono ?_
        rintro e o1w8 ⟨rfl, go1w8⟩
        replace Ba1 := heap_kept go1w8 Ba1
        replace Bx1 := heap_kept go1w8 Bx1
        replace Ba2 := heap_kept go1w8 Ba2
        replace Bx2 := heap_kept go1w8 Bx2
        replace ia1 := ia1.kept go1w8
        replace rx1 := rx1.kept go1w8
        replace ia2 := ia2.kept go1w8
        replace rx2 := rx2.kept go1w8
        replace hG := grown_trans hG go1w8
        clear go1w8
        obtain ⟨Ca10, Ca11, Fa10, Fa11⟩ := box_cells Ba1
        obtain ⟨Cx10, Cx11, Fx10, Fx11⟩ := box_cells Bx1
        obtain ⟨Ca20, Ca21, Fa20, Fa21⟩ := box_cells Ba2
        obtain ⟨Cx20, Cx21, Fx20, Fx21⟩ := box_cells Bx2
        go_wp2_with fail
        go_ret
        exact ⟨by first | rfl | simp, hG⟩
      generalize ((w3.alloc (.cells #[.slice sa2 xa2.length xa2.length, .bool ba2] 26)).alloc (.cells #[.int .i64 gx2, .slice sx2 lx2 cx2] 34)) = w4 at *
      generalize w3.heap.size = aw3 at *
      replace hzw3 := hzw3.out
      replace hla1w3 := hla1w3.out
      replace hlx1w3 := hlx1w3.out
      clear Ca10 Fa10 Ca11 Fa11 Cx10 Fx10 Cx11 Fx11 Ca20 Fa20 Ca21 Fa21 Cx20 Fx20 Cx21 Fx21
      refine (known_any w4).mono ?_
      rintro e w5 ⟨rfl, gw5⟩
      replace Ba1 := heap_kept gw5 Ba1
      replace Bx1 := heap_kept gw5 Bx1
      replace Ba2 := heap_kept gw5 Ba2
      replace Bx2 := heap_kept gw5 Bx2
      replace ia1 := ia1.kept gw5
      replace rx1 := rx1.kept gw5
      replace ia2 := ia2.kept gw5
      replace rx2 := rx2.kept gw5
      replace hG := grown_trans hG gw5
      clear gw5
      obtain ⟨Ca10, Ca11, Fa10, Fa11⟩ := box_cells Ba1
      obtain ⟨Cx10, Cx11, Fx10, Fx11⟩ := box_cells Bx1
      obtain ⟨Ca20, Ca21, Fa20, Fa21⟩ := box_cells Ba2
      obtain ⟨Cx20, Cx21, Fx20, Fx21⟩ := box_cells Bx2
      go_wp2_with fail
      clear Ca10 Fa10 Ca11 Fa11 Cx10 Fx10 Cx11 Fx11 Ca20 Fa20 Ca21 Fa21 Cx20 Fx20 Cx21 Fx21
      refine (ZBez_any w5 _ _ A1 B1 8 ia1 ia2 (by omega) lA1 lB1).mono ?_
      rintro e w6 ⟨u1, v1, _, _, _, rfl, ⟨sg, xg, bg, rfl, hg, vg, tg⟩, ⟨su, xu, bu, rfl, hu, vu, tu⟩, ⟨sv, xv, bv, rfl, hv, vv, tv⟩, HG, gw6⟩
      have ig : IntV w6 (.agg #[.slice sg xg.length xg.length, .bool bg]) (((Nat.gcd A1.natAbs B1.natAbs : Nat) : Int)) := ⟨sg, xg, bg, rfl, hg, vg, tg⟩
      have iu : IntV w6 (.agg #[.slice su xu.length xu.length, .bool bu]) (u1) := ⟨su, xu, bu, rfl, hu, vu, tu⟩
      have iv : IntV w6 (.agg #[.slice sv xv.length xv.length, .bool bv]) (v1) := ⟨sv, xv, bv, rfl, hv, vv, tv⟩
      replace Ba1 := heap_kept gw6 Ba1
      replace Bx1 := heap_kept gw6 Bx1
      replace Ba2 := heap_kept gw6 Ba2
      replace Bx2 := heap_kept gw6 Bx2
      replace ia1 := ia1.kept gw6
      replace rx1 := rx1.kept gw6
      replace ia2 := ia2.kept gw6
      replace rx2 := rx2.kept gw6
      replace hG := grown_trans hG gw6
      clear gw6
      clear hg vg tg
      clear hu vu tu
      clear hv vv tv
      obtain ⟨Ca10, Ca11, Fa10, Fa11⟩ := box_cells Ba1
      obtain ⟨Cx10, Cx11, Fx10, Fx11⟩ := box_cells Bx1
      obtain ⟨Ca20, Ca21, Fa20, Fa21⟩ := box_cells Ba2
      obtain ⟨Cx20, Cx21, Fx20, Fx21⟩ := box_cells Bx2
      have gbw6 := (grown_alloc (grown_alloc (World.grownBy_alloc w6 (.cells #[.slice sg xg.length xg.length, .bool bg] 26) none) (.cells #[.slice su xu.length xu.length, .bool bu] 26)) (.cells #[.slice sv xv.length xv.length, .bool bv] 26))
      have Bg := heap_kept (grown_alloc (World.grownBy_alloc _ (.cells #[.slice su xu.length xu.length, .bool bu] 26) none) (.cells #[.slice sv xv.length xv.length, .bool bv] 26)) (heap_new w6 (.cells #[.slice sg xg.length xg.length, .bool bg] 26) (w6.heap.size) rfl)
      have Bu := heap_kept (World.grownBy_alloc _ (.cells #[.slice sv xv.length xv.length, .bool bv] 26) none) (heap_new (w6.alloc (.cells #[.slice sg xg.length xg.length, .bool bg] 26)) (.cells #[.slice su xu.length xu.length, .bool bu] 26) (w6.heap.size + 1) (by simp))
      have Bv := (heap_new ((w6.alloc (.cells #[.slice sg xg.length xg.length, .bool bg] 26)).alloc (.cells #[.slice su xu.length xu.length, .bool bu] 26)) (.cells #[.slice sv xv.length xv.length, .bool bv] 26) (w6.heap.size + 1 + 1) (by simp))
      have hzw6 : Hid (w.heap.size ≤ w6.heap.size) := Lib.hid hG.size
      have hla1w6 : Hid (aw1 < w6.heap.size) := Lib.hid (Array.getElem?_eq_some_iff.1 Ba1).1
      have hlx1w6 : Hid (aw1 + 1 < w6.heap.size) := Lib.hid (Array.getElem?_eq_some_iff.1 Bx1).1
      have hla2w6 : Hid (aw3 < w6.heap.size) := Lib.hid (Array.getElem?_eq_some_iff.1 Ba2).1
      have hlx2w6 : Hid (aw3 + 1 < w6.heap.size) := Lib.hid (Array.getElem?_eq_some_iff.1 Bx2).1
      clear Ca10 Fa10 Ca11 Fa11 Cx10 Fx10 Cx11 Fx11 Ca20 Fa20 Ca21 Fa21 Cx20 Fx20 Cx21 Fx21
      replace Ba1 := heap_kept gbw6 Ba1
      replace Bx1 := heap_kept gbw6 Bx1
      replace Ba2 := heap_kept gbw6 Ba2
      replace Bx2 := heap_kept gbw6 Bx2
      replace ia1 := ia1.kept gbw6
      replace rx1 := rx1.kept gbw6
      replace ia2 := ia2.kept gbw6
      replace rx2 := rx2.kept gbw6
      replace ig := ig.kept gbw6
      replace iu := iu.kept gbw6
      replace iv := iv.kept gbw6
      replace hG := grown_trans hG gbw6
      clear gbw6
      obtain ⟨Ca10, Ca11, Fa10, Fa11⟩ := box_cells Ba1
      obtain ⟨Cx10, Cx11, Fx10, Fx11⟩ := box_cells Bx1
      obtain ⟨Ca20, Ca21, Fa20, Fa21⟩ := box_cells Ba2
      obtain ⟨Cx20, Cx21, Fx20, Fx21⟩ := box_cells Bx2
      obtain ⟨Cg0, Cg1, Fg0, Fg1⟩ := box_cells Bg
      obtain ⟨Cu0, Cu1, Fu0, Fu1⟩ := box_cells Bu
      obtain ⟨Cv0, Cv1, Fv0, Fv1⟩ := box_cells Bv
      go_wp2_with fail
      generalize (((w6.alloc (.cells #[.slice sg xg.length xg.length, .bool bg] 26)).alloc (.cells #[.slice su xu.length xu.length, .bool bu] 26)).alloc (.cells #[.slice sv xv.length xv.length, .bool bv] 26)) = w7 at *
      generalize w6.heap.size = aw6 at *
      replace hzw6 := hzw6.out
      replace hla1w6 := hla1w6.out
      replace hlx1w6 := hlx1w6.out
      replace hla2w6 := hla2w6.out
      replace hlx2w6 := hlx2w6.out
      clear Ca10 Fa10 Ca11 Fa11 Cx10 Fx10 Cx11 Fx11 Ca20 Fa20 Ca21 Fa21 Cx20 Fx20 Cx21 Fx21 Cg0 Fg0 Cg1 Fg1 Cu0 Fu0 Cu1 Fu1 Cv0 Fv0 Cv1 Fv1
      refine (Of_one w7).mono ?_
      rintro e w8 ⟨vo, rfl, no, gw8⟩
      replace Ba1 := heap_kept gw8 Ba1
      replace Bx1 := heap_kept gw8 Bx1
      replace Ba2 := heap_kept gw8 Ba2
      replace Bx2 := heap_kept gw8 Bx2
      replace Bg := heap_kept gw8 Bg
      replace Bu := heap_kept gw8 Bu
      replace Bv := heap_kept gw8 Bv
      replace ia1 := ia1.kept gw8
      replace rx1 := rx1.kept gw8
      replace ia2 := ia2.kept gw8
      replace rx2 := rx2.kept gw8
      replace ig := ig.kept gw8
      replace iu := iu.kept gw8
      replace iv := iv.kept gw8
      replace hG := grown_trans hG gw8
      clear gw8
      obtain ⟨Ca10, Ca11, Fa10, Fa11⟩ := box_cells Ba1
      obtain ⟨Cx10, Cx11, Fx10, Fx11⟩ := box_cells Bx1
      obtain ⟨Ca20, Ca21, Fa20, Fa21⟩ := box_cells Ba2
      obtain ⟨Cx20, Cx21, Fx20, Fx21⟩ := box_cells Bx2
      obtain ⟨Cg0, Cg1, Fg0, Fg1⟩ := box_cells Bg
      obtain ⟨Cu0, Cu1, Fu0, Fu1⟩ := box_cells Bu
      obtain ⟨Cv0, Cv1, Fv0, Fv1⟩ := box_cells Bv
      go_wp2_with fail
      clear Ca10 Fa10 Ca11 Fa11 Cx10 Fx10 Cx11 Fx11 Ca20 Fa20 Ca21 Fa21 Cx20 Fx20 Cx21 Fx21 Cg0 Fg0 Cg1 Fg1 Cu0 Fu0 Cu1 Fu1 Cv0 Fv0 Cv1 Fv1
      refine (Big_one w8 _ no).mono ?_
      rintro e w9 ⟨_, rfl, ⟨sk, xk, bk, rfl, hk, vk, tk⟩, gw9⟩
      have ik : IntV w9 (.agg #[.slice sk xk.length xk.length, .bool bk]) (1) := ⟨sk, xk, bk, rfl, hk, vk, tk⟩
      replace Ba1 := heap_kept gw9 Ba1
      replace Bx1 := heap_kept gw9 Bx1
      replace Ba2 := heap_kept gw9 Ba2
      replace Bx2 := heap_kept gw9 Bx2
      replace Bg := heap_kept gw9 Bg
      replace Bu := heap_kept gw9 Bu
      replace Bv := heap_kept gw9 Bv
      replace ia1 := ia1.kept gw9
      replace rx1 := rx1.kept gw9
      replace ia2 := ia2.kept gw9
      replace rx2 := rx2.kept gw9
      replace ig := ig.kept gw9
      replace iu := iu.kept gw9
      replace iv := iv.kept gw9
      replace no := no.kept gw9
      replace hG := grown_trans hG gw9
      clear gw9
      clear hk vk tk
      obtain ⟨Ca10, Ca11, Fa10, Fa11⟩ := box_cells Ba1
      obtain ⟨Cx10, Cx11, Fx10, Fx11⟩ := box_cells Bx1
      obtain ⟨Ca20, Ca21, Fa20, Fa21⟩ := box_cells Ba2
      obtain ⟨Cx20, Cx21, Fx20, Fx21⟩ := box_cells Bx2
      obtain ⟨Cg0, Cg1, Fg0, Fg1⟩ := box_cells Bg
      obtain ⟨Cu0, Cu1, Fu0, Fu1⟩ := box_cells Bu
      obtain ⟨Cv0, Cv1, Fv0, Fv1⟩ := box_cells Bv
      have gbw9 := (World.grownBy_alloc w9 (.cells #[.slice sk xk.length xk.length, .bool bk] 26) none)
      have Bk := (heap_new w9 (.cells #[.slice sk xk.length xk.length, .bool bk] 26) (w9.heap.size) rfl)
      have hzw9 : Hid (w.heap.size ≤ w9.heap.size) := Lib.hid hG.size
      have hla1w9 : Hid (aw1 < w9.heap.size) := Lib.hid (Array.getElem?_eq_some_iff.1 Ba1).1
      have hlx1w9 : Hid (aw1 + 1 < w9.heap.size) := Lib.hid (Array.getElem?_eq_some_iff.1 Bx1).1
      have hla2w9 : Hid (aw3 < w9.heap.size) := Lib.hid (Array.getElem?_eq_some_iff.1 Ba2).1
      have hlx2w9 : Hid (aw3 + 1 < w9.heap.size) := Lib.hid (Array.getElem?_eq_some_iff.1 Bx2).1
      have hlgw9 : Hid (aw6 < w9.heap.size) := Lib.hid (Array.getElem?_eq_some_iff.1 Bg).1
      have hluw9 : Hid (aw6 + 1 < w9.heap.size) := Lib.hid (Array.getElem?_eq_some_iff.1 Bu).1
      have hlvw9 : Hid (aw6 + 1 + 1 < w9.heap.size) := Lib.hid (Array.getElem?_eq_some_iff.1 Bv).1
      clear Ca10 Fa10 Ca11 Fa11 Cx10 Fx10 Cx11 Fx11 Ca20 Fa20 Ca21 Fa21 Cx20 Fx20 Cx21 Fx21 Cg0 Fg0 Cg1 Fg1 Cu0 Fu0 Cu1 Fu1 Cv0 Fv0 Cv1 Fv1
      replace Ba1 := heap_kept gbw9 Ba1
      replace Bx1 := heap_kept gbw9 Bx1
      replace Ba2 := heap_kept gbw9 Ba2
      replace Bx2 := heap_kept gbw9 Bx2
      replace Bg := heap_kept gbw9 Bg
      replace Bu := heap_kept gbw9 Bu
      replace Bv := heap_kept gbw9 Bv
      replace ia1 := ia1.kept gbw9
      replace rx1 := rx1.kept gbw9
      replace ia2 := ia2.kept gbw9
      replace rx2 := rx2.kept gbw9
      replace ig := ig.kept gbw9
      replace iu := iu.kept gbw9
      replace iv := iv.kept gbw9
      replace no := no.kept gbw9
      replace ik := ik.kept gbw9
      replace hG := grown_trans hG gbw9
      clear gbw9
      obtain ⟨Ca10, Ca11, Fa10, Fa11⟩ := box_cells Ba1
      obtain ⟨Cx10, Cx11, Fx10, Fx11⟩ := box_cells Bx1
      obtain ⟨Ca20, Ca21, Fa20, Fa21⟩ := box_cells Ba2
      obtain ⟨Cx20, Cx21, Fx20, Fx21⟩ := box_cells Bx2
      obtain ⟨Cg0, Cg1, Fg0, Fg1⟩ := box_cells Bg
      obtain ⟨Cu0, Cu1, Fu0, Fu1⟩ := box_cells Bu
      obtain ⟨Cv0, Cv1, Fv0, Fv1⟩ := box_cells Bv
      obtain ⟨Ck0, Ck1, Fk0, Fk1⟩ := box_cells Bk
      obtain ⟨k1, hk1⟩ : ∃ k, zcmp (u1.natAbs : Int) 1 = k := ⟨_, rfl⟩
      obtain ⟨k2, hk2⟩ : ∃ k, zcmp (v1.natAbs : Int) 1 = k := ⟨_, rfl⟩
      obtain ⟨n1, hn1⟩ : ∃ k, cmpInt u1.natAbs B1.natAbs = k := ⟨_, rfl⟩
      obtain ⟨n2, hn2⟩ : ∃ k, cmpInt v1.natAbs A1.natAbs = k := ⟨_, rfl⟩
      obtain ⟨hge, hgs⟩ := HG.out
      have key : (decide (k1 ≤ 0) = true ∧ decide (k2 ≤ 0) = true) ∨ (decide (k1 ≤ 0) = true ∧ decide (k2 ≤ 0) = false ∧ decide (n1 ≤ 0) = true ∧ decide (n2 ≤ 0) = true) ∨ (decide (k1 ≤ 0) = false ∧ decide (n1 ≤ 0) = true ∧ decide (n2 ≤ 0) = true) := by
        have e1 := zcmp_one u1.natAbs
        have e2 := zcmp_one v1.natAbs
        have e3 := ncmp_le u1.natAbs B1.natAbs
        have e4 := ncmp_le v1.natAbs A1.natAbs
        rw [hk1] at e1; rw [hk2] at e2; rw [hn1] at e3; rw [hn2] at e4
        by_cases q1 : u1.natAbs ≤ 1
        · by_cases q2 : v1.natAbs ≤ 1
          · left; exact ⟨decide_eq_true (e1.2 q1), decide_eq_true (e2.2 q2)⟩
          · right; left
            rcases hgs with ⟨a1, a2⟩ | ⟨a1, a2⟩
            · exact ⟨decide_eq_true (e1.2 q1), decide_eq_false (fun h => q2 (e2.1 h)), decide_eq_true (e3.2 a1), decide_eq_true (e4.2 a2)⟩
            · exact absurd a2 q2
        · right; right
          rcases hgs with ⟨a1, a2⟩ | ⟨a1, a2⟩
          · exact ⟨decide_eq_false (fun h => q1 (e1.1 h)), decide_eq_true (e3.2 a1), decide_eq_true (e4.2 a2)⟩
          · exact absurd a1 q1
      have lu : u1.natAbs < B ^ 9 := by
        have h1 := bw lB1 (show 8 ≤ 9 by omega)
        have h2 : 1 < B ^ 9 := by decide +kernel
        rcases hgs with ⟨a1, a2⟩ | ⟨a1, a2⟩ <;> omega
      have lv : v1.natAbs < B ^ 9 := by
        have h1 := bw lA1 (show 8 ≤ 9 by omega)
        have h2 : 1 < B ^ 9 := by decide +kernel
        rcases hgs with ⟨a1, a2⟩ | ⟨a1, a2⟩ <;> omega
      have HK1 := Lib.hid hk1
      have HK2 := Lib.hid hk2
      have HN1 := Lib.hid hn1
      have HN2 := Lib.hid hn2
      have HGE := Lib.hid hge
      have LU := Lib.hid lu
      have LV := Lib.hid lv
      have l91 : Hid ((1 : Int).natAbs < B ^ 9) := Lib.hid (by decide +kernel)
      clear hk1 hk2 hn1 hn2 hge hgs lu lv HG
      rcases key with ⟨f1, f2⟩ | ⟨f1, f2, f3, f4⟩ | ⟨f1, f3, f4⟩
      · skip
        go_wp2_with fail
        generalize (w9.alloc (.cells #[.slice sk xk.length xk.length, .bool bk] 26)) = w10 at *
        generalize w9.heap.size = aw9 at *
        replace hzw9 := hzw9.out
        replace hla1w9 := hla1w9.out
        replace hlx1w9 := hlx1w9.out
        replace hla2w9 := hla2w9.out
        replace hlx2w9 := hlx2w9.out
        replace hlgw9 := hlgw9.out
        replace hluw9 := hluw9.out
        replace hlvw9 := hlvw9.out
        refine wp_region_held_drew (S := fun w' => w'.cell? ⟨aw6 + 1, 0, none⟩ = some (.slice su xu.length xu.length) ∧ w'.cell? ⟨aw6 + 1, 1, none⟩ = some (.bool bu) ∧ w'.cell? ⟨aw6 + 1 + 1, 0, none⟩ = some (.slice sv xv.length xv.length) ∧ w'.cell? ⟨aw6 + 1 + 1, 1, none⟩ = some (.bool bv) ∧ w'.cell? ⟨aw9, 0, none⟩ = some (.slice sk xk.length xk.length) ∧ w'.cell? ⟨aw9, 1, none⟩ = some (.bool bk) ∧ w'.cell? ⟨aw1, 0, none⟩ = some (.slice sa1 xa1.length xa1.length) ∧ w'.cell? ⟨aw1, 1, none⟩ = some (.bool ba1) ∧ w'.cell? ⟨aw3, 0, none⟩ = some (.slice sa2 xa2.length xa2.length) ∧ w'.cell? ⟨aw3, 1, none⟩ = some (.bool ba2)) (by kernel_rfl) (by exact ⟨Cu0, Cu1, Cv0, Cv1, Ck0, Ck1, Ca10, Ca11, Ca20, Ca21⟩) (fun hHeld => ?_)
        refine wpAnyH_take (i := 0) (v := ?_) rfl (by kernel_rfl) (by kernel_rfl) (by kernel_rfl) (fun _ _ _ h => h) (Or.inl ⟨by rfl, ?_⟩) (by assumption) ?_
        rotate_left
        · (intro w hSw; (try dsimp only at hSw); go_simp; (try with_reducible rfl))
        try simp only [Act.put, List.getElem_toArray, List.getElem_cons_zero, List.getElem_cons_succ, List.setIfInBounds_toArray, List.set_cons_zero, List.set_cons_succ]
        refine wpAnyH_take (i := 3) (v := ?_) rfl (by kernel_rfl) (by kernel_rfl) (by kernel_rfl) (fun _ _ _ h => h) (Or.inl ⟨by rfl, ?_⟩) (by assumption) ?_
        rotate_left
        · (intro w hSw; (try dsimp only at hSw); go_simp; (try with_reducible rfl))
        try simp only [Act.put, List.getElem_toArray, List.getElem_cons_zero, List.getElem_cons_succ, List.setIfInBounds_toArray, List.set_cons_zero, List.set_cons_succ]
        refine wpAnyH_ready (rs := [1]) (by kernel_rfl) (by simp) ?_
        refine AllReadyH.cons rfl (fun KQ hKQ => ?_) AllReadyH.nil
        go_simp
        (go_at_call 21; (with_reducible refine (Abs_any w10.drew _ u1 9 (iu.kept (grown_drew (grown_refl _ _))) (by omega) LU.out).mono ?_); rintro e b0w11_1 ⟨va1_, rfl, a1_, gb0w11_1⟩; have hGb0w11_1 := grown_pre w10 gb0w11_1 rfl rfl rfl rfl; have hSb0w11_1 := (And.intro (hGb0w11_1.cell Cu0 (by simp)) (And.intro (hGb0w11_1.cell Cu1 (by simp)) (And.intro (hGb0w11_1.cell Cv0 (by simp)) (And.intro (hGb0w11_1.cell Cv1 (by simp)) (And.intro (hGb0w11_1.cell Ck0 (by simp)) (And.intro (hGb0w11_1.cell Ck1 (by simp)) (And.intro (hGb0w11_1.cell Ca10 (by simp)) (And.intro (hGb0w11_1.cell Ca11 (by simp)) (And.intro (hGb0w11_1.cell Ca20 (by simp)) (hGb0w11_1.cell Ca21 (by simp))))))))))); clear gb0w11_1)
        (try go_wp2_with fail)
        refine hKQ.out _ _ (by exact hSb0w11_1) (fun hHeld => ?_)
        clear hKQ KQ
        try simp only [Act.put, List.getElem_toArray, List.getElem_cons_zero, List.getElem_cons_succ, List.setIfInBounds_toArray, List.set_cons_zero, List.set_cons_succ]
        refine wpAnyH_ready (rs := [2]) (by kernel_rfl) (by simp) ?_
        refine AllReadyH.cons rfl (fun KQ hKQ => ?_) AllReadyH.nil
        go_simp
        (go_at_call 24; (with_reducible refine (Big_any b0w11_1 _ u1.natAbs 9 a1_ (by omega) LU.out).mono ?_); rintro e b0w11_2 ⟨vb2_, rfl, b2_, gb0w11_2⟩; have hGb0w11_2 := grown_trans hGb0w11_1 gb0w11_2; replace a1_ := a1_.kept gb0w11_2; have hSb0w11_2 := (And.intro (hGb0w11_2.cell Cu0 (by simp)) (And.intro (hGb0w11_2.cell Cu1 (by simp)) (And.intro (hGb0w11_2.cell Cv0 (by simp)) (And.intro (hGb0w11_2.cell Cv1 (by simp)) (And.intro (hGb0w11_2.cell Ck0 (by simp)) (And.intro (hGb0w11_2.cell Ck1 (by simp)) (And.intro (hGb0w11_2.cell Ca10 (by simp)) (And.intro (hGb0w11_2.cell Ca11 (by simp)) (And.intro (hGb0w11_2.cell Ca20 (by simp)) (hGb0w11_2.cell Ca21 (by simp))))))))))); clear gb0w11_2)
        (try go_wp2_with fail)
        refine hKQ.out _ _ (by exact hSb0w11_2) (fun hHeld => ?_)
        clear hKQ KQ
        try simp only [Act.put, List.getElem_toArray, List.getElem_cons_zero, List.getElem_cons_succ, List.setIfInBounds_toArray, List.set_cons_zero, List.set_cons_succ]
        refine wpAnyH_ready (rs := [4]) (by kernel_rfl) (by simp) ?_
        refine AllReadyH.cons rfl (fun KQ hKQ => ?_) AllReadyH.nil
        go_simp
        (go_at_call 25; (with_reducible refine (ZCmp_any b0w11_2 _ _ (u1.natAbs : Int) 1 9 b2_ (ik.kept hGb0w11_2) (by omega) (by rw [Int.natAbs_natCast]; exact LU.out) l91.out).mono ?_); rintro e b0w11_3 ⟨rfl, gb0w11_3⟩; rw [HK1.out]; have hGb0w11_3 := grown_trans hGb0w11_2 gb0w11_3; replace a1_ := a1_.kept gb0w11_3; replace b2_ := b2_.kept gb0w11_3; have hSb0w11_3 := (And.intro (hGb0w11_3.cell Cu0 (by simp)) (And.intro (hGb0w11_3.cell Cu1 (by simp)) (And.intro (hGb0w11_3.cell Cv0 (by simp)) (And.intro (hGb0w11_3.cell Cv1 (by simp)) (And.intro (hGb0w11_3.cell Ck0 (by simp)) (And.intro (hGb0w11_3.cell Ck1 (by simp)) (And.intro (hGb0w11_3.cell Ca10 (by simp)) (And.intro (hGb0w11_3.cell Ca11 (by simp)) (And.intro (hGb0w11_3.cell Ca20 (by simp)) (hGb0w11_3.cell Ca21 (by simp))))))))))); clear gb0w11_3)
        (try go_wp2_with fail)
        refine hKQ.out _ _ (by exact hSb0w11_3) (fun hHeld => ?_)
        clear hKQ KQ
        try simp only [Act.put, List.getElem_toArray, List.getElem_cons_zero, List.getElem_cons_succ, List.setIfInBounds_toArray, List.set_cons_zero, List.set_cons_succ]
        refine wpAnyH_take (i := 5) (v := ?_) rfl (by kernel_rfl) (by kernel_rfl) (by kernel_rfl) (fun _ _ _ h => h) (Or.inl ⟨by rfl, ?_⟩) (by assumption) ?_
        rotate_left
        · (intro w hSw; (try dsimp only at hSw); go_simp; (try with_reducible rfl))
        try simp only [Act.put, List.getElem_toArray, List.getElem_cons_zero, List.getElem_cons_succ, List.setIfInBounds_toArray, List.set_cons_zero, List.set_cons_succ]
        refine wpAnyH_take (i := 6) (v := ?_) rfl (by kernel_rfl) (by kernel_rfl) (by kernel_rfl) (fun _ _ _ h => h) (Or.inl ⟨by rfl, ?_⟩) (by assumption) ?_
        rotate_left
        · (intro w hSw; (try dsimp only at hSw); go_simp; (try with_reducible rfl))
        try simp only [Act.put, List.getElem_toArray, List.getElem_cons_zero, List.getElem_cons_succ, List.setIfInBounds_toArray, List.set_cons_zero, List.set_cons_succ]
        refine wpAnyH_take (i := 7) (v := ?_) rfl (by kernel_rfl) (by kernel_rfl) (by kernel_rfl) (fun _ _ _ h => h) (Or.inl ⟨by rfl, ?_⟩) (by assumption) ?_
        rotate_left
        · (intro w hSw; (try dsimp only at hSw); go_simp; (try with_reducible rfl))
        try simp only [Act.put, List.getElem_toArray, List.getElem_cons_zero, List.getElem_cons_succ, List.setIfInBounds_toArray, List.set_cons_zero, List.set_cons_succ]
        refine wpAnyH_take (i := 10) (v := ?_) rfl (by kernel_rfl) (by kernel_rfl) (by kernel_rfl) (fun _ _ _ h => h) (Or.inl ⟨by rfl, ?_⟩) (by assumption) ?_
        rotate_left
        · (intro w hSw; (try dsimp only at hSw); go_simp; (try with_reducible rfl))
        try simp only [Act.put, List.getElem_toArray, List.getElem_cons_zero, List.getElem_cons_succ, List.setIfInBounds_toArray, List.set_cons_zero, List.set_cons_succ]
        refine wpAnyH_ready (rs := [8]) (by kernel_rfl) (by simp) ?_
        refine AllReadyH.cons rfl (fun KQ hKQ => ?_) AllReadyH.nil
        go_simp
        (go_at_call 21; (with_reducible refine (Abs_any b0w11_3 _ v1 9 (iv.kept hGb0w11_3) (by omega) LV.out).mono ?_); rintro e b0w11_4 ⟨va3_, rfl, a3_, gb0w11_4⟩; have hGb0w11_4 := grown_trans hGb0w11_3 gb0w11_4; replace a1_ := a1_.kept gb0w11_4; replace b2_ := b2_.kept gb0w11_4; have hSb0w11_4 := (And.intro (hGb0w11_4.cell Cu0 (by simp)) (And.intro (hGb0w11_4.cell Cu1 (by simp)) (And.intro (hGb0w11_4.cell Cv0 (by simp)) (And.intro (hGb0w11_4.cell Cv1 (by simp)) (And.intro (hGb0w11_4.cell Ck0 (by simp)) (And.intro (hGb0w11_4.cell Ck1 (by simp)) (And.intro (hGb0w11_4.cell Ca10 (by simp)) (And.intro (hGb0w11_4.cell Ca11 (by simp)) (And.intro (hGb0w11_4.cell Ca20 (by simp)) (hGb0w11_4.cell Ca21 (by simp))))))))))); clear gb0w11_4)
        (try go_wp2_with fail)
        refine hKQ.out _ _ (by exact hSb0w11_4) (fun hHeld => ?_)
        clear hKQ KQ
        try simp only [Act.put, List.getElem_toArray, List.getElem_cons_zero, List.getElem_cons_succ, List.setIfInBounds_toArray, List.set_cons_zero, List.set_cons_succ]
        refine wpAnyH_ready (rs := [9]) (by kernel_rfl) (by simp) ?_
        refine AllReadyH.cons rfl (fun KQ hKQ => ?_) AllReadyH.nil
        go_simp
        (go_at_call 24; (with_reducible refine (Big_any b0w11_4 _ v1.natAbs 9 a3_ (by omega) LV.out).mono ?_); rintro e b0w11_5 ⟨vb4_, rfl, b4_, gb0w11_5⟩; have hGb0w11_5 := grown_trans hGb0w11_4 gb0w11_5; replace a1_ := a1_.kept gb0w11_5; replace b2_ := b2_.kept gb0w11_5; replace a3_ := a3_.kept gb0w11_5; have hSb0w11_5 := (And.intro (hGb0w11_5.cell Cu0 (by simp)) (And.intro (hGb0w11_5.cell Cu1 (by simp)) (And.intro (hGb0w11_5.cell Cv0 (by simp)) (And.intro (hGb0w11_5.cell Cv1 (by simp)) (And.intro (hGb0w11_5.cell Ck0 (by simp)) (And.intro (hGb0w11_5.cell Ck1 (by simp)) (And.intro (hGb0w11_5.cell Ca10 (by simp)) (And.intro (hGb0w11_5.cell Ca11 (by simp)) (And.intro (hGb0w11_5.cell Ca20 (by simp)) (hGb0w11_5.cell Ca21 (by simp))))))))))); clear gb0w11_5)
        (try go_wp2_with fail)
        refine hKQ.out _ _ (by exact hSb0w11_5) (fun hHeld => ?_)
        clear hKQ KQ
        try simp only [Act.put, List.getElem_toArray, List.getElem_cons_zero, List.getElem_cons_succ, List.setIfInBounds_toArray, List.set_cons_zero, List.set_cons_succ]
        refine wpAnyH_ready (rs := [11]) (by kernel_rfl) (by simp) ?_
        refine AllReadyH.cons rfl (fun KQ hKQ => ?_) AllReadyH.nil
        go_simp
        (go_at_call 25; (with_reducible refine (ZCmp_any b0w11_5 _ _ (v1.natAbs : Int) 1 9 b4_ (ik.kept hGb0w11_5) (by omega) (by rw [Int.natAbs_natCast]; exact LV.out) l91.out).mono ?_); rintro e b0w11_6 ⟨rfl, gb0w11_6⟩; rw [HK2.out]; have hGb0w11_6 := grown_trans hGb0w11_5 gb0w11_6; replace a1_ := a1_.kept gb0w11_6; replace b2_ := b2_.kept gb0w11_6; replace a3_ := a3_.kept gb0w11_6; replace b4_ := b4_.kept gb0w11_6; have hSb0w11_6 := (And.intro (hGb0w11_6.cell Cu0 (by simp)) (And.intro (hGb0w11_6.cell Cu1 (by simp)) (And.intro (hGb0w11_6.cell Cv0 (by simp)) (And.intro (hGb0w11_6.cell Cv1 (by simp)) (And.intro (hGb0w11_6.cell Ck0 (by simp)) (And.intro (hGb0w11_6.cell Ck1 (by simp)) (And.intro (hGb0w11_6.cell Ca10 (by simp)) (And.intro (hGb0w11_6.cell Ca11 (by simp)) (And.intro (hGb0w11_6.cell Ca20 (by simp)) (hGb0w11_6.cell Ca21 (by simp))))))))))); clear gb0w11_6)
        (try go_wp2_with fail)
        refine hKQ.out _ _ (by exact hSb0w11_6) (fun hHeld => ?_)
        clear hKQ KQ
        try simp only [Act.put, List.getElem_toArray, List.getElem_cons_zero, List.getElem_cons_succ, List.setIfInBounds_toArray, List.set_cons_zero, List.set_cons_succ]
        refine wpAnyH_take (i := 12) (v := ?_) rfl (by kernel_rfl) (by kernel_rfl) (by kernel_rfl) (fun _ _ _ h => h) (Or.inl ⟨by rfl, ?_⟩) (by assumption) ?_
        rotate_left
        · (intro w hSw; (try dsimp only at hSw); go_simp; (try with_reducible rfl))
        try simp only [Act.put, List.getElem_toArray, List.getElem_cons_zero, List.getElem_cons_succ, List.setIfInBounds_toArray, List.set_cons_zero, List.set_cons_succ]
        refine wpAnyH_take (i := 13) (v := ?_) rfl (by kernel_rfl) (by kernel_rfl) (by kernel_rfl) (fun _ _ _ h => h) (Or.inl ⟨by rfl, ?_⟩) (by assumption) ?_
        rotate_left
        · (intro w hSw; (try dsimp only at hSw); go_simp; (try with_reducible rfl))
        try simp only [Act.put, List.getElem_toArray, List.getElem_cons_zero, List.getElem_cons_succ, List.setIfInBounds_toArray, List.set_cons_zero, List.set_cons_succ]
        refine wpAnyH_take (i := 14) (v := ?_) rfl (by kernel_rfl) (by kernel_rfl) (by kernel_rfl) (fun _ _ _ h => h) (Or.inl ⟨by rfl, ?_⟩) (by assumption) ?_
        rotate_left
        · (intro w hSw; (try dsimp only at hSw); go_simp; (try with_reducible rfl))
        try simp only [Act.put, List.getElem_toArray, List.getElem_cons_zero, List.getElem_cons_succ, List.setIfInBounds_toArray, List.set_cons_zero, List.set_cons_succ]
        refine wpAnyH_take (i := 15) (v := undef) rfl (by kernel_rfl) (by kernel_rfl) (by kernel_rfl) (fun _ _ _ h => h) (Or.inr ⟨by rfl, rfl⟩) (by assumption) ?_
        try simp only [Act.put, List.getElem_toArray, List.getElem_cons_zero, List.getElem_cons_succ, List.setIfInBounds_toArray, List.set_cons_zero, List.set_cons_succ]
        refine wpAnyH_take (i := 17) (v := undef) rfl (by kernel_rfl) (by kernel_rfl) (by kernel_rfl) (fun _ _ _ h => h) (Or.inr ⟨by rfl, rfl⟩) (by assumption) ?_
        try simp only [Act.put, List.getElem_toArray, List.getElem_cons_zero, List.getElem_cons_succ, List.setIfInBounds_toArray, List.set_cons_zero, List.set_cons_succ]
        refine wpAnyH_ready (rs := [16]) (by kernel_rfl) (by simp) ?_
        refine AllReadyH.cons rfl (fun KQ hKQ => ?_) AllReadyH.nil
        go_simp
        refine hKQ.out _ _ (by assumption) (fun hHeld => ?_)
        clear hKQ KQ
        try simp only [Act.put, List.getElem_toArray, List.getElem_cons_zero, List.getElem_cons_succ, List.setIfInBounds_toArray, List.set_cons_zero, List.set_cons_succ]
        refine wpAnyH_ready (rs := [18]) (by kernel_rfl) (by simp) ?_
        refine AllReadyH.cons rfl (fun KQ hKQ => ?_) AllReadyH.nil
        go_simp
        refine hKQ.out _ _ (by assumption) (fun hHeld => ?_)
        clear hKQ KQ
        try simp only [Act.put, List.getElem_toArray, List.getElem_cons_zero, List.getElem_cons_succ, List.setIfInBounds_toArray, List.set_cons_zero, List.set_cons_succ]
        refine wpAnyH_ready (rs := [19]) (by kernel_rfl) (by simp) ?_
        refine AllReadyH.cons rfl (fun KQ hKQ => ?_) AllReadyH.nil
        go_simp
        refine hKQ.out _ _ (by assumption) (fun hHeld => ?_)
        clear hKQ KQ
        try simp only [Act.put, List.getElem_toArray, List.getElem_cons_zero, List.getElem_cons_succ, List.setIfInBounds_toArray, List.set_cons_zero, List.set_cons_succ]
        refine wpAnyH_take (i := 20) (v := undef) rfl (by kernel_rfl) (by kernel_rfl) (by kernel_rfl) (fun _ _ _ h => h) (Or.inr ⟨by rfl, rfl⟩) (by assumption) ?_
        try simp only [Act.put, List.getElem_toArray, List.getElem_cons_zero, List.getElem_cons_succ, List.setIfInBounds_toArray, List.set_cons_zero, List.set_cons_succ]
        refine wpAnyH_take (i := 21) (v := undef) rfl (by kernel_rfl) (by kernel_rfl) (by kernel_rfl) (fun _ _ _ h => h) (Or.inr ⟨by rfl, rfl⟩) (by assumption) ?_
        try simp only [Act.put, List.getElem_toArray, List.getElem_cons_zero, List.getElem_cons_succ, List.setIfInBounds_toArray, List.set_cons_zero, List.set_cons_succ]
        refine wpAnyH_take (i := 22) (v := undef) rfl (by kernel_rfl) (by kernel_rfl) (by kernel_rfl) (fun _ _ _ h => h) (Or.inr ⟨by rfl, rfl⟩) (by assumption) ?_
        try simp only [Act.put, List.getElem_toArray, List.getElem_cons_zero, List.getElem_cons_succ, List.setIfInBounds_toArray, List.set_cons_zero, List.set_cons_succ]
        refine wpAnyH_take (i := 24) (v := undef) rfl (by kernel_rfl) (by kernel_rfl) (by kernel_rfl) (fun _ _ _ h => h) (Or.inr ⟨by rfl, rfl⟩) (by assumption) ?_
        try simp only [Act.put, List.getElem_toArray, List.getElem_cons_zero, List.getElem_cons_succ, List.setIfInBounds_toArray, List.set_cons_zero, List.set_cons_succ]
        refine wpAnyH_ready (rs := [23]) (by kernel_rfl) (by simp) ?_
        refine AllReadyH.cons rfl (fun KQ hKQ => ?_) AllReadyH.nil
        go_simp
        refine hKQ.out _ _ (by assumption) (fun hHeld => ?_)
        clear hKQ KQ
        try simp only [Act.put, List.getElem_toArray, List.getElem_cons_zero, List.getElem_cons_succ, List.setIfInBounds_toArray, List.set_cons_zero, List.set_cons_succ]
        refine wpAnyH_ready (rs := [25]) (by kernel_rfl) (by simp) ?_
        refine AllReadyH.cons rfl (fun KQ hKQ => ?_) AllReadyH.nil
        go_simp
        refine hKQ.out _ _ (by assumption) (fun hHeld => ?_)
        clear hKQ KQ
        try simp only [Act.put, List.getElem_toArray, List.getElem_cons_zero, List.getElem_cons_succ, List.setIfInBounds_toArray, List.set_cons_zero, List.set_cons_succ]
        refine wpAnyH_ready (rs := [26]) (by kernel_rfl) (by simp) ?_
        refine AllReadyH.cons rfl (fun KQ hKQ => ?_) AllReadyH.nil
        go_simp
        refine hKQ.out _ _ (by assumption) (fun hHeld => ?_)
        clear hKQ KQ
        try simp only [Act.put, List.getElem_toArray, List.getElem_cons_zero, List.getElem_cons_succ, List.setIfInBounds_toArray, List.set_cons_zero, List.set_cons_succ]
        refine wpAnyH_take (i := 27) (v := undef) rfl (by kernel_rfl) (by kernel_rfl) (by kernel_rfl) (fun _ _ _ h => h) (Or.inr ⟨by rfl, rfl⟩) (by assumption) ?_
        try simp only [Act.put, List.getElem_toArray, List.getElem_cons_zero, List.getElem_cons_succ, List.setIfInBounds_toArray, List.set_cons_zero, List.set_cons_succ]
        refine wpAnyH_take (i := 28) (v := undef) rfl (by kernel_rfl) (by kernel_rfl) (by kernel_rfl) (fun _ _ _ h => h) (Or.inr ⟨by rfl, rfl⟩) (by assumption) ?_
        try simp only [Act.put, List.getElem_toArray, List.getElem_cons_zero, List.getElem_cons_succ, List.setIfInBounds_toArray, List.set_cons_zero, List.set_cons_succ]
        refine wpAnyH_take (i := 29) (v := ?_) rfl (by kernel_rfl) (by kernel_rfl) (by kernel_rfl) (fun _ _ _ h => h) (Or.inl ⟨by rfl, ?_⟩) (by assumption) ?_
        rotate_left
        · (intro w hSw; (try dsimp only at hSw); go_simp; (try with_reducible rfl))
        try simp only [Act.put, List.getElem_toArray, List.getElem_cons_zero, List.getElem_cons_succ, List.setIfInBounds_toArray, List.set_cons_zero, List.set_cons_succ]
        refine wpAnyH_take (i := 30) (v := ?_) rfl (by kernel_rfl) (by kernel_rfl) (by kernel_rfl) (fun _ _ _ h => h) (Or.inl ⟨by rfl, ?_⟩) (by assumption) ?_
        rotate_left
        · (intro w hSw; (try dsimp only at hSw); go_simp; (try with_reducible rfl))
        try simp only [Act.put, List.getElem_toArray, List.getElem_cons_zero, List.getElem_cons_succ, List.setIfInBounds_toArray, List.set_cons_zero, List.set_cons_succ]
        refine wpAnyH_done (by kernel_rfl) ?_ _
        replace Ba1 := heap_kept hGb0w11_6 Ba1
        replace Bx1 := heap_kept hGb0w11_6 Bx1
        replace Ba2 := heap_kept hGb0w11_6 Ba2
        replace Bx2 := heap_kept hGb0w11_6 Bx2
        replace Bg := heap_kept hGb0w11_6 Bg
        replace Bu := heap_kept hGb0w11_6 Bu
        replace Bv := heap_kept hGb0w11_6 Bv
        replace Bk := heap_kept hGb0w11_6 Bk
        replace ia1 := ia1.kept hGb0w11_6
        replace rx1 := rx1.kept hGb0w11_6
        replace ia2 := ia2.kept hGb0w11_6
        replace rx2 := rx2.kept hGb0w11_6
        replace ig := ig.kept hGb0w11_6
        replace iu := iu.kept hGb0w11_6
        replace iv := iv.kept hGb0w11_6
        replace no := no.kept hGb0w11_6
        replace ik := ik.kept hGb0w11_6
        replace hG := grown_trans hG hGb0w11_6
        clear Ca10 Fa10 Ca11 Fa11 Cx10 Fx10 Cx11 Fx11 Ca20 Fa20 Ca21 Fa21 Cx20 Fx20 Cx21 Fx21 Cg0 Fg0 Cg1 Fg1 Cu0 Fu0 Cu1 Fu1 Cv0 Fv0 Cv1 Fv1 Ck0 Fk0 Ck1 Fk1
        obtain ⟨Ca10, Ca11, Fa10, Fa11⟩ := box_cells Ba1
        obtain ⟨Cx10, Cx11, Fx10, Fx11⟩ := box_cells Bx1
        obtain ⟨Ca20, Ca21, Fa20, Fa21⟩ := box_cells Ba2
        obtain ⟨Cx20, Cx21, Fx20, Fx21⟩ := box_cells Bx2
        obtain ⟨Cg0, Cg1, Fg0, Fg1⟩ := box_cells Bg
        obtain ⟨Cu0, Cu1, Fu0, Fu1⟩ := box_cells Bu
        obtain ⟨Cv0, Cv1, Fv0, Fv1⟩ := box_cells Bv
        obtain ⟨Ck0, Ck1, Fk0, Fk1⟩ := box_cells Bk
        go_wp2_with fail
        have mx1 := refv_of rx1
        have mx2 := refv_of rx2
        go_region_held3 (fun w' => w'.cell? ⟨aw6, 0, none⟩ = some (.slice sg xg.length xg.length) ∧ w'.cell? ⟨aw6, 1, none⟩ = some (.bool bg) ∧ w'.cell? ⟨aw1 + 1, 0, none⟩ = some (.int .i64 gx1) ∧ w'.cell? ⟨aw1 + 1, 1, none⟩ = some (.slice sx1 lx1 cx1) ∧ w'.cell? ⟨aw3 + 1, 0, none⟩ = some (.int .i64 gx2) ∧ w'.cell? ⟨aw3 + 1, 1, none⟩ = some (.slice sx2 lx2 cx2) ∧ w'.cell? ⟨aw1, 0, none⟩ = some (.slice sa1 xa1.length xa1.length) ∧ w'.cell? ⟨aw1, 1, none⟩ = some (.bool ba1) ∧ w'.cell? ⟨aw6 + 1, 0, none⟩ = some (.slice su xu.length xu.length) ∧ w'.cell? ⟨aw6 + 1, 1, none⟩ = some (.bool bu) ∧ w'.cell? ⟨aw3, 0, none⟩ = some (.slice sa2 xa2.length xa2.length) ∧ w'.cell? ⟨aw3, 1, none⟩ = some (.bool ba2) ∧ w'.cell? ⟨aw6 + 1 + 1, 0, none⟩ = some (.slice sv xv.length xv.length) ∧ w'.cell? ⟨aw6 + 1 + 1, 1, none⟩ = some (.bool bv))
          (first | assumption | exact ⟨Cg0, Cg1, Cx10, Cx11, Cx20, Cx21, Ca10, Ca11, Cu0, Cu1, Ca20, Ca21, Cv0, Cv1⟩ | go_keep)
          (first
            | (go_at_call 45; (with_reducible refine (RGcd_any b0w11_6.drew _ _ A1.natAbs B1.natAbs (mx1.kept (grown_drew (grown_refl _ _))) (mx2.kept (grown_drew (grown_refl _ _))) (toD4 lA1 (by omega)) (toD4 lB1 (by omega))).mono ?_); rintro e b0w12_1 ⟨vgr, rfl, mgr, gb0w12_1⟩; have hGb0w12_1 := grown_pre b0w11_6 gb0w12_1 rfl rfl rfl rfl; have hSb0w12_1 := (And.intro (hGb0w12_1.cell Cg0 (by simp)) (And.intro (hGb0w12_1.cell Cg1 (by simp)) (And.intro (hGb0w12_1.cell Cx10 (by simp)) (And.intro (hGb0w12_1.cell Cx11 (by simp)) (And.intro (hGb0w12_1.cell Cx20 (by simp)) (And.intro (hGb0w12_1.cell Cx21 (by simp)) (And.intro (hGb0w12_1.cell Ca10 (by simp)) (And.intro (hGb0w12_1.cell Ca11 (by simp)) (And.intro (hGb0w12_1.cell Cu0 (by simp)) (And.intro (hGb0w12_1.cell Cu1 (by simp)) (And.intro (hGb0w12_1.cell Ca20 (by simp)) (And.intro (hGb0w12_1.cell Ca21 (by simp)) (And.intro (hGb0w12_1.cell Cv0 (by simp)) (hGb0w12_1.cell Cv1 (by simp))))))))))))))); clear gb0w12_1)
            | (go_at_call 44; (with_reducible refine (rMade_any b0w12_1 _ 1 (Nat.gcd A1.natAbs B1.natAbs) ((Nat.gcd A1.natAbs B1.natAbs : Nat) : Int) mgr (Int.natAbs_natCast _) (sign_one _)).mono ?_); rintro e b0w12_2 ⟨vgm, rfl, rgm, gb0w12_2⟩; have hGb0w12_2 := grown_trans hGb0w12_1 gb0w12_2; replace mgr := mgr.kept gb0w12_2; have hSb0w12_2 := (And.intro (hGb0w12_2.cell Cg0 (by simp)) (And.intro (hGb0w12_2.cell Cg1 (by simp)) (And.intro (hGb0w12_2.cell Cx10 (by simp)) (And.intro (hGb0w12_2.cell Cx11 (by simp)) (And.intro (hGb0w12_2.cell Cx20 (by simp)) (And.intro (hGb0w12_2.cell Cx21 (by simp)) (And.intro (hGb0w12_2.cell Ca10 (by simp)) (And.intro (hGb0w12_2.cell Ca11 (by simp)) (And.intro (hGb0w12_2.cell Cu0 (by simp)) (And.intro (hGb0w12_2.cell Cu1 (by simp)) (And.intro (hGb0w12_2.cell Ca20 (by simp)) (And.intro (hGb0w12_2.cell Ca21 (by simp)) (And.intro (hGb0w12_2.cell Cv0 (by simp)) (hGb0w12_2.cell Cv1 (by simp))))))))))))))); clear gb0w12_2)
            | (go_at_call 18; (with_reducible refine (same_any b0w12_2 _ _ ((Nat.gcd A1.natAbs B1.natAbs : Nat) : Int) 8 (ig.kept hGb0w12_2) rgm (by omega) (by rw [Int.natAbs_natCast]; exact zgcd_bd lA1 lB1)).mono ?_); rintro e b0w12_3 ⟨rfl, gb0w12_3⟩; have hGb0w12_3 := grown_trans hGb0w12_2 gb0w12_3; replace mgr := mgr.kept gb0w12_3; replace rgm := rgm.kept gb0w12_3; have hSb0w12_3 := (And.intro (hGb0w12_3.cell Cg0 (by simp)) (And.intro (hGb0w12_3.cell Cg1 (by simp)) (And.intro (hGb0w12_3.cell Cx10 (by simp)) (And.intro (hGb0w12_3.cell Cx11 (by simp)) (And.intro (hGb0w12_3.cell Cx20 (by simp)) (And.intro (hGb0w12_3.cell Cx21 (by simp)) (And.intro (hGb0w12_3.cell Ca10 (by simp)) (And.intro (hGb0w12_3.cell Ca11 (by simp)) (And.intro (hGb0w12_3.cell Cu0 (by simp)) (And.intro (hGb0w12_3.cell Cu1 (by simp)) (And.intro (hGb0w12_3.cell Ca20 (by simp)) (And.intro (hGb0w12_3.cell Ca21 (by simp)) (And.intro (hGb0w12_3.cell Cv0 (by simp)) (hGb0w12_3.cell Cv1 (by simp))))))))))))))); clear gb0w12_3)
            | (go_at_call 36; (with_reducible refine (ZMul_any b0w12_3 _ _ A1 u1 9 (ia1.kept hGb0w12_3) (iu.kept hGb0w12_3) (by omega) (bw lA1 (by omega)) LU.out).mono ?_); rintro e b0w12_4 ⟨vz5_, rfl, z5_, gb0w12_4⟩; have hGb0w12_4 := grown_trans hGb0w12_3 gb0w12_4; replace mgr := mgr.kept gb0w12_4; replace rgm := rgm.kept gb0w12_4; have hSb0w12_4 := (And.intro (hGb0w12_4.cell Cg0 (by simp)) (And.intro (hGb0w12_4.cell Cg1 (by simp)) (And.intro (hGb0w12_4.cell Cx10 (by simp)) (And.intro (hGb0w12_4.cell Cx11 (by simp)) (And.intro (hGb0w12_4.cell Cx20 (by simp)) (And.intro (hGb0w12_4.cell Cx21 (by simp)) (And.intro (hGb0w12_4.cell Ca10 (by simp)) (And.intro (hGb0w12_4.cell Ca11 (by simp)) (And.intro (hGb0w12_4.cell Cu0 (by simp)) (And.intro (hGb0w12_4.cell Cu1 (by simp)) (And.intro (hGb0w12_4.cell Ca20 (by simp)) (And.intro (hGb0w12_4.cell Ca21 (by simp)) (And.intro (hGb0w12_4.cell Cv0 (by simp)) (hGb0w12_4.cell Cv1 (by simp))))))))))))))); clear gb0w12_4)
            | (go_at_call 36; (with_reducible refine (ZMul_any b0w12_4 _ _ B1 v1 9 (ia2.kept hGb0w12_4) (iv.kept hGb0w12_4) (by omega) (bw lB1 (by omega)) LV.out).mono ?_); rintro e b0w12_5 ⟨vz6_, rfl, z6_, gb0w12_5⟩; have hGb0w12_5 := grown_trans hGb0w12_4 gb0w12_5; replace mgr := mgr.kept gb0w12_5; replace rgm := rgm.kept gb0w12_5; replace z5_ := z5_.kept gb0w12_5; have hSb0w12_5 := (And.intro (hGb0w12_5.cell Cg0 (by simp)) (And.intro (hGb0w12_5.cell Cg1 (by simp)) (And.intro (hGb0w12_5.cell Cx10 (by simp)) (And.intro (hGb0w12_5.cell Cx11 (by simp)) (And.intro (hGb0w12_5.cell Cx20 (by simp)) (And.intro (hGb0w12_5.cell Cx21 (by simp)) (And.intro (hGb0w12_5.cell Ca10 (by simp)) (And.intro (hGb0w12_5.cell Ca11 (by simp)) (And.intro (hGb0w12_5.cell Cu0 (by simp)) (And.intro (hGb0w12_5.cell Cu1 (by simp)) (And.intro (hGb0w12_5.cell Ca20 (by simp)) (And.intro (hGb0w12_5.cell Ca21 (by simp)) (And.intro (hGb0w12_5.cell Cv0 (by simp)) (hGb0w12_5.cell Cv1 (by simp))))))))))))))); clear gb0w12_5)
            | (go_at_call 29; (with_reducible refine (ZAdd_any b0w12_5 _ _ (A1 * u1) (B1 * v1) 17 z5_ z6_ (by omega) (zmul_bd lA1 LU.out) (zmul_bd lB1 LV.out)).mono ?_); rintro e b0w12_6 ⟨vz7_, rfl, z7_, gb0w12_6⟩; have hGb0w12_6 := grown_trans hGb0w12_5 gb0w12_6; replace mgr := mgr.kept gb0w12_6; replace rgm := rgm.kept gb0w12_6; replace z5_ := z5_.kept gb0w12_6; replace z6_ := z6_.kept gb0w12_6; have hSb0w12_6 := (And.intro (hGb0w12_6.cell Cg0 (by simp)) (And.intro (hGb0w12_6.cell Cg1 (by simp)) (And.intro (hGb0w12_6.cell Cx10 (by simp)) (And.intro (hGb0w12_6.cell Cx11 (by simp)) (And.intro (hGb0w12_6.cell Cx20 (by simp)) (And.intro (hGb0w12_6.cell Cx21 (by simp)) (And.intro (hGb0w12_6.cell Ca10 (by simp)) (And.intro (hGb0w12_6.cell Ca11 (by simp)) (And.intro (hGb0w12_6.cell Cu0 (by simp)) (And.intro (hGb0w12_6.cell Cu1 (by simp)) (And.intro (hGb0w12_6.cell Ca20 (by simp)) (And.intro (hGb0w12_6.cell Ca21 (by simp)) (And.intro (hGb0w12_6.cell Cv0 (by simp)) (hGb0w12_6.cell Cv1 (by simp))))))))))))))); clear gb0w12_6)
            | (go_at_call 25; (with_reducible refine (ZCmp_any b0w12_6 _ _ ((A1 * u1) + (B1 * v1)) ((Nat.gcd A1.natAbs B1.natAbs : Nat) : Int) 18 z7_ (ig.kept hGb0w12_6) (by omega) (zadd_bd (k := 17) (zmul_bd lA1 LU.out) (zmul_bd lB1 LV.out)) (bw (show (((Nat.gcd A1.natAbs B1.natAbs : Nat) : Int)).natAbs < B ^ 8 by rw [Int.natAbs_natCast]; exact zgcd_bd lA1 lB1) (by omega))).mono ?_); rintro e b0w12_7 ⟨rfl, gb0w12_7⟩; rw [zcmp_eq HGE.out]; have hGb0w12_7 := grown_trans hGb0w12_6 gb0w12_7; replace mgr := mgr.kept gb0w12_7; replace rgm := rgm.kept gb0w12_7; replace z5_ := z5_.kept gb0w12_7; replace z6_ := z6_.kept gb0w12_7; replace z7_ := z7_.kept gb0w12_7; have hSb0w12_7 := (And.intro (hGb0w12_7.cell Cg0 (by simp)) (And.intro (hGb0w12_7.cell Cg1 (by simp)) (And.intro (hGb0w12_7.cell Cx10 (by simp)) (And.intro (hGb0w12_7.cell Cx11 (by simp)) (And.intro (hGb0w12_7.cell Cx20 (by simp)) (And.intro (hGb0w12_7.cell Cx21 (by simp)) (And.intro (hGb0w12_7.cell Ca10 (by simp)) (And.intro (hGb0w12_7.cell Ca11 (by simp)) (And.intro (hGb0w12_7.cell Cu0 (by simp)) (And.intro (hGb0w12_7.cell Cu1 (by simp)) (And.intro (hGb0w12_7.cell Ca20 (by simp)) (And.intro (hGb0w12_7.cell Ca21 (by simp)) (And.intro (hGb0w12_7.cell Cv0 (by simp)) (hGb0w12_7.cell Cv1 (by simp))))))))))))))); clear gb0w12_7))
        replace Ba1 := heap_kept hGb0w12_7 Ba1
        replace Bx1 := heap_kept hGb0w12_7 Bx1
        replace Ba2 := heap_kept hGb0w12_7 Ba2
        replace Bx2 := heap_kept hGb0w12_7 Bx2
        replace Bg := heap_kept hGb0w12_7 Bg
        replace Bu := heap_kept hGb0w12_7 Bu
        replace Bv := heap_kept hGb0w12_7 Bv
        replace Bk := heap_kept hGb0w12_7 Bk
        replace ia1 := ia1.kept hGb0w12_7
        replace rx1 := rx1.kept hGb0w12_7
        replace ia2 := ia2.kept hGb0w12_7
        replace rx2 := rx2.kept hGb0w12_7
        replace ig := ig.kept hGb0w12_7
        replace iu := iu.kept hGb0w12_7
        replace iv := iv.kept hGb0w12_7
        replace no := no.kept hGb0w12_7
        replace ik := ik.kept hGb0w12_7
        replace mx1 := mx1.kept hGb0w12_7
        replace mx2 := mx2.kept hGb0w12_7
        replace hG := grown_trans hG hGb0w12_7
        clear Ca10 Fa10 Ca11 Fa11 Cx10 Fx10 Cx11 Fx11 Ca20 Fa20 Ca21 Fa21 Cx20 Fx20 Cx21 Fx21 Cg0 Fg0 Cg1 Fg1 Cu0 Fu0 Cu1 Fu1 Cv0 Fv0 Cv1 Fv1 Ck0 Fk0 Ck1 Fk1
        obtain ⟨Ca10, Ca11, Fa10, Fa11⟩ := box_cells Ba1
        obtain ⟨Cx10, Cx11, Fx10, Fx11⟩ := box_cells Bx1
        obtain ⟨Ca20, Ca21, Fa20, Fa21⟩ := box_cells Ba2
        obtain ⟨Cx20, Cx21, Fx20, Fx21⟩ := box_cells Bx2
        obtain ⟨Cg0, Cg1, Fg0, Fg1⟩ := box_cells Bg
        obtain ⟨Cu0, Cu1, Fu0, Fu1⟩ := box_cells Bu
        obtain ⟨Cv0, Cv1, Fv0, Fv1⟩ := box_cells Bv
        obtain ⟨Ck0, Ck1, Fk0, Fk1⟩ := box_cells Bk
        go_wp2_with fail
        go_ret
        exact ⟨by first | rfl | simp, hG⟩
      · skip
        go_wp2_with fail
        generalize (w9.alloc (.cells #[.slice sk xk.length xk.length, .bool bk] 26)) = w10 at *
        generalize w9.heap.size = aw9 at *
        replace hzw9 := hzw9.out
        replace hla1w9 := hla1w9.out
        replace hlx1w9 := hlx1w9.out
        replace hla2w9 := hla2w9.out
        replace hlx2w9 := hlx2w9.out
        replace hlgw9 := hlgw9.out
        replace hluw9 := hluw9.out
        replace hlvw9 := hlvw9.out
        refine wp_region_held_drew (S := fun w' => w'.cell? ⟨aw6 + 1, 0, none⟩ = some (.slice su xu.length xu.length) ∧ w'.cell? ⟨aw6 + 1, 1, none⟩ = some (.bool bu) ∧ w'.cell? ⟨aw6 + 1 + 1, 0, none⟩ = some (.slice sv xv.length xv.length) ∧ w'.cell? ⟨aw6 + 1 + 1, 1, none⟩ = some (.bool bv) ∧ w'.cell? ⟨aw9, 0, none⟩ = some (.slice sk xk.length xk.length) ∧ w'.cell? ⟨aw9, 1, none⟩ = some (.bool bk) ∧ w'.cell? ⟨aw1, 0, none⟩ = some (.slice sa1 xa1.length xa1.length) ∧ w'.cell? ⟨aw1, 1, none⟩ = some (.bool ba1) ∧ w'.cell? ⟨aw3, 0, none⟩ = some (.slice sa2 xa2.length xa2.length) ∧ w'.cell? ⟨aw3, 1, none⟩ = some (.bool ba2)) (by kernel_rfl) (by exact ⟨Cu0, Cu1, Cv0, Cv1, Ck0, Ck1, Ca10, Ca11, Ca20, Ca21⟩) (fun hHeld => ?_)
        refine wpAnyH_take (i := 0) (v := ?_) rfl (by kernel_rfl) (by kernel_rfl) (by kernel_rfl) (fun _ _ _ h => h) (Or.inl ⟨by rfl, ?_⟩) (by assumption) ?_
        rotate_left
        · (intro w hSw; (try dsimp only at hSw); go_simp; (try with_reducible rfl))
        try simp only [Act.put, List.getElem_toArray, List.getElem_cons_zero, List.getElem_cons_succ, List.setIfInBounds_toArray, List.set_cons_zero, List.set_cons_succ]
        refine wpAnyH_take (i := 3) (v := ?_) rfl (by kernel_rfl) (by kernel_rfl) (by kernel_rfl) (fun _ _ _ h => h) (Or.inl ⟨by rfl, ?_⟩) (by assumption) ?_
        rotate_left
        · (intro w hSw; (try dsimp only at hSw); go_simp; (try with_reducible rfl))
        try simp only [Act.put, List.getElem_toArray, List.getElem_cons_zero, List.getElem_cons_succ, List.setIfInBounds_toArray, List.set_cons_zero, List.set_cons_succ]
        refine wpAnyH_ready (rs := [1]) (by kernel_rfl) (by simp) ?_
        refine AllReadyH.cons rfl (fun KQ hKQ => ?_) AllReadyH.nil
        go_simp
        (go_at_call 21; (with_reducible refine (Abs_any w10.drew _ u1 9 (iu.kept (grown_drew (grown_refl _ _))) (by omega) LU.out).mono ?_); rintro e b1w11_1 ⟨va8_, rfl, a8_, gb1w11_1⟩; have hGb1w11_1 := grown_pre w10 gb1w11_1 rfl rfl rfl rfl; have hSb1w11_1 := (And.intro (hGb1w11_1.cell Cu0 (by simp)) (And.intro (hGb1w11_1.cell Cu1 (by simp)) (And.intro (hGb1w11_1.cell Cv0 (by simp)) (And.intro (hGb1w11_1.cell Cv1 (by simp)) (And.intro (hGb1w11_1.cell Ck0 (by simp)) (And.intro (hGb1w11_1.cell Ck1 (by simp)) (And.intro (hGb1w11_1.cell Ca10 (by simp)) (And.intro (hGb1w11_1.cell Ca11 (by simp)) (And.intro (hGb1w11_1.cell Ca20 (by simp)) (hGb1w11_1.cell Ca21 (by simp))))))))))); clear gb1w11_1)
        (try go_wp2_with fail)
        refine hKQ.out _ _ (by exact hSb1w11_1) (fun hHeld => ?_)
        clear hKQ KQ
        try simp only [Act.put, List.getElem_toArray, List.getElem_cons_zero, List.getElem_cons_succ, List.setIfInBounds_toArray, List.set_cons_zero, List.set_cons_succ]
        refine wpAnyH_ready (rs := [2]) (by kernel_rfl) (by simp) ?_
        refine AllReadyH.cons rfl (fun KQ hKQ => ?_) AllReadyH.nil
        go_simp
        (go_at_call 24; (with_reducible refine (Big_any b1w11_1 _ u1.natAbs 9 a8_ (by omega) LU.out).mono ?_); rintro e b1w11_2 ⟨vb9_, rfl, b9_, gb1w11_2⟩; have hGb1w11_2 := grown_trans hGb1w11_1 gb1w11_2; replace a8_ := a8_.kept gb1w11_2; have hSb1w11_2 := (And.intro (hGb1w11_2.cell Cu0 (by simp)) (And.intro (hGb1w11_2.cell Cu1 (by simp)) (And.intro (hGb1w11_2.cell Cv0 (by simp)) (And.intro (hGb1w11_2.cell Cv1 (by simp)) (And.intro (hGb1w11_2.cell Ck0 (by simp)) (And.intro (hGb1w11_2.cell Ck1 (by simp)) (And.intro (hGb1w11_2.cell Ca10 (by simp)) (And.intro (hGb1w11_2.cell Ca11 (by simp)) (And.intro (hGb1w11_2.cell Ca20 (by simp)) (hGb1w11_2.cell Ca21 (by simp))))))))))); clear gb1w11_2)
        (try go_wp2_with fail)
        refine hKQ.out _ _ (by exact hSb1w11_2) (fun hHeld => ?_)
        clear hKQ KQ
        try simp only [Act.put, List.getElem_toArray, List.getElem_cons_zero, List.getElem_cons_succ, List.setIfInBounds_toArray, List.set_cons_zero, List.set_cons_succ]
        refine wpAnyH_ready (rs := [4]) (by kernel_rfl) (by simp) ?_
        refine AllReadyH.cons rfl (fun KQ hKQ => ?_) AllReadyH.nil
        go_simp
        (go_at_call 25; (with_reducible refine (ZCmp_any b1w11_2 _ _ (u1.natAbs : Int) 1 9 b9_ (ik.kept hGb1w11_2) (by omega) (by rw [Int.natAbs_natCast]; exact LU.out) l91.out).mono ?_); rintro e b1w11_3 ⟨rfl, gb1w11_3⟩; rw [HK1.out]; have hGb1w11_3 := grown_trans hGb1w11_2 gb1w11_3; replace a8_ := a8_.kept gb1w11_3; replace b9_ := b9_.kept gb1w11_3; have hSb1w11_3 := (And.intro (hGb1w11_3.cell Cu0 (by simp)) (And.intro (hGb1w11_3.cell Cu1 (by simp)) (And.intro (hGb1w11_3.cell Cv0 (by simp)) (And.intro (hGb1w11_3.cell Cv1 (by simp)) (And.intro (hGb1w11_3.cell Ck0 (by simp)) (And.intro (hGb1w11_3.cell Ck1 (by simp)) (And.intro (hGb1w11_3.cell Ca10 (by simp)) (And.intro (hGb1w11_3.cell Ca11 (by simp)) (And.intro (hGb1w11_3.cell Ca20 (by simp)) (hGb1w11_3.cell Ca21 (by simp))))))))))); clear gb1w11_3)
        (try go_wp2_with fail)
        refine hKQ.out _ _ (by exact hSb1w11_3) (fun hHeld => ?_)
        clear hKQ KQ
        try simp only [Act.put, List.getElem_toArray, List.getElem_cons_zero, List.getElem_cons_succ, List.setIfInBounds_toArray, List.set_cons_zero, List.set_cons_succ]
        refine wpAnyH_take (i := 5) (v := ?_) rfl (by kernel_rfl) (by kernel_rfl) (by kernel_rfl) (fun _ _ _ h => h) (Or.inl ⟨by rfl, ?_⟩) (by assumption) ?_
        rotate_left
        · (intro w hSw; (try dsimp only at hSw); go_simp; (try with_reducible rfl))
        try simp only [Act.put, List.getElem_toArray, List.getElem_cons_zero, List.getElem_cons_succ, List.setIfInBounds_toArray, List.set_cons_zero, List.set_cons_succ]
        refine wpAnyH_take (i := 6) (v := ?_) rfl (by kernel_rfl) (by kernel_rfl) (by kernel_rfl) (fun _ _ _ h => h) (Or.inl ⟨by rfl, ?_⟩) (by assumption) ?_
        rotate_left
        · (intro w hSw; (try dsimp only at hSw); go_simp; (try with_reducible rfl))
        try simp only [Act.put, List.getElem_toArray, List.getElem_cons_zero, List.getElem_cons_succ, List.setIfInBounds_toArray, List.set_cons_zero, List.set_cons_succ]
        refine wpAnyH_take (i := 7) (v := ?_) rfl (by kernel_rfl) (by kernel_rfl) (by kernel_rfl) (fun _ _ _ h => h) (Or.inl ⟨by rfl, ?_⟩) (by assumption) ?_
        rotate_left
        · (intro w hSw; (try dsimp only at hSw); go_simp; (try with_reducible rfl))
        try simp only [Act.put, List.getElem_toArray, List.getElem_cons_zero, List.getElem_cons_succ, List.setIfInBounds_toArray, List.set_cons_zero, List.set_cons_succ]
        refine wpAnyH_take (i := 10) (v := ?_) rfl (by kernel_rfl) (by kernel_rfl) (by kernel_rfl) (fun _ _ _ h => h) (Or.inl ⟨by rfl, ?_⟩) (by assumption) ?_
        rotate_left
        · (intro w hSw; (try dsimp only at hSw); go_simp; (try with_reducible rfl))
        try simp only [Act.put, List.getElem_toArray, List.getElem_cons_zero, List.getElem_cons_succ, List.setIfInBounds_toArray, List.set_cons_zero, List.set_cons_succ]
        refine wpAnyH_ready (rs := [8]) (by kernel_rfl) (by simp) ?_
        refine AllReadyH.cons rfl (fun KQ hKQ => ?_) AllReadyH.nil
        go_simp
        (go_at_call 21; (with_reducible refine (Abs_any b1w11_3 _ v1 9 (iv.kept hGb1w11_3) (by omega) LV.out).mono ?_); rintro e b1w11_4 ⟨va10_, rfl, a10_, gb1w11_4⟩; have hGb1w11_4 := grown_trans hGb1w11_3 gb1w11_4; replace a8_ := a8_.kept gb1w11_4; replace b9_ := b9_.kept gb1w11_4; have hSb1w11_4 := (And.intro (hGb1w11_4.cell Cu0 (by simp)) (And.intro (hGb1w11_4.cell Cu1 (by simp)) (And.intro (hGb1w11_4.cell Cv0 (by simp)) (And.intro (hGb1w11_4.cell Cv1 (by simp)) (And.intro (hGb1w11_4.cell Ck0 (by simp)) (And.intro (hGb1w11_4.cell Ck1 (by simp)) (And.intro (hGb1w11_4.cell Ca10 (by simp)) (And.intro (hGb1w11_4.cell Ca11 (by simp)) (And.intro (hGb1w11_4.cell Ca20 (by simp)) (hGb1w11_4.cell Ca21 (by simp))))))))))); clear gb1w11_4)
        (try go_wp2_with fail)
        refine hKQ.out _ _ (by exact hSb1w11_4) (fun hHeld => ?_)
        clear hKQ KQ
        try simp only [Act.put, List.getElem_toArray, List.getElem_cons_zero, List.getElem_cons_succ, List.setIfInBounds_toArray, List.set_cons_zero, List.set_cons_succ]
        refine wpAnyH_ready (rs := [9]) (by kernel_rfl) (by simp) ?_
        refine AllReadyH.cons rfl (fun KQ hKQ => ?_) AllReadyH.nil
        go_simp
        (go_at_call 24; (with_reducible refine (Big_any b1w11_4 _ v1.natAbs 9 a10_ (by omega) LV.out).mono ?_); rintro e b1w11_5 ⟨vb11_, rfl, b11_, gb1w11_5⟩; have hGb1w11_5 := grown_trans hGb1w11_4 gb1w11_5; replace a8_ := a8_.kept gb1w11_5; replace b9_ := b9_.kept gb1w11_5; replace a10_ := a10_.kept gb1w11_5; have hSb1w11_5 := (And.intro (hGb1w11_5.cell Cu0 (by simp)) (And.intro (hGb1w11_5.cell Cu1 (by simp)) (And.intro (hGb1w11_5.cell Cv0 (by simp)) (And.intro (hGb1w11_5.cell Cv1 (by simp)) (And.intro (hGb1w11_5.cell Ck0 (by simp)) (And.intro (hGb1w11_5.cell Ck1 (by simp)) (And.intro (hGb1w11_5.cell Ca10 (by simp)) (And.intro (hGb1w11_5.cell Ca11 (by simp)) (And.intro (hGb1w11_5.cell Ca20 (by simp)) (hGb1w11_5.cell Ca21 (by simp))))))))))); clear gb1w11_5)
        (try go_wp2_with fail)
        refine hKQ.out _ _ (by exact hSb1w11_5) (fun hHeld => ?_)
        clear hKQ KQ
        try simp only [Act.put, List.getElem_toArray, List.getElem_cons_zero, List.getElem_cons_succ, List.setIfInBounds_toArray, List.set_cons_zero, List.set_cons_succ]
        refine wpAnyH_ready (rs := [11]) (by kernel_rfl) (by simp) ?_
        refine AllReadyH.cons rfl (fun KQ hKQ => ?_) AllReadyH.nil
        go_simp
        (go_at_call 25; (with_reducible refine (ZCmp_any b1w11_5 _ _ (v1.natAbs : Int) 1 9 b11_ (ik.kept hGb1w11_5) (by omega) (by rw [Int.natAbs_natCast]; exact LV.out) l91.out).mono ?_); rintro e b1w11_6 ⟨rfl, gb1w11_6⟩; rw [HK2.out]; have hGb1w11_6 := grown_trans hGb1w11_5 gb1w11_6; replace a8_ := a8_.kept gb1w11_6; replace b9_ := b9_.kept gb1w11_6; replace a10_ := a10_.kept gb1w11_6; replace b11_ := b11_.kept gb1w11_6; have hSb1w11_6 := (And.intro (hGb1w11_6.cell Cu0 (by simp)) (And.intro (hGb1w11_6.cell Cu1 (by simp)) (And.intro (hGb1w11_6.cell Cv0 (by simp)) (And.intro (hGb1w11_6.cell Cv1 (by simp)) (And.intro (hGb1w11_6.cell Ck0 (by simp)) (And.intro (hGb1w11_6.cell Ck1 (by simp)) (And.intro (hGb1w11_6.cell Ca10 (by simp)) (And.intro (hGb1w11_6.cell Ca11 (by simp)) (And.intro (hGb1w11_6.cell Ca20 (by simp)) (hGb1w11_6.cell Ca21 (by simp))))))))))); clear gb1w11_6)
        (try go_wp2_with fail)
        refine hKQ.out _ _ (by exact hSb1w11_6) (fun hHeld => ?_)
        clear hKQ KQ
        try simp only [Act.put, List.getElem_toArray, List.getElem_cons_zero, List.getElem_cons_succ, List.setIfInBounds_toArray, List.set_cons_zero, List.set_cons_succ]
        refine wpAnyH_take (i := 12) (v := ?_) rfl (by kernel_rfl) (by kernel_rfl) (by kernel_rfl) (fun _ _ _ h => h) (Or.inl ⟨by rfl, ?_⟩) (by assumption) ?_
        rotate_left
        · (intro w hSw; (try dsimp only at hSw); go_simp; (try with_reducible rfl))
        try simp only [Act.put, List.getElem_toArray, List.getElem_cons_zero, List.getElem_cons_succ, List.setIfInBounds_toArray, List.set_cons_zero, List.set_cons_succ]
        refine wpAnyH_take (i := 13) (v := ?_) rfl (by kernel_rfl) (by kernel_rfl) (by kernel_rfl) (fun _ _ _ h => h) (Or.inl ⟨by rfl, ?_⟩) (by assumption) ?_
        rotate_left
        · (intro w hSw; (try dsimp only at hSw); go_simp; (try with_reducible rfl))
        try simp only [Act.put, List.getElem_toArray, List.getElem_cons_zero, List.getElem_cons_succ, List.setIfInBounds_toArray, List.set_cons_zero, List.set_cons_succ]
        refine wpAnyH_take (i := 14) (v := ?_) rfl (by kernel_rfl) (by kernel_rfl) (by kernel_rfl) (fun _ _ _ h => h) (Or.inl ⟨by rfl, ?_⟩) (by assumption) ?_
        rotate_left
        · (intro w hSw; (try dsimp only at hSw); go_simp; (try with_reducible rfl))
        try simp only [Act.put, List.getElem_toArray, List.getElem_cons_zero, List.getElem_cons_succ, List.setIfInBounds_toArray, List.set_cons_zero, List.set_cons_succ]
        refine wpAnyH_take (i := 15) (v := ?_) rfl (by kernel_rfl) (by kernel_rfl) (by kernel_rfl) (fun _ _ _ h => h) (Or.inl ⟨by rfl, ?_⟩) (by assumption) ?_
        rotate_left
        · (intro w hSw; (try dsimp only at hSw); go_simp; (try with_reducible rfl))
        try simp only [Act.put, List.getElem_toArray, List.getElem_cons_zero, List.getElem_cons_succ, List.setIfInBounds_toArray, List.set_cons_zero, List.set_cons_succ]
        refine wpAnyH_take (i := 17) (v := ?_) rfl (by kernel_rfl) (by kernel_rfl) (by kernel_rfl) (fun _ _ _ h => h) (Or.inl ⟨by rfl, ?_⟩) (by assumption) ?_
        rotate_left
        · (intro w hSw; (try dsimp only at hSw); go_simp; (try with_reducible rfl))
        try simp only [Act.put, List.getElem_toArray, List.getElem_cons_zero, List.getElem_cons_succ, List.setIfInBounds_toArray, List.set_cons_zero, List.set_cons_succ]
        refine wpAnyH_ready (rs := [16]) (by kernel_rfl) (by simp) ?_
        refine AllReadyH.cons rfl (fun KQ hKQ => ?_) AllReadyH.nil
        go_simp
        (go_at_call 21; (with_reducible refine (Abs_any b1w11_6 _ u1 9 (iu.kept hGb1w11_6) (by omega) LU.out).mono ?_); rintro e b1w11_7 ⟨va12_, rfl, a12_, gb1w11_7⟩; have hGb1w11_7 := grown_trans hGb1w11_6 gb1w11_7; replace a8_ := a8_.kept gb1w11_7; replace b9_ := b9_.kept gb1w11_7; replace a10_ := a10_.kept gb1w11_7; replace b11_ := b11_.kept gb1w11_7; have hSb1w11_7 := (And.intro (hGb1w11_7.cell Cu0 (by simp)) (And.intro (hGb1w11_7.cell Cu1 (by simp)) (And.intro (hGb1w11_7.cell Cv0 (by simp)) (And.intro (hGb1w11_7.cell Cv1 (by simp)) (And.intro (hGb1w11_7.cell Ck0 (by simp)) (And.intro (hGb1w11_7.cell Ck1 (by simp)) (And.intro (hGb1w11_7.cell Ca10 (by simp)) (And.intro (hGb1w11_7.cell Ca11 (by simp)) (And.intro (hGb1w11_7.cell Ca20 (by simp)) (hGb1w11_7.cell Ca21 (by simp))))))))))); clear gb1w11_7)
        (try go_wp2_with fail)
        refine hKQ.out _ _ (by exact hSb1w11_7) (fun hHeld => ?_)
        clear hKQ KQ
        try simp only [Act.put, List.getElem_toArray, List.getElem_cons_zero, List.getElem_cons_succ, List.setIfInBounds_toArray, List.set_cons_zero, List.set_cons_succ]
        refine wpAnyH_ready (rs := [18]) (by kernel_rfl) (by simp) ?_
        refine AllReadyH.cons rfl (fun KQ hKQ => ?_) AllReadyH.nil
        go_simp
        (go_at_call 21; (with_reducible refine (Abs_any b1w11_7 _ B1 8 (ia2.kept hGb1w11_7) (by omega) lB1).mono ?_); rintro e b1w11_8 ⟨vb13_, rfl, b13_, gb1w11_8⟩; have hGb1w11_8 := grown_trans hGb1w11_7 gb1w11_8; replace a8_ := a8_.kept gb1w11_8; replace b9_ := b9_.kept gb1w11_8; replace a10_ := a10_.kept gb1w11_8; replace b11_ := b11_.kept gb1w11_8; replace a12_ := a12_.kept gb1w11_8; have hSb1w11_8 := (And.intro (hGb1w11_8.cell Cu0 (by simp)) (And.intro (hGb1w11_8.cell Cu1 (by simp)) (And.intro (hGb1w11_8.cell Cv0 (by simp)) (And.intro (hGb1w11_8.cell Cv1 (by simp)) (And.intro (hGb1w11_8.cell Ck0 (by simp)) (And.intro (hGb1w11_8.cell Ck1 (by simp)) (And.intro (hGb1w11_8.cell Ca10 (by simp)) (And.intro (hGb1w11_8.cell Ca11 (by simp)) (And.intro (hGb1w11_8.cell Ca20 (by simp)) (hGb1w11_8.cell Ca21 (by simp))))))))))); clear gb1w11_8)
        (try go_wp2_with fail)
        refine hKQ.out _ _ (by exact hSb1w11_8) (fun hHeld => ?_)
        clear hKQ KQ
        try simp only [Act.put, List.getElem_toArray, List.getElem_cons_zero, List.getElem_cons_succ, List.setIfInBounds_toArray, List.set_cons_zero, List.set_cons_succ]
        refine wpAnyH_ready (rs := [19]) (by kernel_rfl) (by simp) ?_
        refine AllReadyH.cons rfl (fun KQ hKQ => ?_) AllReadyH.nil
        go_simp
        (go_at_call 43; (with_reducible refine (Cmp_any b1w11_8 _ _ u1.natAbs B1.natAbs 9 a12_ b13_ (by omega) LU.out (bw lB1 (by omega))).mono ?_); rintro e b1w11_9 ⟨rfl, gb1w11_9⟩; rw [HN1.out]; have hGb1w11_9 := grown_trans hGb1w11_8 gb1w11_9; replace a8_ := a8_.kept gb1w11_9; replace b9_ := b9_.kept gb1w11_9; replace a10_ := a10_.kept gb1w11_9; replace b11_ := b11_.kept gb1w11_9; replace a12_ := a12_.kept gb1w11_9; replace b13_ := b13_.kept gb1w11_9; have hSb1w11_9 := (And.intro (hGb1w11_9.cell Cu0 (by simp)) (And.intro (hGb1w11_9.cell Cu1 (by simp)) (And.intro (hGb1w11_9.cell Cv0 (by simp)) (And.intro (hGb1w11_9.cell Cv1 (by simp)) (And.intro (hGb1w11_9.cell Ck0 (by simp)) (And.intro (hGb1w11_9.cell Ck1 (by simp)) (And.intro (hGb1w11_9.cell Ca10 (by simp)) (And.intro (hGb1w11_9.cell Ca11 (by simp)) (And.intro (hGb1w11_9.cell Ca20 (by simp)) (hGb1w11_9.cell Ca21 (by simp))))))))))); clear gb1w11_9)
        (try go_wp2_with fail)
        refine hKQ.out _ _ (by exact hSb1w11_9) (fun hHeld => ?_)
        clear hKQ KQ
        try simp only [Act.put, List.getElem_toArray, List.getElem_cons_zero, List.getElem_cons_succ, List.setIfInBounds_toArray, List.set_cons_zero, List.set_cons_succ]
        refine wpAnyH_take (i := 20) (v := ?_) rfl (by kernel_rfl) (by kernel_rfl) (by kernel_rfl) (fun _ _ _ h => h) (Or.inl ⟨by rfl, ?_⟩) (by assumption) ?_
        rotate_left
        · (intro w hSw; (try dsimp only at hSw); go_simp; (try with_reducible rfl))
        try simp only [Act.put, List.getElem_toArray, List.getElem_cons_zero, List.getElem_cons_succ, List.setIfInBounds_toArray, List.set_cons_zero, List.set_cons_succ]
        refine wpAnyH_take (i := 21) (v := ?_) rfl (by kernel_rfl) (by kernel_rfl) (by kernel_rfl) (fun _ _ _ h => h) (Or.inl ⟨by rfl, ?_⟩) (by assumption) ?_
        rotate_left
        · (intro w hSw; (try dsimp only at hSw); go_simp; (try with_reducible rfl))
        try simp only [Act.put, List.getElem_toArray, List.getElem_cons_zero, List.getElem_cons_succ, List.setIfInBounds_toArray, List.set_cons_zero, List.set_cons_succ]
        refine wpAnyH_take (i := 22) (v := ?_) rfl (by kernel_rfl) (by kernel_rfl) (by kernel_rfl) (fun _ _ _ h => h) (Or.inl ⟨by rfl, ?_⟩) (by assumption) ?_
        rotate_left
        · (intro w hSw; (try dsimp only at hSw); go_simp; (try with_reducible rfl))
        try simp only [Act.put, List.getElem_toArray, List.getElem_cons_zero, List.getElem_cons_succ, List.setIfInBounds_toArray, List.set_cons_zero, List.set_cons_succ]
        refine wpAnyH_take (i := 24) (v := ?_) rfl (by kernel_rfl) (by kernel_rfl) (by kernel_rfl) (fun _ _ _ h => h) (Or.inl ⟨by rfl, ?_⟩) (by assumption) ?_
        rotate_left
        · (intro w hSw; (try dsimp only at hSw); go_simp; (try with_reducible rfl))
        try simp only [Act.put, List.getElem_toArray, List.getElem_cons_zero, List.getElem_cons_succ, List.setIfInBounds_toArray, List.set_cons_zero, List.set_cons_succ]
        refine wpAnyH_ready (rs := [23]) (by kernel_rfl) (by simp) ?_
        refine AllReadyH.cons rfl (fun KQ hKQ => ?_) AllReadyH.nil
        go_simp
        (go_at_call 21; (with_reducible refine (Abs_any b1w11_9 _ v1 9 (iv.kept hGb1w11_9) (by omega) LV.out).mono ?_); rintro e b1w11_10 ⟨va14_, rfl, a14_, gb1w11_10⟩; have hGb1w11_10 := grown_trans hGb1w11_9 gb1w11_10; replace a8_ := a8_.kept gb1w11_10; replace b9_ := b9_.kept gb1w11_10; replace a10_ := a10_.kept gb1w11_10; replace b11_ := b11_.kept gb1w11_10; replace a12_ := a12_.kept gb1w11_10; replace b13_ := b13_.kept gb1w11_10; have hSb1w11_10 := (And.intro (hGb1w11_10.cell Cu0 (by simp)) (And.intro (hGb1w11_10.cell Cu1 (by simp)) (And.intro (hGb1w11_10.cell Cv0 (by simp)) (And.intro (hGb1w11_10.cell Cv1 (by simp)) (And.intro (hGb1w11_10.cell Ck0 (by simp)) (And.intro (hGb1w11_10.cell Ck1 (by simp)) (And.intro (hGb1w11_10.cell Ca10 (by simp)) (And.intro (hGb1w11_10.cell Ca11 (by simp)) (And.intro (hGb1w11_10.cell Ca20 (by simp)) (hGb1w11_10.cell Ca21 (by simp))))))))))); clear gb1w11_10)
        (try go_wp2_with fail)
        refine hKQ.out _ _ (by exact hSb1w11_10) (fun hHeld => ?_)
        clear hKQ KQ
        try simp only [Act.put, List.getElem_toArray, List.getElem_cons_zero, List.getElem_cons_succ, List.setIfInBounds_toArray, List.set_cons_zero, List.set_cons_succ]
        refine wpAnyH_ready (rs := [25]) (by kernel_rfl) (by simp) ?_
        refine AllReadyH.cons rfl (fun KQ hKQ => ?_) AllReadyH.nil
        go_simp
        (go_at_call 21; (with_reducible refine (Abs_any b1w11_10 _ A1 8 (ia1.kept hGb1w11_10) (by omega) lA1).mono ?_); rintro e b1w11_11 ⟨vb15_, rfl, b15_, gb1w11_11⟩; have hGb1w11_11 := grown_trans hGb1w11_10 gb1w11_11; replace a8_ := a8_.kept gb1w11_11; replace b9_ := b9_.kept gb1w11_11; replace a10_ := a10_.kept gb1w11_11; replace b11_ := b11_.kept gb1w11_11; replace a12_ := a12_.kept gb1w11_11; replace b13_ := b13_.kept gb1w11_11; replace a14_ := a14_.kept gb1w11_11; have hSb1w11_11 := (And.intro (hGb1w11_11.cell Cu0 (by simp)) (And.intro (hGb1w11_11.cell Cu1 (by simp)) (And.intro (hGb1w11_11.cell Cv0 (by simp)) (And.intro (hGb1w11_11.cell Cv1 (by simp)) (And.intro (hGb1w11_11.cell Ck0 (by simp)) (And.intro (hGb1w11_11.cell Ck1 (by simp)) (And.intro (hGb1w11_11.cell Ca10 (by simp)) (And.intro (hGb1w11_11.cell Ca11 (by simp)) (And.intro (hGb1w11_11.cell Ca20 (by simp)) (hGb1w11_11.cell Ca21 (by simp))))))))))); clear gb1w11_11)
        (try go_wp2_with fail)
        refine hKQ.out _ _ (by exact hSb1w11_11) (fun hHeld => ?_)
        clear hKQ KQ
        try simp only [Act.put, List.getElem_toArray, List.getElem_cons_zero, List.getElem_cons_succ, List.setIfInBounds_toArray, List.set_cons_zero, List.set_cons_succ]
        refine wpAnyH_ready (rs := [26]) (by kernel_rfl) (by simp) ?_
        refine AllReadyH.cons rfl (fun KQ hKQ => ?_) AllReadyH.nil
        go_simp
        (go_at_call 43; (with_reducible refine (Cmp_any b1w11_11 _ _ v1.natAbs A1.natAbs 9 a14_ b15_ (by omega) LV.out (bw lA1 (by omega))).mono ?_); rintro e b1w11_12 ⟨rfl, gb1w11_12⟩; rw [HN2.out]; have hGb1w11_12 := grown_trans hGb1w11_11 gb1w11_12; replace a8_ := a8_.kept gb1w11_12; replace b9_ := b9_.kept gb1w11_12; replace a10_ := a10_.kept gb1w11_12; replace b11_ := b11_.kept gb1w11_12; replace a12_ := a12_.kept gb1w11_12; replace b13_ := b13_.kept gb1w11_12; replace a14_ := a14_.kept gb1w11_12; replace b15_ := b15_.kept gb1w11_12; have hSb1w11_12 := (And.intro (hGb1w11_12.cell Cu0 (by simp)) (And.intro (hGb1w11_12.cell Cu1 (by simp)) (And.intro (hGb1w11_12.cell Cv0 (by simp)) (And.intro (hGb1w11_12.cell Cv1 (by simp)) (And.intro (hGb1w11_12.cell Ck0 (by simp)) (And.intro (hGb1w11_12.cell Ck1 (by simp)) (And.intro (hGb1w11_12.cell Ca10 (by simp)) (And.intro (hGb1w11_12.cell Ca11 (by simp)) (And.intro (hGb1w11_12.cell Ca20 (by simp)) (hGb1w11_12.cell Ca21 (by simp))))))))))); clear gb1w11_12)
        (try go_wp2_with fail)
        refine hKQ.out _ _ (by exact hSb1w11_12) (fun hHeld => ?_)
        clear hKQ KQ
        try simp only [Act.put, List.getElem_toArray, List.getElem_cons_zero, List.getElem_cons_succ, List.setIfInBounds_toArray, List.set_cons_zero, List.set_cons_succ]
        refine wpAnyH_take (i := 27) (v := ?_) rfl (by kernel_rfl) (by kernel_rfl) (by kernel_rfl) (fun _ _ _ h => h) (Or.inl ⟨by rfl, ?_⟩) (by assumption) ?_
        rotate_left
        · (intro w hSw; (try dsimp only at hSw); go_simp; (try with_reducible rfl))
        try simp only [Act.put, List.getElem_toArray, List.getElem_cons_zero, List.getElem_cons_succ, List.setIfInBounds_toArray, List.set_cons_zero, List.set_cons_succ]
        refine wpAnyH_take (i := 28) (v := ?_) rfl (by kernel_rfl) (by kernel_rfl) (by kernel_rfl) (fun _ _ _ h => h) (Or.inl ⟨by rfl, ?_⟩) (by assumption) ?_
        rotate_left
        · (intro w hSw; (try dsimp only at hSw); go_simp; (try with_reducible rfl))
        try simp only [Act.put, List.getElem_toArray, List.getElem_cons_zero, List.getElem_cons_succ, List.setIfInBounds_toArray, List.set_cons_zero, List.set_cons_succ]
        refine wpAnyH_take (i := 29) (v := ?_) rfl (by kernel_rfl) (by kernel_rfl) (by kernel_rfl) (fun _ _ _ h => h) (Or.inl ⟨by rfl, ?_⟩) (by assumption) ?_
        rotate_left
        · (intro w hSw; (try dsimp only at hSw); go_simp; (try with_reducible rfl))
        try simp only [Act.put, List.getElem_toArray, List.getElem_cons_zero, List.getElem_cons_succ, List.setIfInBounds_toArray, List.set_cons_zero, List.set_cons_succ]
        refine wpAnyH_take (i := 30) (v := ?_) rfl (by kernel_rfl) (by kernel_rfl) (by kernel_rfl) (fun _ _ _ h => h) (Or.inl ⟨by rfl, ?_⟩) (by assumption) ?_
        rotate_left
        · (intro w hSw; (try dsimp only at hSw); go_simp; (try with_reducible rfl))
        try simp only [Act.put, List.getElem_toArray, List.getElem_cons_zero, List.getElem_cons_succ, List.setIfInBounds_toArray, List.set_cons_zero, List.set_cons_succ]
        refine wpAnyH_done (by kernel_rfl) ?_ _
        replace Ba1 := heap_kept hGb1w11_12 Ba1
        replace Bx1 := heap_kept hGb1w11_12 Bx1
        replace Ba2 := heap_kept hGb1w11_12 Ba2
        replace Bx2 := heap_kept hGb1w11_12 Bx2
        replace Bg := heap_kept hGb1w11_12 Bg
        replace Bu := heap_kept hGb1w11_12 Bu
        replace Bv := heap_kept hGb1w11_12 Bv
        replace Bk := heap_kept hGb1w11_12 Bk
        replace ia1 := ia1.kept hGb1w11_12
        replace rx1 := rx1.kept hGb1w11_12
        replace ia2 := ia2.kept hGb1w11_12
        replace rx2 := rx2.kept hGb1w11_12
        replace ig := ig.kept hGb1w11_12
        replace iu := iu.kept hGb1w11_12
        replace iv := iv.kept hGb1w11_12
        replace no := no.kept hGb1w11_12
        replace ik := ik.kept hGb1w11_12
        replace hG := grown_trans hG hGb1w11_12
        clear Ca10 Fa10 Ca11 Fa11 Cx10 Fx10 Cx11 Fx11 Ca20 Fa20 Ca21 Fa21 Cx20 Fx20 Cx21 Fx21 Cg0 Fg0 Cg1 Fg1 Cu0 Fu0 Cu1 Fu1 Cv0 Fv0 Cv1 Fv1 Ck0 Fk0 Ck1 Fk1
        obtain ⟨Ca10, Ca11, Fa10, Fa11⟩ := box_cells Ba1
        obtain ⟨Cx10, Cx11, Fx10, Fx11⟩ := box_cells Bx1
        obtain ⟨Ca20, Ca21, Fa20, Fa21⟩ := box_cells Ba2
        obtain ⟨Cx20, Cx21, Fx20, Fx21⟩ := box_cells Bx2
        obtain ⟨Cg0, Cg1, Fg0, Fg1⟩ := box_cells Bg
        obtain ⟨Cu0, Cu1, Fu0, Fu1⟩ := box_cells Bu
        obtain ⟨Cv0, Cv1, Fv0, Fv1⟩ := box_cells Bv
        obtain ⟨Ck0, Ck1, Fk0, Fk1⟩ := box_cells Bk
        go_wp2_with fail
        have mx1 := refv_of rx1
        have mx2 := refv_of rx2
        go_region_held3 (fun w' => w'.cell? ⟨aw6, 0, none⟩ = some (.slice sg xg.length xg.length) ∧ w'.cell? ⟨aw6, 1, none⟩ = some (.bool bg) ∧ w'.cell? ⟨aw1 + 1, 0, none⟩ = some (.int .i64 gx1) ∧ w'.cell? ⟨aw1 + 1, 1, none⟩ = some (.slice sx1 lx1 cx1) ∧ w'.cell? ⟨aw3 + 1, 0, none⟩ = some (.int .i64 gx2) ∧ w'.cell? ⟨aw3 + 1, 1, none⟩ = some (.slice sx2 lx2 cx2) ∧ w'.cell? ⟨aw1, 0, none⟩ = some (.slice sa1 xa1.length xa1.length) ∧ w'.cell? ⟨aw1, 1, none⟩ = some (.bool ba1) ∧ w'.cell? ⟨aw6 + 1, 0, none⟩ = some (.slice su xu.length xu.length) ∧ w'.cell? ⟨aw6 + 1, 1, none⟩ = some (.bool bu) ∧ w'.cell? ⟨aw3, 0, none⟩ = some (.slice sa2 xa2.length xa2.length) ∧ w'.cell? ⟨aw3, 1, none⟩ = some (.bool ba2) ∧ w'.cell? ⟨aw6 + 1 + 1, 0, none⟩ = some (.slice sv xv.length xv.length) ∧ w'.cell? ⟨aw6 + 1 + 1, 1, none⟩ = some (.bool bv))
          (first | assumption | exact ⟨Cg0, Cg1, Cx10, Cx11, Cx20, Cx21, Ca10, Ca11, Cu0, Cu1, Ca20, Ca21, Cv0, Cv1⟩ | go_keep)
          (first
            | (go_at_call 45; (with_reducible refine (RGcd_any b1w11_12.drew _ _ A1.natAbs B1.natAbs (mx1.kept (grown_drew (grown_refl _ _))) (mx2.kept (grown_drew (grown_refl _ _))) (toD4 lA1 (by omega)) (toD4 lB1 (by omega))).mono ?_); rintro e b1w12_1 ⟨vgr, rfl, mgr, gb1w12_1⟩; have hGb1w12_1 := grown_pre b1w11_12 gb1w12_1 rfl rfl rfl rfl; have hSb1w12_1 := (And.intro (hGb1w12_1.cell Cg0 (by simp)) (And.intro (hGb1w12_1.cell Cg1 (by simp)) (And.intro (hGb1w12_1.cell Cx10 (by simp)) (And.intro (hGb1w12_1.cell Cx11 (by simp)) (And.intro (hGb1w12_1.cell Cx20 (by simp)) (And.intro (hGb1w12_1.cell Cx21 (by simp)) (And.intro (hGb1w12_1.cell Ca10 (by simp)) (And.intro (hGb1w12_1.cell Ca11 (by simp)) (And.intro (hGb1w12_1.cell Cu0 (by simp)) (And.intro (hGb1w12_1.cell Cu1 (by simp)) (And.intro (hGb1w12_1.cell Ca20 (by simp)) (And.intro (hGb1w12_1.cell Ca21 (by simp)) (And.intro (hGb1w12_1.cell Cv0 (by simp)) (hGb1w12_1.cell Cv1 (by simp))))))))))))))); clear gb1w12_1)
            | (go_at_call 44; (with_reducible refine (rMade_any b1w12_1 _ 1 (Nat.gcd A1.natAbs B1.natAbs) ((Nat.gcd A1.natAbs B1.natAbs : Nat) : Int) mgr (Int.natAbs_natCast _) (sign_one _)).mono ?_); rintro e b1w12_2 ⟨vgm, rfl, rgm, gb1w12_2⟩; have hGb1w12_2 := grown_trans hGb1w12_1 gb1w12_2; replace mgr := mgr.kept gb1w12_2; have hSb1w12_2 := (And.intro (hGb1w12_2.cell Cg0 (by simp)) (And.intro (hGb1w12_2.cell Cg1 (by simp)) (And.intro (hGb1w12_2.cell Cx10 (by simp)) (And.intro (hGb1w12_2.cell Cx11 (by simp)) (And.intro (hGb1w12_2.cell Cx20 (by simp)) (And.intro (hGb1w12_2.cell Cx21 (by simp)) (And.intro (hGb1w12_2.cell Ca10 (by simp)) (And.intro (hGb1w12_2.cell Ca11 (by simp)) (And.intro (hGb1w12_2.cell Cu0 (by simp)) (And.intro (hGb1w12_2.cell Cu1 (by simp)) (And.intro (hGb1w12_2.cell Ca20 (by simp)) (And.intro (hGb1w12_2.cell Ca21 (by simp)) (And.intro (hGb1w12_2.cell Cv0 (by simp)) (hGb1w12_2.cell Cv1 (by simp))))))))))))))); clear gb1w12_2)
            | (go_at_call 18; (with_reducible refine (same_any b1w12_2 _ _ ((Nat.gcd A1.natAbs B1.natAbs : Nat) : Int) 8 (ig.kept hGb1w12_2) rgm (by omega) (by rw [Int.natAbs_natCast]; exact zgcd_bd lA1 lB1)).mono ?_); rintro e b1w12_3 ⟨rfl, gb1w12_3⟩; have hGb1w12_3 := grown_trans hGb1w12_2 gb1w12_3; replace mgr := mgr.kept gb1w12_3; replace rgm := rgm.kept gb1w12_3; have hSb1w12_3 := (And.intro (hGb1w12_3.cell Cg0 (by simp)) (And.intro (hGb1w12_3.cell Cg1 (by simp)) (And.intro (hGb1w12_3.cell Cx10 (by simp)) (And.intro (hGb1w12_3.cell Cx11 (by simp)) (And.intro (hGb1w12_3.cell Cx20 (by simp)) (And.intro (hGb1w12_3.cell Cx21 (by simp)) (And.intro (hGb1w12_3.cell Ca10 (by simp)) (And.intro (hGb1w12_3.cell Ca11 (by simp)) (And.intro (hGb1w12_3.cell Cu0 (by simp)) (And.intro (hGb1w12_3.cell Cu1 (by simp)) (And.intro (hGb1w12_3.cell Ca20 (by simp)) (And.intro (hGb1w12_3.cell Ca21 (by simp)) (And.intro (hGb1w12_3.cell Cv0 (by simp)) (hGb1w12_3.cell Cv1 (by simp))))))))))))))); clear gb1w12_3)
            | (go_at_call 36; (with_reducible refine (ZMul_any b1w12_3 _ _ A1 u1 9 (ia1.kept hGb1w12_3) (iu.kept hGb1w12_3) (by omega) (bw lA1 (by omega)) LU.out).mono ?_); rintro e b1w12_4 ⟨vz16_, rfl, z16_, gb1w12_4⟩; have hGb1w12_4 := grown_trans hGb1w12_3 gb1w12_4; replace mgr := mgr.kept gb1w12_4; replace rgm := rgm.kept gb1w12_4; have hSb1w12_4 := (And.intro (hGb1w12_4.cell Cg0 (by simp)) (And.intro (hGb1w12_4.cell Cg1 (by simp)) (And.intro (hGb1w12_4.cell Cx10 (by simp)) (And.intro (hGb1w12_4.cell Cx11 (by simp)) (And.intro (hGb1w12_4.cell Cx20 (by simp)) (And.intro (hGb1w12_4.cell Cx21 (by simp)) (And.intro (hGb1w12_4.cell Ca10 (by simp)) (And.intro (hGb1w12_4.cell Ca11 (by simp)) (And.intro (hGb1w12_4.cell Cu0 (by simp)) (And.intro (hGb1w12_4.cell Cu1 (by simp)) (And.intro (hGb1w12_4.cell Ca20 (by simp)) (And.intro (hGb1w12_4.cell Ca21 (by simp)) (And.intro (hGb1w12_4.cell Cv0 (by simp)) (hGb1w12_4.cell Cv1 (by simp))))))))))))))); clear gb1w12_4)
            | (go_at_call 36; (with_reducible refine (ZMul_any b1w12_4 _ _ B1 v1 9 (ia2.kept hGb1w12_4) (iv.kept hGb1w12_4) (by omega) (bw lB1 (by omega)) LV.out).mono ?_); rintro e b1w12_5 ⟨vz17_, rfl, z17_, gb1w12_5⟩; have hGb1w12_5 := grown_trans hGb1w12_4 gb1w12_5; replace mgr := mgr.kept gb1w12_5; replace rgm := rgm.kept gb1w12_5; replace z16_ := z16_.kept gb1w12_5; have hSb1w12_5 := (And.intro (hGb1w12_5.cell Cg0 (by simp)) (And.intro (hGb1w12_5.cell Cg1 (by simp)) (And.intro (hGb1w12_5.cell Cx10 (by simp)) (And.intro (hGb1w12_5.cell Cx11 (by simp)) (And.intro (hGb1w12_5.cell Cx20 (by simp)) (And.intro (hGb1w12_5.cell Cx21 (by simp)) (And.intro (hGb1w12_5.cell Ca10 (by simp)) (And.intro (hGb1w12_5.cell Ca11 (by simp)) (And.intro (hGb1w12_5.cell Cu0 (by simp)) (And.intro (hGb1w12_5.cell Cu1 (by simp)) (And.intro (hGb1w12_5.cell Ca20 (by simp)) (And.intro (hGb1w12_5.cell Ca21 (by simp)) (And.intro (hGb1w12_5.cell Cv0 (by simp)) (hGb1w12_5.cell Cv1 (by simp))))))))))))))); clear gb1w12_5)
            | (go_at_call 29; (with_reducible refine (ZAdd_any b1w12_5 _ _ (A1 * u1) (B1 * v1) 17 z16_ z17_ (by omega) (zmul_bd lA1 LU.out) (zmul_bd lB1 LV.out)).mono ?_); rintro e b1w12_6 ⟨vz18_, rfl, z18_, gb1w12_6⟩; have hGb1w12_6 := grown_trans hGb1w12_5 gb1w12_6; replace mgr := mgr.kept gb1w12_6; replace rgm := rgm.kept gb1w12_6; replace z16_ := z16_.kept gb1w12_6; replace z17_ := z17_.kept gb1w12_6; have hSb1w12_6 := (And.intro (hGb1w12_6.cell Cg0 (by simp)) (And.intro (hGb1w12_6.cell Cg1 (by simp)) (And.intro (hGb1w12_6.cell Cx10 (by simp)) (And.intro (hGb1w12_6.cell Cx11 (by simp)) (And.intro (hGb1w12_6.cell Cx20 (by simp)) (And.intro (hGb1w12_6.cell Cx21 (by simp)) (And.intro (hGb1w12_6.cell Ca10 (by simp)) (And.intro (hGb1w12_6.cell Ca11 (by simp)) (And.intro (hGb1w12_6.cell Cu0 (by simp)) (And.intro (hGb1w12_6.cell Cu1 (by simp)) (And.intro (hGb1w12_6.cell Ca20 (by simp)) (And.intro (hGb1w12_6.cell Ca21 (by simp)) (And.intro (hGb1w12_6.cell Cv0 (by simp)) (hGb1w12_6.cell Cv1 (by simp))))))))))))))); clear gb1w12_6)
            | (go_at_call 25; (with_reducible refine (ZCmp_any b1w12_6 _ _ ((A1 * u1) + (B1 * v1)) ((Nat.gcd A1.natAbs B1.natAbs : Nat) : Int) 18 z18_ (ig.kept hGb1w12_6) (by omega) (zadd_bd (k := 17) (zmul_bd lA1 LU.out) (zmul_bd lB1 LV.out)) (bw (show (((Nat.gcd A1.natAbs B1.natAbs : Nat) : Int)).natAbs < B ^ 8 by rw [Int.natAbs_natCast]; exact zgcd_bd lA1 lB1) (by omega))).mono ?_); rintro e b1w12_7 ⟨rfl, gb1w12_7⟩; rw [zcmp_eq HGE.out]; have hGb1w12_7 := grown_trans hGb1w12_6 gb1w12_7; replace mgr := mgr.kept gb1w12_7; replace rgm := rgm.kept gb1w12_7; replace z16_ := z16_.kept gb1w12_7; replace z17_ := z17_.kept gb1w12_7; replace z18_ := z18_.kept gb1w12_7; have hSb1w12_7 := (And.intro (hGb1w12_7.cell Cg0 (by simp)) (And.intro (hGb1w12_7.cell Cg1 (by simp)) (And.intro (hGb1w12_7.cell Cx10 (by simp)) (And.intro (hGb1w12_7.cell Cx11 (by simp)) (And.intro (hGb1w12_7.cell Cx20 (by simp)) (And.intro (hGb1w12_7.cell Cx21 (by simp)) (And.intro (hGb1w12_7.cell Ca10 (by simp)) (And.intro (hGb1w12_7.cell Ca11 (by simp)) (And.intro (hGb1w12_7.cell Cu0 (by simp)) (And.intro (hGb1w12_7.cell Cu1 (by simp)) (And.intro (hGb1w12_7.cell Ca20 (by simp)) (And.intro (hGb1w12_7.cell Ca21 (by simp)) (And.intro (hGb1w12_7.cell Cv0 (by simp)) (hGb1w12_7.cell Cv1 (by simp))))))))))))))); clear gb1w12_7))
        replace Ba1 := heap_kept hGb1w12_7 Ba1
        replace Bx1 := heap_kept hGb1w12_7 Bx1
        replace Ba2 := heap_kept hGb1w12_7 Ba2
        replace Bx2 := heap_kept hGb1w12_7 Bx2
        replace Bg := heap_kept hGb1w12_7 Bg
        replace Bu := heap_kept hGb1w12_7 Bu
        replace Bv := heap_kept hGb1w12_7 Bv
        replace Bk := heap_kept hGb1w12_7 Bk
        replace ia1 := ia1.kept hGb1w12_7
        replace rx1 := rx1.kept hGb1w12_7
        replace ia2 := ia2.kept hGb1w12_7
        replace rx2 := rx2.kept hGb1w12_7
        replace ig := ig.kept hGb1w12_7
        replace iu := iu.kept hGb1w12_7
        replace iv := iv.kept hGb1w12_7
        replace no := no.kept hGb1w12_7
        replace ik := ik.kept hGb1w12_7
        replace mx1 := mx1.kept hGb1w12_7
        replace mx2 := mx2.kept hGb1w12_7
        replace hG := grown_trans hG hGb1w12_7
        clear Ca10 Fa10 Ca11 Fa11 Cx10 Fx10 Cx11 Fx11 Ca20 Fa20 Ca21 Fa21 Cx20 Fx20 Cx21 Fx21 Cg0 Fg0 Cg1 Fg1 Cu0 Fu0 Cu1 Fu1 Cv0 Fv0 Cv1 Fv1 Ck0 Fk0 Ck1 Fk1
        obtain ⟨Ca10, Ca11, Fa10, Fa11⟩ := box_cells Ba1
        obtain ⟨Cx10, Cx11, Fx10, Fx11⟩ := box_cells Bx1
        obtain ⟨Ca20, Ca21, Fa20, Fa21⟩ := box_cells Ba2
        obtain ⟨Cx20, Cx21, Fx20, Fx21⟩ := box_cells Bx2
        obtain ⟨Cg0, Cg1, Fg0, Fg1⟩ := box_cells Bg
        obtain ⟨Cu0, Cu1, Fu0, Fu1⟩ := box_cells Bu
        obtain ⟨Cv0, Cv1, Fv0, Fv1⟩ := box_cells Bv
        obtain ⟨Ck0, Ck1, Fk0, Fk1⟩ := box_cells Bk
        go_wp2_with fail
        go_ret
        exact ⟨by first | rfl | simp, hG⟩
      · skip
        go_wp2_with fail
        generalize (w9.alloc (.cells #[.slice sk xk.length xk.length, .bool bk] 26)) = w10 at *
        generalize w9.heap.size = aw9 at *
        replace hzw9 := hzw9.out
        replace hla1w9 := hla1w9.out
        replace hlx1w9 := hlx1w9.out
        replace hla2w9 := hla2w9.out
        replace hlx2w9 := hlx2w9.out
        replace hlgw9 := hlgw9.out
        replace hluw9 := hluw9.out
        replace hlvw9 := hlvw9.out
        refine wp_region_held_drew (S := fun w' => w'.cell? ⟨aw6 + 1, 0, none⟩ = some (.slice su xu.length xu.length) ∧ w'.cell? ⟨aw6 + 1, 1, none⟩ = some (.bool bu) ∧ w'.cell? ⟨aw6 + 1 + 1, 0, none⟩ = some (.slice sv xv.length xv.length) ∧ w'.cell? ⟨aw6 + 1 + 1, 1, none⟩ = some (.bool bv) ∧ w'.cell? ⟨aw9, 0, none⟩ = some (.slice sk xk.length xk.length) ∧ w'.cell? ⟨aw9, 1, none⟩ = some (.bool bk) ∧ w'.cell? ⟨aw1, 0, none⟩ = some (.slice sa1 xa1.length xa1.length) ∧ w'.cell? ⟨aw1, 1, none⟩ = some (.bool ba1) ∧ w'.cell? ⟨aw3, 0, none⟩ = some (.slice sa2 xa2.length xa2.length) ∧ w'.cell? ⟨aw3, 1, none⟩ = some (.bool ba2)) (by kernel_rfl) (by exact ⟨Cu0, Cu1, Cv0, Cv1, Ck0, Ck1, Ca10, Ca11, Ca20, Ca21⟩) (fun hHeld => ?_)
        refine wpAnyH_take (i := 0) (v := ?_) rfl (by kernel_rfl) (by kernel_rfl) (by kernel_rfl) (fun _ _ _ h => h) (Or.inl ⟨by rfl, ?_⟩) (by assumption) ?_
        rotate_left
        · (intro w hSw; (try dsimp only at hSw); go_simp; (try with_reducible rfl))
        try simp only [Act.put, List.getElem_toArray, List.getElem_cons_zero, List.getElem_cons_succ, List.setIfInBounds_toArray, List.set_cons_zero, List.set_cons_succ]
        refine wpAnyH_take (i := 3) (v := ?_) rfl (by kernel_rfl) (by kernel_rfl) (by kernel_rfl) (fun _ _ _ h => h) (Or.inl ⟨by rfl, ?_⟩) (by assumption) ?_
        rotate_left
        · (intro w hSw; (try dsimp only at hSw); go_simp; (try with_reducible rfl))
        try simp only [Act.put, List.getElem_toArray, List.getElem_cons_zero, List.getElem_cons_succ, List.setIfInBounds_toArray, List.set_cons_zero, List.set_cons_succ]
        refine wpAnyH_ready (rs := [1]) (by kernel_rfl) (by simp) ?_
        refine AllReadyH.cons rfl (fun KQ hKQ => ?_) AllReadyH.nil
        go_simp
        (go_at_call 21; (with_reducible refine (Abs_any w10.drew _ u1 9 (iu.kept (grown_drew (grown_refl _ _))) (by omega) LU.out).mono ?_); rintro e b2w11_1 ⟨va19_, rfl, a19_, gb2w11_1⟩; have hGb2w11_1 := grown_pre w10 gb2w11_1 rfl rfl rfl rfl; have hSb2w11_1 := (And.intro (hGb2w11_1.cell Cu0 (by simp)) (And.intro (hGb2w11_1.cell Cu1 (by simp)) (And.intro (hGb2w11_1.cell Cv0 (by simp)) (And.intro (hGb2w11_1.cell Cv1 (by simp)) (And.intro (hGb2w11_1.cell Ck0 (by simp)) (And.intro (hGb2w11_1.cell Ck1 (by simp)) (And.intro (hGb2w11_1.cell Ca10 (by simp)) (And.intro (hGb2w11_1.cell Ca11 (by simp)) (And.intro (hGb2w11_1.cell Ca20 (by simp)) (hGb2w11_1.cell Ca21 (by simp))))))))))); clear gb2w11_1)
        (try go_wp2_with fail)
        refine hKQ.out _ _ (by exact hSb2w11_1) (fun hHeld => ?_)
        clear hKQ KQ
        try simp only [Act.put, List.getElem_toArray, List.getElem_cons_zero, List.getElem_cons_succ, List.setIfInBounds_toArray, List.set_cons_zero, List.set_cons_succ]
        refine wpAnyH_ready (rs := [2]) (by kernel_rfl) (by simp) ?_
        refine AllReadyH.cons rfl (fun KQ hKQ => ?_) AllReadyH.nil
        go_simp
        (go_at_call 24; (with_reducible refine (Big_any b2w11_1 _ u1.natAbs 9 a19_ (by omega) LU.out).mono ?_); rintro e b2w11_2 ⟨vb20_, rfl, b20_, gb2w11_2⟩; have hGb2w11_2 := grown_trans hGb2w11_1 gb2w11_2; replace a19_ := a19_.kept gb2w11_2; have hSb2w11_2 := (And.intro (hGb2w11_2.cell Cu0 (by simp)) (And.intro (hGb2w11_2.cell Cu1 (by simp)) (And.intro (hGb2w11_2.cell Cv0 (by simp)) (And.intro (hGb2w11_2.cell Cv1 (by simp)) (And.intro (hGb2w11_2.cell Ck0 (by simp)) (And.intro (hGb2w11_2.cell Ck1 (by simp)) (And.intro (hGb2w11_2.cell Ca10 (by simp)) (And.intro (hGb2w11_2.cell Ca11 (by simp)) (And.intro (hGb2w11_2.cell Ca20 (by simp)) (hGb2w11_2.cell Ca21 (by simp))))))))))); clear gb2w11_2)
        (try go_wp2_with fail)
        refine hKQ.out _ _ (by exact hSb2w11_2) (fun hHeld => ?_)
        clear hKQ KQ
        try simp only [Act.put, List.getElem_toArray, List.getElem_cons_zero, List.getElem_cons_succ, List.setIfInBounds_toArray, List.set_cons_zero, List.set_cons_succ]
        refine wpAnyH_ready (rs := [4]) (by kernel_rfl) (by simp) ?_
        refine AllReadyH.cons rfl (fun KQ hKQ => ?_) AllReadyH.nil
        go_simp
        (go_at_call 25; (with_reducible refine (ZCmp_any b2w11_2 _ _ (u1.natAbs : Int) 1 9 b20_ (ik.kept hGb2w11_2) (by omega) (by rw [Int.natAbs_natCast]; exact LU.out) l91.out).mono ?_); rintro e b2w11_3 ⟨rfl, gb2w11_3⟩; rw [HK1.out]; have hGb2w11_3 := grown_trans hGb2w11_2 gb2w11_3; replace a19_ := a19_.kept gb2w11_3; replace b20_ := b20_.kept gb2w11_3; have hSb2w11_3 := (And.intro (hGb2w11_3.cell Cu0 (by simp)) (And.intro (hGb2w11_3.cell Cu1 (by simp)) (And.intro (hGb2w11_3.cell Cv0 (by simp)) (And.intro (hGb2w11_3.cell Cv1 (by simp)) (And.intro (hGb2w11_3.cell Ck0 (by simp)) (And.intro (hGb2w11_3.cell Ck1 (by simp)) (And.intro (hGb2w11_3.cell Ca10 (by simp)) (And.intro (hGb2w11_3.cell Ca11 (by simp)) (And.intro (hGb2w11_3.cell Ca20 (by simp)) (hGb2w11_3.cell Ca21 (by simp))))))))))); clear gb2w11_3)
        (try go_wp2_with fail)
        refine hKQ.out _ _ (by exact hSb2w11_3) (fun hHeld => ?_)
        clear hKQ KQ
        try simp only [Act.put, List.getElem_toArray, List.getElem_cons_zero, List.getElem_cons_succ, List.setIfInBounds_toArray, List.set_cons_zero, List.set_cons_succ]
        refine wpAnyH_take (i := 5) (v := ?_) rfl (by kernel_rfl) (by kernel_rfl) (by kernel_rfl) (fun _ _ _ h => h) (Or.inl ⟨by rfl, ?_⟩) (by assumption) ?_
        rotate_left
        · (intro w hSw; (try dsimp only at hSw); go_simp; (try with_reducible rfl))
        try simp only [Act.put, List.getElem_toArray, List.getElem_cons_zero, List.getElem_cons_succ, List.setIfInBounds_toArray, List.set_cons_zero, List.set_cons_succ]
        refine wpAnyH_take (i := 6) (v := ?_) rfl (by kernel_rfl) (by kernel_rfl) (by kernel_rfl) (fun _ _ _ h => h) (Or.inl ⟨by rfl, ?_⟩) (by assumption) ?_
        rotate_left
        · (intro w hSw; (try dsimp only at hSw); go_simp; (try with_reducible rfl))
        try simp only [Act.put, List.getElem_toArray, List.getElem_cons_zero, List.getElem_cons_succ, List.setIfInBounds_toArray, List.set_cons_zero, List.set_cons_succ]
        refine wpAnyH_take (i := 7) (v := undef) rfl (by kernel_rfl) (by kernel_rfl) (by kernel_rfl) (fun _ _ _ h => h) (Or.inr ⟨by rfl, rfl⟩) (by assumption) ?_
        try simp only [Act.put, List.getElem_toArray, List.getElem_cons_zero, List.getElem_cons_succ, List.setIfInBounds_toArray, List.set_cons_zero, List.set_cons_succ]
        refine wpAnyH_take (i := 10) (v := undef) rfl (by kernel_rfl) (by kernel_rfl) (by kernel_rfl) (fun _ _ _ h => h) (Or.inr ⟨by rfl, rfl⟩) (by assumption) ?_
        try simp only [Act.put, List.getElem_toArray, List.getElem_cons_zero, List.getElem_cons_succ, List.setIfInBounds_toArray, List.set_cons_zero, List.set_cons_succ]
        refine wpAnyH_ready (rs := [8]) (by kernel_rfl) (by simp) ?_
        refine AllReadyH.cons rfl (fun KQ hKQ => ?_) AllReadyH.nil
        go_simp
        refine hKQ.out _ _ (by assumption) (fun hHeld => ?_)
        clear hKQ KQ
        try simp only [Act.put, List.getElem_toArray, List.getElem_cons_zero, List.getElem_cons_succ, List.setIfInBounds_toArray, List.set_cons_zero, List.set_cons_succ]
        refine wpAnyH_ready (rs := [9]) (by kernel_rfl) (by simp) ?_
        refine AllReadyH.cons rfl (fun KQ hKQ => ?_) AllReadyH.nil
        go_simp
        refine hKQ.out _ _ (by assumption) (fun hHeld => ?_)
        clear hKQ KQ
        try simp only [Act.put, List.getElem_toArray, List.getElem_cons_zero, List.getElem_cons_succ, List.setIfInBounds_toArray, List.set_cons_zero, List.set_cons_succ]
        refine wpAnyH_ready (rs := [11]) (by kernel_rfl) (by simp) ?_
        refine AllReadyH.cons rfl (fun KQ hKQ => ?_) AllReadyH.nil
        go_simp
        refine hKQ.out _ _ (by assumption) (fun hHeld => ?_)
        clear hKQ KQ
        try simp only [Act.put, List.getElem_toArray, List.getElem_cons_zero, List.getElem_cons_succ, List.setIfInBounds_toArray, List.set_cons_zero, List.set_cons_succ]
        refine wpAnyH_take (i := 12) (v := undef) rfl (by kernel_rfl) (by kernel_rfl) (by kernel_rfl) (fun _ _ _ h => h) (Or.inr ⟨by rfl, rfl⟩) (by assumption) ?_
        try simp only [Act.put, List.getElem_toArray, List.getElem_cons_zero, List.getElem_cons_succ, List.setIfInBounds_toArray, List.set_cons_zero, List.set_cons_succ]
        refine wpAnyH_take (i := 13) (v := ?_) rfl (by kernel_rfl) (by kernel_rfl) (by kernel_rfl) (fun _ _ _ h => h) (Or.inl ⟨by rfl, ?_⟩) (by assumption) ?_
        rotate_left
        · (intro w hSw; (try dsimp only at hSw); go_simp; (try with_reducible rfl))
        try simp only [Act.put, List.getElem_toArray, List.getElem_cons_zero, List.getElem_cons_succ, List.setIfInBounds_toArray, List.set_cons_zero, List.set_cons_succ]
        refine wpAnyH_take (i := 14) (v := ?_) rfl (by kernel_rfl) (by kernel_rfl) (by kernel_rfl) (fun _ _ _ h => h) (Or.inl ⟨by rfl, ?_⟩) (by assumption) ?_
        rotate_left
        · (intro w hSw; (try dsimp only at hSw); go_simp; (try with_reducible rfl))
        try simp only [Act.put, List.getElem_toArray, List.getElem_cons_zero, List.getElem_cons_succ, List.setIfInBounds_toArray, List.set_cons_zero, List.set_cons_succ]
        refine wpAnyH_take (i := 15) (v := ?_) rfl (by kernel_rfl) (by kernel_rfl) (by kernel_rfl) (fun _ _ _ h => h) (Or.inl ⟨by rfl, ?_⟩) (by assumption) ?_
        rotate_left
        · (intro w hSw; (try dsimp only at hSw); go_simp; (try with_reducible rfl))
        try simp only [Act.put, List.getElem_toArray, List.getElem_cons_zero, List.getElem_cons_succ, List.setIfInBounds_toArray, List.set_cons_zero, List.set_cons_succ]
        refine wpAnyH_take (i := 17) (v := ?_) rfl (by kernel_rfl) (by kernel_rfl) (by kernel_rfl) (fun _ _ _ h => h) (Or.inl ⟨by rfl, ?_⟩) (by assumption) ?_
        rotate_left
        · (intro w hSw; (try dsimp only at hSw); go_simp; (try with_reducible rfl))
        try simp only [Act.put, List.getElem_toArray, List.getElem_cons_zero, List.getElem_cons_succ, List.setIfInBounds_toArray, List.set_cons_zero, List.set_cons_succ]
        refine wpAnyH_ready (rs := [16]) (by kernel_rfl) (by simp) ?_
        refine AllReadyH.cons rfl (fun KQ hKQ => ?_) AllReadyH.nil
        go_simp
        (go_at_call 21; (with_reducible refine (Abs_any b2w11_3 _ u1 9 (iu.kept hGb2w11_3) (by omega) LU.out).mono ?_); rintro e b2w11_4 ⟨va21_, rfl, a21_, gb2w11_4⟩; have hGb2w11_4 := grown_trans hGb2w11_3 gb2w11_4; replace a19_ := a19_.kept gb2w11_4; replace b20_ := b20_.kept gb2w11_4; have hSb2w11_4 := (And.intro (hGb2w11_4.cell Cu0 (by simp)) (And.intro (hGb2w11_4.cell Cu1 (by simp)) (And.intro (hGb2w11_4.cell Cv0 (by simp)) (And.intro (hGb2w11_4.cell Cv1 (by simp)) (And.intro (hGb2w11_4.cell Ck0 (by simp)) (And.intro (hGb2w11_4.cell Ck1 (by simp)) (And.intro (hGb2w11_4.cell Ca10 (by simp)) (And.intro (hGb2w11_4.cell Ca11 (by simp)) (And.intro (hGb2w11_4.cell Ca20 (by simp)) (hGb2w11_4.cell Ca21 (by simp))))))))))); clear gb2w11_4)
        (try go_wp2_with fail)
        refine hKQ.out _ _ (by exact hSb2w11_4) (fun hHeld => ?_)
        clear hKQ KQ
        try simp only [Act.put, List.getElem_toArray, List.getElem_cons_zero, List.getElem_cons_succ, List.setIfInBounds_toArray, List.set_cons_zero, List.set_cons_succ]
        refine wpAnyH_ready (rs := [18]) (by kernel_rfl) (by simp) ?_
        refine AllReadyH.cons rfl (fun KQ hKQ => ?_) AllReadyH.nil
        go_simp
        (go_at_call 21; (with_reducible refine (Abs_any b2w11_4 _ B1 8 (ia2.kept hGb2w11_4) (by omega) lB1).mono ?_); rintro e b2w11_5 ⟨vb22_, rfl, b22_, gb2w11_5⟩; have hGb2w11_5 := grown_trans hGb2w11_4 gb2w11_5; replace a19_ := a19_.kept gb2w11_5; replace b20_ := b20_.kept gb2w11_5; replace a21_ := a21_.kept gb2w11_5; have hSb2w11_5 := (And.intro (hGb2w11_5.cell Cu0 (by simp)) (And.intro (hGb2w11_5.cell Cu1 (by simp)) (And.intro (hGb2w11_5.cell Cv0 (by simp)) (And.intro (hGb2w11_5.cell Cv1 (by simp)) (And.intro (hGb2w11_5.cell Ck0 (by simp)) (And.intro (hGb2w11_5.cell Ck1 (by simp)) (And.intro (hGb2w11_5.cell Ca10 (by simp)) (And.intro (hGb2w11_5.cell Ca11 (by simp)) (And.intro (hGb2w11_5.cell Ca20 (by simp)) (hGb2w11_5.cell Ca21 (by simp))))))))))); clear gb2w11_5)
        (try go_wp2_with fail)
        refine hKQ.out _ _ (by exact hSb2w11_5) (fun hHeld => ?_)
        clear hKQ KQ
        try simp only [Act.put, List.getElem_toArray, List.getElem_cons_zero, List.getElem_cons_succ, List.setIfInBounds_toArray, List.set_cons_zero, List.set_cons_succ]
        refine wpAnyH_ready (rs := [19]) (by kernel_rfl) (by simp) ?_
        refine AllReadyH.cons rfl (fun KQ hKQ => ?_) AllReadyH.nil
        go_simp
        (go_at_call 43; (with_reducible refine (Cmp_any b2w11_5 _ _ u1.natAbs B1.natAbs 9 a21_ b22_ (by omega) LU.out (bw lB1 (by omega))).mono ?_); rintro e b2w11_6 ⟨rfl, gb2w11_6⟩; rw [HN1.out]; have hGb2w11_6 := grown_trans hGb2w11_5 gb2w11_6; replace a19_ := a19_.kept gb2w11_6; replace b20_ := b20_.kept gb2w11_6; replace a21_ := a21_.kept gb2w11_6; replace b22_ := b22_.kept gb2w11_6; have hSb2w11_6 := (And.intro (hGb2w11_6.cell Cu0 (by simp)) (And.intro (hGb2w11_6.cell Cu1 (by simp)) (And.intro (hGb2w11_6.cell Cv0 (by simp)) (And.intro (hGb2w11_6.cell Cv1 (by simp)) (And.intro (hGb2w11_6.cell Ck0 (by simp)) (And.intro (hGb2w11_6.cell Ck1 (by simp)) (And.intro (hGb2w11_6.cell Ca10 (by simp)) (And.intro (hGb2w11_6.cell Ca11 (by simp)) (And.intro (hGb2w11_6.cell Ca20 (by simp)) (hGb2w11_6.cell Ca21 (by simp))))))))))); clear gb2w11_6)
        (try go_wp2_with fail)
        refine hKQ.out _ _ (by exact hSb2w11_6) (fun hHeld => ?_)
        clear hKQ KQ
        try simp only [Act.put, List.getElem_toArray, List.getElem_cons_zero, List.getElem_cons_succ, List.setIfInBounds_toArray, List.set_cons_zero, List.set_cons_succ]
        refine wpAnyH_take (i := 20) (v := ?_) rfl (by kernel_rfl) (by kernel_rfl) (by kernel_rfl) (fun _ _ _ h => h) (Or.inl ⟨by rfl, ?_⟩) (by assumption) ?_
        rotate_left
        · (intro w hSw; (try dsimp only at hSw); go_simp; (try with_reducible rfl))
        try simp only [Act.put, List.getElem_toArray, List.getElem_cons_zero, List.getElem_cons_succ, List.setIfInBounds_toArray, List.set_cons_zero, List.set_cons_succ]
        refine wpAnyH_take (i := 21) (v := ?_) rfl (by kernel_rfl) (by kernel_rfl) (by kernel_rfl) (fun _ _ _ h => h) (Or.inl ⟨by rfl, ?_⟩) (by assumption) ?_
        rotate_left
        · (intro w hSw; (try dsimp only at hSw); go_simp; (try with_reducible rfl))
        try simp only [Act.put, List.getElem_toArray, List.getElem_cons_zero, List.getElem_cons_succ, List.setIfInBounds_toArray, List.set_cons_zero, List.set_cons_succ]
        refine wpAnyH_take (i := 22) (v := ?_) rfl (by kernel_rfl) (by kernel_rfl) (by kernel_rfl) (fun _ _ _ h => h) (Or.inl ⟨by rfl, ?_⟩) (by assumption) ?_
        rotate_left
        · (intro w hSw; (try dsimp only at hSw); go_simp; (try with_reducible rfl))
        try simp only [Act.put, List.getElem_toArray, List.getElem_cons_zero, List.getElem_cons_succ, List.setIfInBounds_toArray, List.set_cons_zero, List.set_cons_succ]
        refine wpAnyH_take (i := 24) (v := ?_) rfl (by kernel_rfl) (by kernel_rfl) (by kernel_rfl) (fun _ _ _ h => h) (Or.inl ⟨by rfl, ?_⟩) (by assumption) ?_
        rotate_left
        · (intro w hSw; (try dsimp only at hSw); go_simp; (try with_reducible rfl))
        try simp only [Act.put, List.getElem_toArray, List.getElem_cons_zero, List.getElem_cons_succ, List.setIfInBounds_toArray, List.set_cons_zero, List.set_cons_succ]
        refine wpAnyH_ready (rs := [23]) (by kernel_rfl) (by simp) ?_
        refine AllReadyH.cons rfl (fun KQ hKQ => ?_) AllReadyH.nil
        go_simp
        (go_at_call 21; (with_reducible refine (Abs_any b2w11_6 _ v1 9 (iv.kept hGb2w11_6) (by omega) LV.out).mono ?_); rintro e b2w11_7 ⟨va23_, rfl, a23_, gb2w11_7⟩; have hGb2w11_7 := grown_trans hGb2w11_6 gb2w11_7; replace a19_ := a19_.kept gb2w11_7; replace b20_ := b20_.kept gb2w11_7; replace a21_ := a21_.kept gb2w11_7; replace b22_ := b22_.kept gb2w11_7; have hSb2w11_7 := (And.intro (hGb2w11_7.cell Cu0 (by simp)) (And.intro (hGb2w11_7.cell Cu1 (by simp)) (And.intro (hGb2w11_7.cell Cv0 (by simp)) (And.intro (hGb2w11_7.cell Cv1 (by simp)) (And.intro (hGb2w11_7.cell Ck0 (by simp)) (And.intro (hGb2w11_7.cell Ck1 (by simp)) (And.intro (hGb2w11_7.cell Ca10 (by simp)) (And.intro (hGb2w11_7.cell Ca11 (by simp)) (And.intro (hGb2w11_7.cell Ca20 (by simp)) (hGb2w11_7.cell Ca21 (by simp))))))))))); clear gb2w11_7)
        (try go_wp2_with fail)
        refine hKQ.out _ _ (by exact hSb2w11_7) (fun hHeld => ?_)
        clear hKQ KQ
        try simp only [Act.put, List.getElem_toArray, List.getElem_cons_zero, List.getElem_cons_succ, List.setIfInBounds_toArray, List.set_cons_zero, List.set_cons_succ]
        refine wpAnyH_ready (rs := [25]) (by kernel_rfl) (by simp) ?_
        refine AllReadyH.cons rfl (fun KQ hKQ => ?_) AllReadyH.nil
        go_simp
        (go_at_call 21; (with_reducible refine (Abs_any b2w11_7 _ A1 8 (ia1.kept hGb2w11_7) (by omega) lA1).mono ?_); rintro e b2w11_8 ⟨vb24_, rfl, b24_, gb2w11_8⟩; have hGb2w11_8 := grown_trans hGb2w11_7 gb2w11_8; replace a19_ := a19_.kept gb2w11_8; replace b20_ := b20_.kept gb2w11_8; replace a21_ := a21_.kept gb2w11_8; replace b22_ := b22_.kept gb2w11_8; replace a23_ := a23_.kept gb2w11_8; have hSb2w11_8 := (And.intro (hGb2w11_8.cell Cu0 (by simp)) (And.intro (hGb2w11_8.cell Cu1 (by simp)) (And.intro (hGb2w11_8.cell Cv0 (by simp)) (And.intro (hGb2w11_8.cell Cv1 (by simp)) (And.intro (hGb2w11_8.cell Ck0 (by simp)) (And.intro (hGb2w11_8.cell Ck1 (by simp)) (And.intro (hGb2w11_8.cell Ca10 (by simp)) (And.intro (hGb2w11_8.cell Ca11 (by simp)) (And.intro (hGb2w11_8.cell Ca20 (by simp)) (hGb2w11_8.cell Ca21 (by simp))))))))))); clear gb2w11_8)
        (try go_wp2_with fail)
        refine hKQ.out _ _ (by exact hSb2w11_8) (fun hHeld => ?_)
        clear hKQ KQ
        try simp only [Act.put, List.getElem_toArray, List.getElem_cons_zero, List.getElem_cons_succ, List.setIfInBounds_toArray, List.set_cons_zero, List.set_cons_succ]
        refine wpAnyH_ready (rs := [26]) (by kernel_rfl) (by simp) ?_
        refine AllReadyH.cons rfl (fun KQ hKQ => ?_) AllReadyH.nil
        go_simp
        (go_at_call 43; (with_reducible refine (Cmp_any b2w11_8 _ _ v1.natAbs A1.natAbs 9 a23_ b24_ (by omega) LV.out (bw lA1 (by omega))).mono ?_); rintro e b2w11_9 ⟨rfl, gb2w11_9⟩; rw [HN2.out]; have hGb2w11_9 := grown_trans hGb2w11_8 gb2w11_9; replace a19_ := a19_.kept gb2w11_9; replace b20_ := b20_.kept gb2w11_9; replace a21_ := a21_.kept gb2w11_9; replace b22_ := b22_.kept gb2w11_9; replace a23_ := a23_.kept gb2w11_9; replace b24_ := b24_.kept gb2w11_9; have hSb2w11_9 := (And.intro (hGb2w11_9.cell Cu0 (by simp)) (And.intro (hGb2w11_9.cell Cu1 (by simp)) (And.intro (hGb2w11_9.cell Cv0 (by simp)) (And.intro (hGb2w11_9.cell Cv1 (by simp)) (And.intro (hGb2w11_9.cell Ck0 (by simp)) (And.intro (hGb2w11_9.cell Ck1 (by simp)) (And.intro (hGb2w11_9.cell Ca10 (by simp)) (And.intro (hGb2w11_9.cell Ca11 (by simp)) (And.intro (hGb2w11_9.cell Ca20 (by simp)) (hGb2w11_9.cell Ca21 (by simp))))))))))); clear gb2w11_9)
        (try go_wp2_with fail)
        refine hKQ.out _ _ (by exact hSb2w11_9) (fun hHeld => ?_)
        clear hKQ KQ
        try simp only [Act.put, List.getElem_toArray, List.getElem_cons_zero, List.getElem_cons_succ, List.setIfInBounds_toArray, List.set_cons_zero, List.set_cons_succ]
        refine wpAnyH_take (i := 27) (v := ?_) rfl (by kernel_rfl) (by kernel_rfl) (by kernel_rfl) (fun _ _ _ h => h) (Or.inl ⟨by rfl, ?_⟩) (by assumption) ?_
        rotate_left
        · (intro w hSw; (try dsimp only at hSw); go_simp; (try with_reducible rfl))
        try simp only [Act.put, List.getElem_toArray, List.getElem_cons_zero, List.getElem_cons_succ, List.setIfInBounds_toArray, List.set_cons_zero, List.set_cons_succ]
        refine wpAnyH_take (i := 28) (v := ?_) rfl (by kernel_rfl) (by kernel_rfl) (by kernel_rfl) (fun _ _ _ h => h) (Or.inl ⟨by rfl, ?_⟩) (by assumption) ?_
        rotate_left
        · (intro w hSw; (try dsimp only at hSw); go_simp; (try with_reducible rfl))
        try simp only [Act.put, List.getElem_toArray, List.getElem_cons_zero, List.getElem_cons_succ, List.setIfInBounds_toArray, List.set_cons_zero, List.set_cons_succ]
        refine wpAnyH_take (i := 29) (v := ?_) rfl (by kernel_rfl) (by kernel_rfl) (by kernel_rfl) (fun _ _ _ h => h) (Or.inl ⟨by rfl, ?_⟩) (by assumption) ?_
        rotate_left
        · (intro w hSw; (try dsimp only at hSw); go_simp; (try with_reducible rfl))
        try simp only [Act.put, List.getElem_toArray, List.getElem_cons_zero, List.getElem_cons_succ, List.setIfInBounds_toArray, List.set_cons_zero, List.set_cons_succ]
        refine wpAnyH_take (i := 30) (v := ?_) rfl (by kernel_rfl) (by kernel_rfl) (by kernel_rfl) (fun _ _ _ h => h) (Or.inl ⟨by rfl, ?_⟩) (by assumption) ?_
        rotate_left
        · (intro w hSw; (try dsimp only at hSw); go_simp; (try with_reducible rfl))
        try simp only [Act.put, List.getElem_toArray, List.getElem_cons_zero, List.getElem_cons_succ, List.setIfInBounds_toArray, List.set_cons_zero, List.set_cons_succ]
        refine wpAnyH_done (by kernel_rfl) ?_ _
        replace Ba1 := heap_kept hGb2w11_9 Ba1
        replace Bx1 := heap_kept hGb2w11_9 Bx1
        replace Ba2 := heap_kept hGb2w11_9 Ba2
        replace Bx2 := heap_kept hGb2w11_9 Bx2
        replace Bg := heap_kept hGb2w11_9 Bg
        replace Bu := heap_kept hGb2w11_9 Bu
        replace Bv := heap_kept hGb2w11_9 Bv
        replace Bk := heap_kept hGb2w11_9 Bk
        replace ia1 := ia1.kept hGb2w11_9
        replace rx1 := rx1.kept hGb2w11_9
        replace ia2 := ia2.kept hGb2w11_9
        replace rx2 := rx2.kept hGb2w11_9
        replace ig := ig.kept hGb2w11_9
        replace iu := iu.kept hGb2w11_9
        replace iv := iv.kept hGb2w11_9
        replace no := no.kept hGb2w11_9
        replace ik := ik.kept hGb2w11_9
        replace hG := grown_trans hG hGb2w11_9
        clear Ca10 Fa10 Ca11 Fa11 Cx10 Fx10 Cx11 Fx11 Ca20 Fa20 Ca21 Fa21 Cx20 Fx20 Cx21 Fx21 Cg0 Fg0 Cg1 Fg1 Cu0 Fu0 Cu1 Fu1 Cv0 Fv0 Cv1 Fv1 Ck0 Fk0 Ck1 Fk1
        obtain ⟨Ca10, Ca11, Fa10, Fa11⟩ := box_cells Ba1
        obtain ⟨Cx10, Cx11, Fx10, Fx11⟩ := box_cells Bx1
        obtain ⟨Ca20, Ca21, Fa20, Fa21⟩ := box_cells Ba2
        obtain ⟨Cx20, Cx21, Fx20, Fx21⟩ := box_cells Bx2
        obtain ⟨Cg0, Cg1, Fg0, Fg1⟩ := box_cells Bg
        obtain ⟨Cu0, Cu1, Fu0, Fu1⟩ := box_cells Bu
        obtain ⟨Cv0, Cv1, Fv0, Fv1⟩ := box_cells Bv
        obtain ⟨Ck0, Ck1, Fk0, Fk1⟩ := box_cells Bk
        go_wp2_with fail
        have mx1 := refv_of rx1
        have mx2 := refv_of rx2
        go_region_held3 (fun w' => w'.cell? ⟨aw6, 0, none⟩ = some (.slice sg xg.length xg.length) ∧ w'.cell? ⟨aw6, 1, none⟩ = some (.bool bg) ∧ w'.cell? ⟨aw1 + 1, 0, none⟩ = some (.int .i64 gx1) ∧ w'.cell? ⟨aw1 + 1, 1, none⟩ = some (.slice sx1 lx1 cx1) ∧ w'.cell? ⟨aw3 + 1, 0, none⟩ = some (.int .i64 gx2) ∧ w'.cell? ⟨aw3 + 1, 1, none⟩ = some (.slice sx2 lx2 cx2) ∧ w'.cell? ⟨aw1, 0, none⟩ = some (.slice sa1 xa1.length xa1.length) ∧ w'.cell? ⟨aw1, 1, none⟩ = some (.bool ba1) ∧ w'.cell? ⟨aw6 + 1, 0, none⟩ = some (.slice su xu.length xu.length) ∧ w'.cell? ⟨aw6 + 1, 1, none⟩ = some (.bool bu) ∧ w'.cell? ⟨aw3, 0, none⟩ = some (.slice sa2 xa2.length xa2.length) ∧ w'.cell? ⟨aw3, 1, none⟩ = some (.bool ba2) ∧ w'.cell? ⟨aw6 + 1 + 1, 0, none⟩ = some (.slice sv xv.length xv.length) ∧ w'.cell? ⟨aw6 + 1 + 1, 1, none⟩ = some (.bool bv))
          (first | assumption | exact ⟨Cg0, Cg1, Cx10, Cx11, Cx20, Cx21, Ca10, Ca11, Cu0, Cu1, Ca20, Ca21, Cv0, Cv1⟩ | go_keep)
          (first
            | (go_at_call 45; (with_reducible refine (RGcd_any b2w11_9.drew _ _ A1.natAbs B1.natAbs (mx1.kept (grown_drew (grown_refl _ _))) (mx2.kept (grown_drew (grown_refl _ _))) (toD4 lA1 (by omega)) (toD4 lB1 (by omega))).mono ?_); rintro e b2w12_1 ⟨vgr, rfl, mgr, gb2w12_1⟩; have hGb2w12_1 := grown_pre b2w11_9 gb2w12_1 rfl rfl rfl rfl; have hSb2w12_1 := (And.intro (hGb2w12_1.cell Cg0 (by simp)) (And.intro (hGb2w12_1.cell Cg1 (by simp)) (And.intro (hGb2w12_1.cell Cx10 (by simp)) (And.intro (hGb2w12_1.cell Cx11 (by simp)) (And.intro (hGb2w12_1.cell Cx20 (by simp)) (And.intro (hGb2w12_1.cell Cx21 (by simp)) (And.intro (hGb2w12_1.cell Ca10 (by simp)) (And.intro (hGb2w12_1.cell Ca11 (by simp)) (And.intro (hGb2w12_1.cell Cu0 (by simp)) (And.intro (hGb2w12_1.cell Cu1 (by simp)) (And.intro (hGb2w12_1.cell Ca20 (by simp)) (And.intro (hGb2w12_1.cell Ca21 (by simp)) (And.intro (hGb2w12_1.cell Cv0 (by simp)) (hGb2w12_1.cell Cv1 (by simp))))))))))))))); clear gb2w12_1)
            | (go_at_call 44; (with_reducible refine (rMade_any b2w12_1 _ 1 (Nat.gcd A1.natAbs B1.natAbs) ((Nat.gcd A1.natAbs B1.natAbs : Nat) : Int) mgr (Int.natAbs_natCast _) (sign_one _)).mono ?_); rintro e b2w12_2 ⟨vgm, rfl, rgm, gb2w12_2⟩; have hGb2w12_2 := grown_trans hGb2w12_1 gb2w12_2; replace mgr := mgr.kept gb2w12_2; have hSb2w12_2 := (And.intro (hGb2w12_2.cell Cg0 (by simp)) (And.intro (hGb2w12_2.cell Cg1 (by simp)) (And.intro (hGb2w12_2.cell Cx10 (by simp)) (And.intro (hGb2w12_2.cell Cx11 (by simp)) (And.intro (hGb2w12_2.cell Cx20 (by simp)) (And.intro (hGb2w12_2.cell Cx21 (by simp)) (And.intro (hGb2w12_2.cell Ca10 (by simp)) (And.intro (hGb2w12_2.cell Ca11 (by simp)) (And.intro (hGb2w12_2.cell Cu0 (by simp)) (And.intro (hGb2w12_2.cell Cu1 (by simp)) (And.intro (hGb2w12_2.cell Ca20 (by simp)) (And.intro (hGb2w12_2.cell Ca21 (by simp)) (And.intro (hGb2w12_2.cell Cv0 (by simp)) (hGb2w12_2.cell Cv1 (by simp))))))))))))))); clear gb2w12_2)
            | (go_at_call 18; (with_reducible refine (same_any b2w12_2 _ _ ((Nat.gcd A1.natAbs B1.natAbs : Nat) : Int) 8 (ig.kept hGb2w12_2) rgm (by omega) (by rw [Int.natAbs_natCast]; exact zgcd_bd lA1 lB1)).mono ?_); rintro e b2w12_3 ⟨rfl, gb2w12_3⟩; have hGb2w12_3 := grown_trans hGb2w12_2 gb2w12_3; replace mgr := mgr.kept gb2w12_3; replace rgm := rgm.kept gb2w12_3; have hSb2w12_3 := (And.intro (hGb2w12_3.cell Cg0 (by simp)) (And.intro (hGb2w12_3.cell Cg1 (by simp)) (And.intro (hGb2w12_3.cell Cx10 (by simp)) (And.intro (hGb2w12_3.cell Cx11 (by simp)) (And.intro (hGb2w12_3.cell Cx20 (by simp)) (And.intro (hGb2w12_3.cell Cx21 (by simp)) (And.intro (hGb2w12_3.cell Ca10 (by simp)) (And.intro (hGb2w12_3.cell Ca11 (by simp)) (And.intro (hGb2w12_3.cell Cu0 (by simp)) (And.intro (hGb2w12_3.cell Cu1 (by simp)) (And.intro (hGb2w12_3.cell Ca20 (by simp)) (And.intro (hGb2w12_3.cell Ca21 (by simp)) (And.intro (hGb2w12_3.cell Cv0 (by simp)) (hGb2w12_3.cell Cv1 (by simp))))))))))))))); clear gb2w12_3)
            | (go_at_call 36; (with_reducible refine (ZMul_any b2w12_3 _ _ A1 u1 9 (ia1.kept hGb2w12_3) (iu.kept hGb2w12_3) (by omega) (bw lA1 (by omega)) LU.out).mono ?_); rintro e b2w12_4 ⟨vz25_, rfl, z25_, gb2w12_4⟩; have hGb2w12_4 := grown_trans hGb2w12_3 gb2w12_4; replace mgr := mgr.kept gb2w12_4; replace rgm := rgm.kept gb2w12_4; have hSb2w12_4 := (And.intro (hGb2w12_4.cell Cg0 (by simp)) (And.intro (hGb2w12_4.cell Cg1 (by simp)) (And.intro (hGb2w12_4.cell Cx10 (by simp)) (And.intro (hGb2w12_4.cell Cx11 (by simp)) (And.intro (hGb2w12_4.cell Cx20 (by simp)) (And.intro (hGb2w12_4.cell Cx21 (by simp)) (And.intro (hGb2w12_4.cell Ca10 (by simp)) (And.intro (hGb2w12_4.cell Ca11 (by simp)) (And.intro (hGb2w12_4.cell Cu0 (by simp)) (And.intro (hGb2w12_4.cell Cu1 (by simp)) (And.intro (hGb2w12_4.cell Ca20 (by simp)) (And.intro (hGb2w12_4.cell Ca21 (by simp)) (And.intro (hGb2w12_4.cell Cv0 (by simp)) (hGb2w12_4.cell Cv1 (by simp))))))))))))))); clear gb2w12_4)
            | (go_at_call 36; (with_reducible refine (ZMul_any b2w12_4 _ _ B1 v1 9 (ia2.kept hGb2w12_4) (iv.kept hGb2w12_4) (by omega) (bw lB1 (by omega)) LV.out).mono ?_); rintro e b2w12_5 ⟨vz26_, rfl, z26_, gb2w12_5⟩; have hGb2w12_5 := grown_trans hGb2w12_4 gb2w12_5; replace mgr := mgr.kept gb2w12_5; replace rgm := rgm.kept gb2w12_5; replace z25_ := z25_.kept gb2w12_5; have hSb2w12_5 := (And.intro (hGb2w12_5.cell Cg0 (by simp)) (And.intro (hGb2w12_5.cell Cg1 (by simp)) (And.intro (hGb2w12_5.cell Cx10 (by simp)) (And.intro (hGb2w12_5.cell Cx11 (by simp)) (And.intro (hGb2w12_5.cell Cx20 (by simp)) (And.intro (hGb2w12_5.cell Cx21 (by simp)) (And.intro (hGb2w12_5.cell Ca10 (by simp)) (And.intro (hGb2w12_5.cell Ca11 (by simp)) (And.intro (hGb2w12_5.cell Cu0 (by simp)) (And.intro (hGb2w12_5.cell Cu1 (by simp)) (And.intro (hGb2w12_5.cell Ca20 (by simp)) (And.intro (hGb2w12_5.cell Ca21 (by simp)) (And.intro (hGb2w12_5.cell Cv0 (by simp)) (hGb2w12_5.cell Cv1 (by simp))))))))))))))); clear gb2w12_5)
            | (go_at_call 29; (with_reducible refine (ZAdd_any b2w12_5 _ _ (A1 * u1) (B1 * v1) 17 z25_ z26_ (by omega) (zmul_bd lA1 LU.out) (zmul_bd lB1 LV.out)).mono ?_); rintro e b2w12_6 ⟨vz27_, rfl, z27_, gb2w12_6⟩; have hGb2w12_6 := grown_trans hGb2w12_5 gb2w12_6; replace mgr := mgr.kept gb2w12_6; replace rgm := rgm.kept gb2w12_6; replace z25_ := z25_.kept gb2w12_6; replace z26_ := z26_.kept gb2w12_6; have hSb2w12_6 := (And.intro (hGb2w12_6.cell Cg0 (by simp)) (And.intro (hGb2w12_6.cell Cg1 (by simp)) (And.intro (hGb2w12_6.cell Cx10 (by simp)) (And.intro (hGb2w12_6.cell Cx11 (by simp)) (And.intro (hGb2w12_6.cell Cx20 (by simp)) (And.intro (hGb2w12_6.cell Cx21 (by simp)) (And.intro (hGb2w12_6.cell Ca10 (by simp)) (And.intro (hGb2w12_6.cell Ca11 (by simp)) (And.intro (hGb2w12_6.cell Cu0 (by simp)) (And.intro (hGb2w12_6.cell Cu1 (by simp)) (And.intro (hGb2w12_6.cell Ca20 (by simp)) (And.intro (hGb2w12_6.cell Ca21 (by simp)) (And.intro (hGb2w12_6.cell Cv0 (by simp)) (hGb2w12_6.cell Cv1 (by simp))))))))))))))); clear gb2w12_6)
            | (go_at_call 25; (with_reducible refine (ZCmp_any b2w12_6 _ _ ((A1 * u1) + (B1 * v1)) ((Nat.gcd A1.natAbs B1.natAbs : Nat) : Int) 18 z27_ (ig.kept hGb2w12_6) (by omega) (zadd_bd (k := 17) (zmul_bd lA1 LU.out) (zmul_bd lB1 LV.out)) (bw (show (((Nat.gcd A1.natAbs B1.natAbs : Nat) : Int)).natAbs < B ^ 8 by rw [Int.natAbs_natCast]; exact zgcd_bd lA1 lB1) (by omega))).mono ?_); rintro e b2w12_7 ⟨rfl, gb2w12_7⟩; rw [zcmp_eq HGE.out]; have hGb2w12_7 := grown_trans hGb2w12_6 gb2w12_7; replace mgr := mgr.kept gb2w12_7; replace rgm := rgm.kept gb2w12_7; replace z25_ := z25_.kept gb2w12_7; replace z26_ := z26_.kept gb2w12_7; replace z27_ := z27_.kept gb2w12_7; have hSb2w12_7 := (And.intro (hGb2w12_7.cell Cg0 (by simp)) (And.intro (hGb2w12_7.cell Cg1 (by simp)) (And.intro (hGb2w12_7.cell Cx10 (by simp)) (And.intro (hGb2w12_7.cell Cx11 (by simp)) (And.intro (hGb2w12_7.cell Cx20 (by simp)) (And.intro (hGb2w12_7.cell Cx21 (by simp)) (And.intro (hGb2w12_7.cell Ca10 (by simp)) (And.intro (hGb2w12_7.cell Ca11 (by simp)) (And.intro (hGb2w12_7.cell Cu0 (by simp)) (And.intro (hGb2w12_7.cell Cu1 (by simp)) (And.intro (hGb2w12_7.cell Ca20 (by simp)) (And.intro (hGb2w12_7.cell Ca21 (by simp)) (And.intro (hGb2w12_7.cell Cv0 (by simp)) (hGb2w12_7.cell Cv1 (by simp))))))))))))))); clear gb2w12_7))
        replace Ba1 := heap_kept hGb2w12_7 Ba1
        replace Bx1 := heap_kept hGb2w12_7 Bx1
        replace Ba2 := heap_kept hGb2w12_7 Ba2
        replace Bx2 := heap_kept hGb2w12_7 Bx2
        replace Bg := heap_kept hGb2w12_7 Bg
        replace Bu := heap_kept hGb2w12_7 Bu
        replace Bv := heap_kept hGb2w12_7 Bv
        replace Bk := heap_kept hGb2w12_7 Bk
        replace ia1 := ia1.kept hGb2w12_7
        replace rx1 := rx1.kept hGb2w12_7
        replace ia2 := ia2.kept hGb2w12_7
        replace rx2 := rx2.kept hGb2w12_7
        replace ig := ig.kept hGb2w12_7
        replace iu := iu.kept hGb2w12_7
        replace iv := iv.kept hGb2w12_7
        replace no := no.kept hGb2w12_7
        replace ik := ik.kept hGb2w12_7
        replace mx1 := mx1.kept hGb2w12_7
        replace mx2 := mx2.kept hGb2w12_7
        replace hG := grown_trans hG hGb2w12_7
        clear Ca10 Fa10 Ca11 Fa11 Cx10 Fx10 Cx11 Fx11 Ca20 Fa20 Ca21 Fa21 Cx20 Fx20 Cx21 Fx21 Cg0 Fg0 Cg1 Fg1 Cu0 Fu0 Cu1 Fu1 Cv0 Fv0 Cv1 Fv1 Ck0 Fk0 Ck1 Fk1
        obtain ⟨Ca10, Ca11, Fa10, Fa11⟩ := box_cells Ba1
        obtain ⟨Cx10, Cx11, Fx10, Fx11⟩ := box_cells Bx1
        obtain ⟨Ca20, Ca21, Fa20, Fa21⟩ := box_cells Ba2
        obtain ⟨Cx20, Cx21, Fx20, Fx21⟩ := box_cells Bx2
        obtain ⟨Cg0, Cg1, Fg0, Fg1⟩ := box_cells Bg
        obtain ⟨Cu0, Cu1, Fu0, Fu1⟩ := box_cells Bu
        obtain ⟨Cv0, Cv1, Fv0, Fv1⟩ := box_cells Bv
        obtain ⟨Ck0, Ck1, Fk0, Fk1⟩ := box_cells Bk
        go_wp2_with fail
        go_ret
        exact ⟨by first | rfl | simp, hG⟩
end Go.Proofs.Ytljfhiikoimdiaa
