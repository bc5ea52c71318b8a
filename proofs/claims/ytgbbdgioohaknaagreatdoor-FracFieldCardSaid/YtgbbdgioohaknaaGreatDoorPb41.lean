/- What the laws lean on, part 41. -/
import Derived.Deep.RegionHeld3
import Derived.Test.YtgbbdgioohaknaaGreatDoorPb20
import Derived.Test.YtgbbdgioohaknaaGreatDoorPb27
import Derived.Test.YtgbbdgioohaknaaGreatDoorPb40
import Derived.Test.YtgbbdgioohaknaaGreatDoorPb42
import Derived.Test.YtgbbdgioohaknaaGreatDoorPb48
import Derived.Test.YtgbbdgioohaknaaGreatDoorPb51
import Derived.Test.YtgbbdgioohaknaaGreatDoorPb52
import Derived.Test.YtgbbdgioohaknaaGreatDoorPb55
namespace Go.Proofs.YtgbbdgioohaknaaGreatDoor
open Go.RowKit Mat
set_option maxRecDepth 100000
set_option linter.unusedVariables false
set_option linter.unusedSimpArgs false
theorem di_ {a b : Rat} (h : a = b) : bT_ a b = 0:=by rw [h]; exact bG_ b
theorem kW_ (a b : Rat) : rsg (a * b) = rsg a * rsg b:=by
 have h : a * b = Rat.divInt (a.num * b.num) ((a.den : Int) * (b.den : Int)):=by
  rw [Rat.mul_def',← Int.natCast_mul,Rat.divInt_ofNat]
 rw [h,bD_ (by have h1:=a.den_pos; have h2:=b.den_pos; exact_mod_cast Nat.mul_pos h1 h2),Int.sign_mul]
 rfl
theorem jT_ (a b c : Rat) : bT_ (a + c) (b + c) = bT_ a b:=by
 rw [aA_,aA_]; congr 1; grind
theorem jS_ (a b c : Rat) : bT_ (a * c) (b * c) = bT_ a b * rsg c:=by
 rw [aA_,aA_,← kW_]; congr 1; grind
set_option maxHeartbeats 16000000 in
theorem eA_ (w : World) (s t u : ByteArray) (hTab : Tab w) :
    Calls Tryz.prog 8 #[.string s,.string t,.string u] w (fun e w'=>e = .returned (.bool true) ∧ w.grownBy w' none):=by
 have HTB : Hid (∀ W,w.grownBy W none → Tab W):=fun W hW=>hTab.kept hW (by simp)
 clear hTab
 have hG : w.grownBy w none:=h_ _ _
 obtain ⟨A1,o1,lA1,p1⟩:=bP_ s
 have L1:=H_ lA1
 have P1:=H_ p1
 clear p1 lA1
 obtain ⟨B1,o2,lB1,p2⟩:=bP_ t
 have L2:=H_ lB1
 have P2:=H_ p2
 clear p2 lB1
 obtain ⟨C1,o3,lC1,p3⟩:=bP_ u
 have L3:=H_ lC1
 have P3:=H_ p3
 clear p3 lC1
 obtain ⟨k,hk⟩ : ∃ k,bT_ A1 B1 = k:=⟨_,rfl⟩
 obtain ⟨sc,hsc⟩ : ∃ k,C1.num.sign = k:=⟨_,rfl⟩
 obtain ⟨p,hp⟩ : ∃ p,bT_ (A1 * C1) (B1 * C1) = p:=⟨_,rfl⟩
 have hw : IntKind.i64.wrap (k * sc) = p:=by
  have e : k * sc = p:=by rw [← hk,← hsc,← hp,jS_]; rfl
  rw [e,IntKind.wrap_i64]
  have:=dh_ (A1 * C1) (B1 * C1)
  rw [hp] at this
  omega
 have HK:=H_ hk
 have HSC:=H_ hsc
 have HP:=H_ hp
 have HAC : Hid (bT_ (A1 + C1) (B1 + C1) = k):=(jT_ A1 B1 C1).trans hk
 have HSU : Hid ((A1 - B1).num.sign = k):=(aA_ A1 B1).symm.trans hk
 clear hk hsc hp
 go_enter Tryz.func8,Tryz.ntmps8
 go_wp2_with fail
 refine (P1.out w (HTB.out _ hG)).mono ?_
 rintro e w1 ⟨_,_,rfl,⟨sa1,xa1,ba1,sa1',xa1',ba1',rfl,ha1,ha1'⟩,⟨gx1,sx1,lx1,cx1,gx1',sx1',lx1',cx1',nx1,dx1,rfl,hx1,hx1',ux1⟩,gw1⟩
 have qa1 : RatV w1 (.agg #[.slice sa1 xa1.length xa1.length,.bool ba1,.slice sa1' xa1'.length xa1'.length,.bool ba1']) (A1):=⟨sa1,xa1,ba1,sa1',xa1',ba1',rfl,ha1,ha1'⟩
 have yx1 : RQ w1 (.agg #[.int .i64 gx1,.slice sx1 lx1 cx1,.int .i64 gx1',.slice sx1' lx1' cx1']) A1 20:=⟨gx1,sx1,lx1,cx1,gx1',sx1',lx1',cx1',nx1,dx1,rfl,hx1,hx1',ux1⟩
 replace hG:=d_ hG gw1
 clear gw1
 clear ha1 ha1'
 clear hx1 hx1'
 have gbw1:=(l_ (wg_ w1 (.cells #[.slice sa1 xa1.length xa1.length,.bool ba1,.slice sa1' xa1'.length xa1'.length,.bool ba1'] 28) none) (.cells #[.int .i64 gx1,.slice sx1 lx1 cx1,.int .i64 gx1',.slice sx1' lx1' cx1'] 38))
 have Ba1:=a_ (wg_ _ (.cells #[.int .i64 gx1,.slice sx1 lx1 cx1,.int .i64 gx1',.slice sx1' lx1' cx1'] 38) none) (f_ w1 (.cells #[.slice sa1 xa1.length xa1.length,.bool ba1,.slice sa1' xa1'.length xa1'.length,.bool ba1'] 28) (w1.heap.size) rfl)
 have Bx1:=(f_ (w1.alloc (.cells #[.slice sa1 xa1.length xa1.length,.bool ba1,.slice sa1' xa1'.length xa1'.length,.bool ba1'] 28)) (.cells #[.int .i64 gx1,.slice sx1 lx1 cx1,.int .i64 gx1',.slice sx1' lx1' cx1'] 38) (w1.heap.size + 1) (by simp))
 have hzw1 : Hid (w.heap.size ≤ w1.heap.size):=H_ hG.size
 replace qa1:=qa1.kept gbw1
 replace hG:=d_ hG gbw1
 clear gbw1
 obtain ⟨Ca10,Ca11,Ca12,Ca13,Fa10,Fa11,Fa12,Fa13⟩:=b_ Ba1
 obtain ⟨Cx10,Cx11,Cx12,Cx13,Fx10,Fx11,Fx12,Fx13⟩:=b_ Bx1
 go_wp2_with fail
 generalize ((w1.alloc (.cells #[.slice sa1 xa1.length xa1.length,.bool ba1,.slice sa1' xa1'.length xa1'.length,.bool ba1'] 28)).alloc (.cells #[.int .i64 gx1,.slice sx1 lx1 cx1,.int .i64 gx1',.slice sx1' lx1' cx1'] 38)) = w2 at *
 generalize w1.heap.size = aw1 at *
 replace hzw1:=hzw1.out
 clear Ca10 Fa10 Ca11 Fa11 Ca12 Fa12 Ca13 Fa13 Cx10 Fx10 Cx11 Fx11 Cx12 Fx12 Cx13 Fx13
 refine (P2.out w2 (HTB.out _ hG)).mono ?_
 rintro e w3 ⟨_,_,rfl,⟨sa2,xa2,ba2,sa2',xa2',ba2',rfl,ha2,ha2'⟩,⟨gx2,sx2,lx2,cx2,gx2',sx2',lx2',cx2',nx2,dx2,rfl,hx2,hx2',ux2⟩,gw3⟩
 have qa2 : RatV w3 (.agg #[.slice sa2 xa2.length xa2.length,.bool ba2,.slice sa2' xa2'.length xa2'.length,.bool ba2']) (B1):=⟨sa2,xa2,ba2,sa2',xa2',ba2',rfl,ha2,ha2'⟩
 have yx2 : RQ w3 (.agg #[.int .i64 gx2,.slice sx2 lx2 cx2,.int .i64 gx2',.slice sx2' lx2' cx2']) B1 20:=⟨gx2,sx2,lx2,cx2,gx2',sx2',lx2',cx2',nx2,dx2,rfl,hx2,hx2',ux2⟩
 replace Ba1:=a_ gw3 Ba1
 replace Bx1:=a_ gw3 Bx1
 replace qa1:=qa1.kept gw3
 replace hG:=d_ hG gw3
 clear gw3
 clear ha2 ha2'
 clear hx2 hx2'
 obtain ⟨Ca10,Ca11,Ca12,Ca13,Fa10,Fa11,Fa12,Fa13⟩:=b_ Ba1
 obtain ⟨Cx10,Cx11,Cx12,Cx13,Fx10,Fx11,Fx12,Fx13⟩:=b_ Bx1
 have gbw3:=(l_ (wg_ w3 (.cells #[.slice sa2 xa2.length xa2.length,.bool ba2,.slice sa2' xa2'.length xa2'.length,.bool ba2'] 28) none) (.cells #[.int .i64 gx2,.slice sx2 lx2 cx2,.int .i64 gx2',.slice sx2' lx2' cx2'] 38))
 have Ba2:=a_ (wg_ _ (.cells #[.int .i64 gx2,.slice sx2 lx2 cx2,.int .i64 gx2',.slice sx2' lx2' cx2'] 38) none) (f_ w3 (.cells #[.slice sa2 xa2.length xa2.length,.bool ba2,.slice sa2' xa2'.length xa2'.length,.bool ba2'] 28) (w3.heap.size) rfl)
 have Bx2:=(f_ (w3.alloc (.cells #[.slice sa2 xa2.length xa2.length,.bool ba2,.slice sa2' xa2'.length xa2'.length,.bool ba2'] 28)) (.cells #[.int .i64 gx2,.slice sx2 lx2 cx2,.int .i64 gx2',.slice sx2' lx2' cx2'] 38) (w3.heap.size + 1) (by simp))
 have hzw3 : Hid (w.heap.size ≤ w3.heap.size):=H_ hG.size
 have hla1w3 : Hid (aw1 < w3.heap.size):=H_ (Array.getElem?_eq_some_iff.1 Ba1).1
 have hlx1w3 : Hid (aw1 + 1 < w3.heap.size):=H_ (Array.getElem?_eq_some_iff.1 Bx1).1
 clear Ca10 Fa10 Ca11 Fa11 Ca12 Fa12 Ca13 Fa13 Cx10 Fx10 Cx11 Fx11 Cx12 Fx12 Cx13 Fx13
 replace Ba1:=a_ gbw3 Ba1
 replace Bx1:=a_ gbw3 Bx1
 replace qa1:=qa1.kept gbw3
 replace qa2:=qa2.kept gbw3
 replace hG:=d_ hG gbw3
 clear gbw3
 obtain ⟨Ca10,Ca11,Ca12,Ca13,Fa10,Fa11,Fa12,Fa13⟩:=b_ Ba1
 obtain ⟨Cx10,Cx11,Cx12,Cx13,Fx10,Fx11,Fx12,Fx13⟩:=b_ Bx1
 obtain ⟨Ca20,Ca21,Ca22,Ca23,Fa20,Fa21,Fa22,Fa23⟩:=b_ Ba2
 obtain ⟨Cx20,Cx21,Cx22,Cx23,Fx20,Fx21,Fx22,Fx23⟩:=b_ Bx2
 go_wp2_with fail
 generalize ((w3.alloc (.cells #[.slice sa2 xa2.length xa2.length,.bool ba2,.slice sa2' xa2'.length xa2'.length,.bool ba2'] 28)).alloc (.cells #[.int .i64 gx2,.slice sx2 lx2 cx2,.int .i64 gx2',.slice sx2' lx2' cx2'] 38)) = w4 at *
 generalize w3.heap.size = aw3 at *
 replace hzw3:=hzw3.out
 replace hla1w3:=hla1w3.out
 replace hlx1w3:=hlx1w3.out
 clear Ca10 Fa10 Ca11 Fa11 Ca12 Fa12 Ca13 Fa13 Cx10 Fx10 Cx11 Fx11 Cx12 Fx12 Cx13 Fx13 Ca20 Fa20 Ca21 Fa21 Ca22 Fa22 Ca23 Fa23 Cx20 Fx20 Cx21 Fx21 Cx22 Fx22 Cx23 Fx23
 refine (P3.out w4 (HTB.out _ hG)).mono ?_
 rintro e w5 ⟨_,_,rfl,⟨sa3,xa3,ba3,sa3',xa3',ba3',rfl,ha3,ha3'⟩,⟨gx3,sx3,lx3,cx3,gx3',sx3',lx3',cx3',nx3,dx3,rfl,hx3,hx3',ux3⟩,gw5⟩
 have qa3 : RatV w5 (.agg #[.slice sa3 xa3.length xa3.length,.bool ba3,.slice sa3' xa3'.length xa3'.length,.bool ba3']) (C1):=⟨sa3,xa3,ba3,sa3',xa3',ba3',rfl,ha3,ha3'⟩
 have yx3 : RQ w5 (.agg #[.int .i64 gx3,.slice sx3 lx3 cx3,.int .i64 gx3',.slice sx3' lx3' cx3']) C1 20:=⟨gx3,sx3,lx3,cx3,gx3',sx3',lx3',cx3',nx3,dx3,rfl,hx3,hx3',ux3⟩
 replace Ba1:=a_ gw5 Ba1
 replace Bx1:=a_ gw5 Bx1
 replace Ba2:=a_ gw5 Ba2
 replace Bx2:=a_ gw5 Bx2
 replace qa1:=qa1.kept gw5
 replace qa2:=qa2.kept gw5
 replace hG:=d_ hG gw5
 clear gw5
 clear ha3 ha3'
 clear hx3 hx3'
 obtain ⟨Ca10,Ca11,Ca12,Ca13,Fa10,Fa11,Fa12,Fa13⟩:=b_ Ba1
 obtain ⟨Cx10,Cx11,Cx12,Cx13,Fx10,Fx11,Fx12,Fx13⟩:=b_ Bx1
 obtain ⟨Ca20,Ca21,Ca22,Ca23,Fa20,Fa21,Fa22,Fa23⟩:=b_ Ba2
 obtain ⟨Cx20,Cx21,Cx22,Cx23,Fx20,Fx21,Fx22,Fx23⟩:=b_ Bx2
 have gbw5:=(l_ (wg_ w5 (.cells #[.slice sa3 xa3.length xa3.length,.bool ba3,.slice sa3' xa3'.length xa3'.length,.bool ba3'] 28) none) (.cells #[.int .i64 gx3,.slice sx3 lx3 cx3,.int .i64 gx3',.slice sx3' lx3' cx3'] 38))
 have Ba3:=a_ (wg_ _ (.cells #[.int .i64 gx3,.slice sx3 lx3 cx3,.int .i64 gx3',.slice sx3' lx3' cx3'] 38) none) (f_ w5 (.cells #[.slice sa3 xa3.length xa3.length,.bool ba3,.slice sa3' xa3'.length xa3'.length,.bool ba3'] 28) (w5.heap.size) rfl)
 have Bx3:=(f_ (w5.alloc (.cells #[.slice sa3 xa3.length xa3.length,.bool ba3,.slice sa3' xa3'.length xa3'.length,.bool ba3'] 28)) (.cells #[.int .i64 gx3,.slice sx3 lx3 cx3,.int .i64 gx3',.slice sx3' lx3' cx3'] 38) (w5.heap.size + 1) (by simp))
 have hzw5 : Hid (w.heap.size ≤ w5.heap.size):=H_ hG.size
 have hla1w5 : Hid (aw1 < w5.heap.size):=H_ (Array.getElem?_eq_some_iff.1 Ba1).1
 have hlx1w5 : Hid (aw1 + 1 < w5.heap.size):=H_ (Array.getElem?_eq_some_iff.1 Bx1).1
 have hla2w5 : Hid (aw3 < w5.heap.size):=H_ (Array.getElem?_eq_some_iff.1 Ba2).1
 have hlx2w5 : Hid (aw3 + 1 < w5.heap.size):=H_ (Array.getElem?_eq_some_iff.1 Bx2).1
 clear Ca10 Fa10 Ca11 Fa11 Ca12 Fa12 Ca13 Fa13 Cx10 Fx10 Cx11 Fx11 Cx12 Fx12 Cx13 Fx13 Ca20 Fa20 Ca21 Fa21 Ca22 Fa22 Ca23 Fa23 Cx20 Fx20 Cx21 Fx21 Cx22 Fx22 Cx23 Fx23
 replace Ba1:=a_ gbw5 Ba1
 replace Bx1:=a_ gbw5 Bx1
 replace Ba2:=a_ gbw5 Ba2
 replace Bx2:=a_ gbw5 Bx2
 replace qa1:=qa1.kept gbw5
 replace qa2:=qa2.kept gbw5
 replace qa3:=qa3.kept gbw5
 replace hG:=d_ hG gbw5
 clear gbw5
 obtain ⟨Ca10,Ca11,Ca12,Ca13,Fa10,Fa11,Fa12,Fa13⟩:=b_ Ba1
 obtain ⟨Cx10,Cx11,Cx12,Cx13,Fx10,Fx11,Fx12,Fx13⟩:=b_ Bx1
 obtain ⟨Ca20,Ca21,Ca22,Ca23,Fa20,Fa21,Fa22,Fa23⟩:=b_ Ba2
 obtain ⟨Cx20,Cx21,Cx22,Cx23,Fx20,Fx21,Fx22,Fx23⟩:=b_ Bx2
 obtain ⟨Ca30,Ca31,Ca32,Ca33,Fa30,Fa31,Fa32,Fa33⟩:=b_ Ba3
 obtain ⟨Cx30,Cx31,Cx32,Cx33,Fx30,Fx31,Fx32,Fx33⟩:=b_ Bx3
 go_wp2_with fail
 cases o1
 · skip
   generalize ((w5.alloc (.cells #[.slice sa3 xa3.length xa3.length,.bool ba3,.slice sa3' xa3'.length xa3'.length,.bool ba3'] 28)).alloc (.cells #[.int .i64 gx3,.slice sx3 lx3 cx3,.int .i64 gx3',.slice sx3' lx3' cx3'] 38)) = w6 at *
   generalize w5.heap.size = aw5 at *
   replace hzw5:=hzw5.out
   replace hla1w5:=hla1w5.out
   replace hlx1w5:=hlx1w5.out
   replace hla2w5:=hla2w5.out
   replace hlx2w5:=hlx2w5.out
   clear Ca10 Fa10 Ca11 Fa11 Ca12 Fa12 Ca13 Fa13 Cx10 Fx10 Cx11 Fx11 Cx12 Fx12 Cx13 Fx13 Ca20 Fa20 Ca21 Fa21 Ca22 Fa22 Ca23 Fa23 Cx20 Fx20 Cx21 Fx21 Cx22 Fx22 Cx23 Fx23 Ca30 Fa30 Ca31 Fa31 Ca32 Fa32 Ca33 Fa33 Cx30 Fx30 Cx31 Fx31 Cx32 Fx32 Cx33 Fx33
   refine (A_ w6 (HTB.out _ hG)).mono ?_
   rintro e o0w7 ⟨rfl,go0w7⟩
   replace Ba1:=a_ go0w7 Ba1
   replace Bx1:=a_ go0w7 Bx1
   replace Ba2:=a_ go0w7 Ba2
   replace Bx2:=a_ go0w7 Bx2
   replace Ba3:=a_ go0w7 Ba3
   replace Bx3:=a_ go0w7 Bx3
   replace hG:=d_ hG go0w7
   clear go0w7
   obtain ⟨Ca10,Ca11,Ca12,Ca13,Fa10,Fa11,Fa12,Fa13⟩:=b_ Ba1
   obtain ⟨Cx10,Cx11,Cx12,Cx13,Fx10,Fx11,Fx12,Fx13⟩:=b_ Bx1
   obtain ⟨Ca20,Ca21,Ca22,Ca23,Fa20,Fa21,Fa22,Fa23⟩:=b_ Ba2
   obtain ⟨Cx20,Cx21,Cx22,Cx23,Fx20,Fx21,Fx22,Fx23⟩:=b_ Bx2
   obtain ⟨Ca30,Ca31,Ca32,Ca33,Fa30,Fa31,Fa32,Fa33⟩:=b_ Ba3
   obtain ⟨Cx30,Cx31,Cx32,Cx33,Fx30,Fx31,Fx32,Fx33⟩:=b_ Bx3
   go_wp2_with fail
   clear Ca10 Fa10 Ca11 Fa11 Ca12 Fa12 Ca13 Fa13 Cx10 Fx10 Cx11 Fx11 Cx12 Fx12 Cx13 Fx13 Ca20 Fa20 Ca21 Fa21 Ca22 Fa22 Ca23 Fa23 Cx20 Fx20 Cx21 Fx21 Cx22 Fx22 Cx23 Fx23 Ca30 Fa30 Ca31 Fa31 Ca32 Fa32 Ca33 Fa33 Cx30 Fx30 Cx31 Fx31 Cx32 Fx32 Cx33 Fx33
   refine (A_ o0w7 (HTB.out _ hG)).mono ?_
   rintro e o0w8 ⟨rfl,go0w8⟩
   replace Ba1:=a_ go0w8 Ba1
   replace Bx1:=a_ go0w8 Bx1
   replace Ba2:=a_ go0w8 Ba2
   replace Bx2:=a_ go0w8 Bx2
   replace Ba3:=a_ go0w8 Ba3
   replace Bx3:=a_ go0w8 Bx3
   replace hG:=d_ hG go0w8
   clear go0w8
   obtain ⟨Ca10,Ca11,Ca12,Ca13,Fa10,Fa11,Fa12,Fa13⟩:=b_ Ba1
   obtain ⟨Cx10,Cx11,Cx12,Cx13,Fx10,Fx11,Fx12,Fx13⟩:=b_ Bx1
   obtain ⟨Ca20,Ca21,Ca22,Ca23,Fa20,Fa21,Fa22,Fa23⟩:=b_ Ba2
   obtain ⟨Cx20,Cx21,Cx22,Cx23,Fx20,Fx21,Fx22,Fx23⟩:=b_ Bx2
   obtain ⟨Ca30,Ca31,Ca32,Ca33,Fa30,Fa31,Fa32,Fa33⟩:=b_ Ba3
   obtain ⟨Cx30,Cx31,Cx32,Cx33,Fx30,Fx31,Fx32,Fx33⟩:=b_ Bx3
   go_wp2_with fail
   go_ret
   exact ⟨by first | rfl | simp,hG⟩
 cases o2
 · skip
   generalize ((w5.alloc (.cells #[.slice sa3 xa3.length xa3.length,.bool ba3,.slice sa3' xa3'.length xa3'.length,.bool ba3'] 28)).alloc (.cells #[.int .i64 gx3,.slice sx3 lx3 cx3,.int .i64 gx3',.slice sx3' lx3' cx3'] 38)) = w6 at *
   generalize w5.heap.size = aw5 at *
   replace hzw5:=hzw5.out
   replace hla1w5:=hla1w5.out
   replace hlx1w5:=hlx1w5.out
   replace hla2w5:=hla2w5.out
   replace hlx2w5:=hlx2w5.out
   clear Ca10 Fa10 Ca11 Fa11 Ca12 Fa12 Ca13 Fa13 Cx10 Fx10 Cx11 Fx11 Cx12 Fx12 Cx13 Fx13 Ca20 Fa20 Ca21 Fa21 Ca22 Fa22 Ca23 Fa23 Cx20 Fx20 Cx21 Fx21 Cx22 Fx22 Cx23 Fx23 Ca30 Fa30 Ca31 Fa31 Ca32 Fa32 Ca33 Fa33 Cx30 Fx30 Cx31 Fx31 Cx32 Fx32 Cx33 Fx33
   refine (A_ w6 (HTB.out _ hG)).mono ?_
   rintro e o1w7 ⟨rfl,go1w7⟩
   replace Ba1:=a_ go1w7 Ba1
   replace Bx1:=a_ go1w7 Bx1
   replace Ba2:=a_ go1w7 Ba2
   replace Bx2:=a_ go1w7 Bx2
   replace Ba3:=a_ go1w7 Ba3
   replace Bx3:=a_ go1w7 Bx3
   replace hG:=d_ hG go1w7
   clear go1w7
   obtain ⟨Ca10,Ca11,Ca12,Ca13,Fa10,Fa11,Fa12,Fa13⟩:=b_ Ba1
   obtain ⟨Cx10,Cx11,Cx12,Cx13,Fx10,Fx11,Fx12,Fx13⟩:=b_ Bx1
   obtain ⟨Ca20,Ca21,Ca22,Ca23,Fa20,Fa21,Fa22,Fa23⟩:=b_ Ba2
   obtain ⟨Cx20,Cx21,Cx22,Cx23,Fx20,Fx21,Fx22,Fx23⟩:=b_ Bx2
   obtain ⟨Ca30,Ca31,Ca32,Ca33,Fa30,Fa31,Fa32,Fa33⟩:=b_ Ba3
   obtain ⟨Cx30,Cx31,Cx32,Cx33,Fx30,Fx31,Fx32,Fx33⟩:=b_ Bx3
   go_wp2_with fail
   clear Ca10 Fa10 Ca11 Fa11 Ca12 Fa12 Ca13 Fa13 Cx10 Fx10 Cx11 Fx11 Cx12 Fx12 Cx13 Fx13 Ca20 Fa20 Ca21 Fa21 Ca22 Fa22 Ca23 Fa23 Cx20 Fx20 Cx21 Fx21 Cx22 Fx22 Cx23 Fx23 Ca30 Fa30 Ca31 Fa31 Ca32 Fa32 Ca33 Fa33 Cx30 Fx30 Cx31 Fx31 Cx32 Fx32 Cx33 Fx33
   refine (A_ o1w7 (HTB.out _ hG)).mono ?_
   rintro e o1w8 ⟨rfl,go1w8⟩
   replace Ba1:=a_ go1w8 Ba1
   replace Bx1:=a_ go1w8 Bx1
   replace Ba2:=a_ go1w8 Ba2
   replace Bx2:=a_ go1w8 Bx2
   replace Ba3:=a_ go1w8 Ba3
   replace Bx3:=a_ go1w8 Bx3
   replace hG:=d_ hG go1w8
   clear go1w8
   obtain ⟨Ca10,Ca11,Ca12,Ca13,Fa10,Fa11,Fa12,Fa13⟩:=b_ Ba1
   obtain ⟨Cx10,Cx11,Cx12,Cx13,Fx10,Fx11,Fx12,Fx13⟩:=b_ Bx1
   obtain ⟨Ca20,Ca21,Ca22,Ca23,Fa20,Fa21,Fa22,Fa23⟩:=b_ Ba2
   obtain ⟨Cx20,Cx21,Cx22,Cx23,Fx20,Fx21,Fx22,Fx23⟩:=b_ Bx2
   obtain ⟨Ca30,Ca31,Ca32,Ca33,Fa30,Fa31,Fa32,Fa33⟩:=b_ Ba3
   obtain ⟨Cx30,Cx31,Cx32,Cx33,Fx30,Fx31,Fx32,Fx33⟩:=b_ Bx3
   go_wp2_with fail
   go_ret
   exact ⟨by first | rfl | simp,hG⟩
 cases o3
 · skip
   generalize ((w5.alloc (.cells #[.slice sa3 xa3.length xa3.length,.bool ba3,.slice sa3' xa3'.length xa3'.length,.bool ba3'] 28)).alloc (.cells #[.int .i64 gx3,.slice sx3 lx3 cx3,.int .i64 gx3',.slice sx3' lx3' cx3'] 38)) = w6 at *
   generalize w5.heap.size = aw5 at *
   replace hzw5:=hzw5.out
   replace hla1w5:=hla1w5.out
   replace hlx1w5:=hlx1w5.out
   replace hla2w5:=hla2w5.out
   replace hlx2w5:=hlx2w5.out
   clear Ca10 Fa10 Ca11 Fa11 Ca12 Fa12 Ca13 Fa13 Cx10 Fx10 Cx11 Fx11 Cx12 Fx12 Cx13 Fx13 Ca20 Fa20 Ca21 Fa21 Ca22 Fa22 Ca23 Fa23 Cx20 Fx20 Cx21 Fx21 Cx22 Fx22 Cx23 Fx23 Ca30 Fa30 Ca31 Fa31 Ca32 Fa32 Ca33 Fa33 Cx30 Fx30 Cx31 Fx31 Cx32 Fx32 Cx33 Fx33
   refine (A_ w6 (HTB.out _ hG)).mono ?_
   rintro e o2w7 ⟨rfl,go2w7⟩
   replace Ba1:=a_ go2w7 Ba1
   replace Bx1:=a_ go2w7 Bx1
   replace Ba2:=a_ go2w7 Ba2
   replace Bx2:=a_ go2w7 Bx2
   replace Ba3:=a_ go2w7 Ba3
   replace Bx3:=a_ go2w7 Bx3
   replace hG:=d_ hG go2w7
   clear go2w7
   obtain ⟨Ca10,Ca11,Ca12,Ca13,Fa10,Fa11,Fa12,Fa13⟩:=b_ Ba1
   obtain ⟨Cx10,Cx11,Cx12,Cx13,Fx10,Fx11,Fx12,Fx13⟩:=b_ Bx1
   obtain ⟨Ca20,Ca21,Ca22,Ca23,Fa20,Fa21,Fa22,Fa23⟩:=b_ Ba2
   obtain ⟨Cx20,Cx21,Cx22,Cx23,Fx20,Fx21,Fx22,Fx23⟩:=b_ Bx2
   obtain ⟨Ca30,Ca31,Ca32,Ca33,Fa30,Fa31,Fa32,Fa33⟩:=b_ Ba3
   obtain ⟨Cx30,Cx31,Cx32,Cx33,Fx30,Fx31,Fx32,Fx33⟩:=b_ Bx3
   go_wp2_with fail
   clear Ca10 Fa10 Ca11 Fa11 Ca12 Fa12 Ca13 Fa13 Cx10 Fx10 Cx11 Fx11 Cx12 Fx12 Cx13 Fx13 Ca20 Fa20 Ca21 Fa21 Ca22 Fa22 Ca23 Fa23 Cx20 Fx20 Cx21 Fx21 Cx22 Fx22 Cx23 Fx23 Ca30 Fa30 Ca31 Fa31 Ca32 Fa32 Ca33 Fa33 Cx30 Fx30 Cx31 Fx31 Cx32 Fx32 Cx33 Fx33
   refine (A_ o2w7 (HTB.out _ hG)).mono ?_
   rintro e o2w8 ⟨rfl,go2w8⟩
   replace Ba1:=a_ go2w8 Ba1
   replace Bx1:=a_ go2w8 Bx1
   replace Ba2:=a_ go2w8 Ba2
   replace Bx2:=a_ go2w8 Bx2
   replace Ba3:=a_ go2w8 Ba3
   replace Bx3:=a_ go2w8 Bx3
   replace hG:=d_ hG go2w8
   clear go2w8
   obtain ⟨Ca10,Ca11,Ca12,Ca13,Fa10,Fa11,Fa12,Fa13⟩:=b_ Ba1
   obtain ⟨Cx10,Cx11,Cx12,Cx13,Fx10,Fx11,Fx12,Fx13⟩:=b_ Bx1
   obtain ⟨Ca20,Ca21,Ca22,Ca23,Fa20,Fa21,Fa22,Fa23⟩:=b_ Ba2
   obtain ⟨Cx20,Cx21,Cx22,Cx23,Fx20,Fx21,Fx22,Fx23⟩:=b_ Bx2
   obtain ⟨Ca30,Ca31,Ca32,Ca33,Fa30,Fa31,Fa32,Fa33⟩:=b_ Ba3
   obtain ⟨Cx30,Cx31,Cx32,Cx33,Fx30,Fx31,Fx32,Fx33⟩:=b_ Bx3
   go_wp2_with fail
   go_ret
   exact ⟨by first | rfl | simp,hG⟩
 generalize ((w5.alloc (.cells #[.slice sa3 xa3.length xa3.length,.bool ba3,.slice sa3' xa3'.length xa3'.length,.bool ba3'] 28)).alloc (.cells #[.int .i64 gx3,.slice sx3 lx3 cx3,.int .i64 gx3',.slice sx3' lx3' cx3'] 38)) = w6 at *
 generalize w5.heap.size = aw5 at *
 replace hzw5:=hzw5.out
 replace hla1w5:=hla1w5.out
 replace hlx1w5:=hlx1w5.out
 replace hla2w5:=hla2w5.out
 replace hlx2w5:=hlx2w5.out
 clear Ca10 Fa10 Ca11 Fa11 Ca12 Fa12 Ca13 Fa13 Cx10 Fx10 Cx11 Fx11 Cx12 Fx12 Cx13 Fx13 Ca20 Fa20 Ca21 Fa21 Ca22 Fa22 Ca23 Fa23 Cx20 Fx20 Cx21 Fx21 Cx22 Fx22 Cx23 Fx23 Ca30 Fa30 Ca31 Fa31 Ca32 Fa32 Ca33 Fa33 Cx30 Fx30 Cx31 Fx31 Cx32 Fx32 Cx33 Fx33
 refine (A_ w6 (HTB.out _ hG)).mono ?_
 rintro e w7 ⟨rfl,gw7⟩
 replace Ba1:=a_ gw7 Ba1
 replace Bx1:=a_ gw7 Bx1
 replace Ba2:=a_ gw7 Ba2
 replace Bx2:=a_ gw7 Bx2
 replace Ba3:=a_ gw7 Ba3
 replace Bx3:=a_ gw7 Bx3
 replace qa1:=qa1.kept gw7
 replace qa2:=qa2.kept gw7
 replace qa3:=qa3.kept gw7
 replace hG:=d_ hG gw7
 clear gw7
 obtain ⟨Ca10,Ca11,Ca12,Ca13,Fa10,Fa11,Fa12,Fa13⟩:=b_ Ba1
 obtain ⟨Cx10,Cx11,Cx12,Cx13,Fx10,Fx11,Fx12,Fx13⟩:=b_ Bx1
 obtain ⟨Ca20,Ca21,Ca22,Ca23,Fa20,Fa21,Fa22,Fa23⟩:=b_ Ba2
 obtain ⟨Cx20,Cx21,Cx22,Cx23,Fx20,Fx21,Fx22,Fx23⟩:=b_ Bx2
 obtain ⟨Ca30,Ca31,Ca32,Ca33,Fa30,Fa31,Fa32,Fa33⟩:=b_ Ba3
 obtain ⟨Cx30,Cx31,Cx32,Cx33,Fx30,Fx31,Fx32,Fx33⟩:=b_ Bx3
 go_wp2_with fail
 dsimp only [List.append]
 have HTr : Hid (∀ W,w7.grownBy W none → Tab W):=fun W hW=>HTB.out _ (d_ hG hW)
 go_region_held3 (fun w'=>w'.cell? ⟨aw1,0,none⟩ = some (.slice sa1 xa1.length xa1.length) ∧ w'.cell? ⟨aw1,1,none⟩ = some (.bool ba1) ∧ w'.cell? ⟨aw1,2,none⟩ = some (.slice sa1' xa1'.length xa1'.length) ∧ w'.cell? ⟨aw1,3,none⟩ = some (.bool ba1') ∧ w'.cell? ⟨aw3,0,none⟩ = some (.slice sa2 xa2.length xa2.length) ∧ w'.cell? ⟨aw3,1,none⟩ = some (.bool ba2) ∧ w'.cell? ⟨aw3,2,none⟩ = some (.slice sa2' xa2'.length xa2'.length) ∧ w'.cell? ⟨aw3,3,none⟩ = some (.bool ba2') ∧ w'.cell? ⟨aw5,0,none⟩ = some (.slice sa3 xa3.length xa3.length) ∧ w'.cell? ⟨aw5,1,none⟩ = some (.bool ba3) ∧ w'.cell? ⟨aw5,2,none⟩ = some (.slice sa3' xa3'.length xa3'.length) ∧ w'.cell? ⟨aw5,3,none⟩ = some (.bool ba3'))
  (first | assumption | exact ⟨Ca10,Ca11,Ca12,Ca13,Ca20,Ca21,Ca22,Ca23,Ca30,Ca31,Ca32,Ca33⟩ | go_keep)
  (first
    | (go_at_call 33; (with_reducible refine (ah_ w7.drew _ _ A1 B1 5 (qa1.kept (k_ (h_ _ _))) (qa2.kept (k_ (h_ _ _))) (by omega) L1.out.1 L1.out.2 L2.out.1 L2.out.2 (HTr.out _ (k_ (h_ _ _)))).mono ?_); rintro e w8_1 ⟨vz1_,rfl,z1_,gw8_1⟩; have hGw8_1:=o_ w7 gw8_1 rfl rfl rfl rfl; have hSw8_1:=(n_ (hGw8_1.cell Ca10 (by simp)) (n_ (hGw8_1.cell Ca11 (by simp)) (n_ (hGw8_1.cell Ca12 (by simp)) (n_ (hGw8_1.cell Ca13 (by simp)) (n_ (hGw8_1.cell Ca20 (by simp)) (n_ (hGw8_1.cell Ca21 (by simp)) (n_ (hGw8_1.cell Ca22 (by simp)) (n_ (hGw8_1.cell Ca23 (by simp)) (n_ (hGw8_1.cell Ca30 (by simp)) (n_ (hGw8_1.cell Ca31 (by simp)) (n_ (hGw8_1.cell Ca32 (by simp)) (hGw8_1.cell Ca33 (by simp))))))))))))); clear gw8_1)
    | (go_at_call 33; (with_reducible refine (ah_ w8_1 _ _ B1 A1 5 (qa2.kept hGw8_1) (qa1.kept hGw8_1) (by omega) L2.out.1 L2.out.2 L1.out.1 L1.out.2 (HTr.out _ hGw8_1)).mono ?_); rintro e w8_2 ⟨vz2_,rfl,z2_,gw8_2⟩; have hGw8_2:=d_ hGw8_1 gw8_2; replace z1_:=z1_.kept gw8_2; have hSw8_2:=(n_ (hGw8_2.cell Ca10 (by simp)) (n_ (hGw8_2.cell Ca11 (by simp)) (n_ (hGw8_2.cell Ca12 (by simp)) (n_ (hGw8_2.cell Ca13 (by simp)) (n_ (hGw8_2.cell Ca20 (by simp)) (n_ (hGw8_2.cell Ca21 (by simp)) (n_ (hGw8_2.cell Ca22 (by simp)) (n_ (hGw8_2.cell Ca23 (by simp)) (n_ (hGw8_2.cell Ca30 (by simp)) (n_ (hGw8_2.cell Ca31 (by simp)) (n_ (hGw8_2.cell Ca32 (by simp)) (hGw8_2.cell Ca33 (by simp))))))))))))); clear gw8_2)
    | (go_at_call 28; (with_reducible refine (D_ w8_2 _ _ (A1 + B1) (B1 + A1) 11 z1_ z2_ (by omega) (aj_ (k:=5) (m:=5) L1.out.1 L1.out.2 L2.out.1 L2.out.2) (ad_ (k:=5) (m:=5) L1.out.2 L2.out.2) (aj_ (k:=5) (m:=5) L2.out.1 L2.out.2 L1.out.1 L1.out.2) (ad_ (k:=5) (m:=5) L2.out.2 L1.out.2)).mono ?_); rintro e w8_3 ⟨rfl,gw8_3⟩; rw [di_ (show (A1 + B1) = (B1 + A1) from Rat.add_comm _ _)]; have hGw8_3:=d_ hGw8_2 gw8_3; replace z1_:=z1_.kept gw8_3; replace z2_:=z2_.kept gw8_3; have hSw8_3:=(n_ (hGw8_3.cell Ca10 (by simp)) (n_ (hGw8_3.cell Ca11 (by simp)) (n_ (hGw8_3.cell Ca12 (by simp)) (n_ (hGw8_3.cell Ca13 (by simp)) (n_ (hGw8_3.cell Ca20 (by simp)) (n_ (hGw8_3.cell Ca21 (by simp)) (n_ (hGw8_3.cell Ca22 (by simp)) (n_ (hGw8_3.cell Ca23 (by simp)) (n_ (hGw8_3.cell Ca30 (by simp)) (n_ (hGw8_3.cell Ca31 (by simp)) (n_ (hGw8_3.cell Ca32 (by simp)) (hGw8_3.cell Ca33 (by simp))))))))))))); clear gw8_3)
    | (go_at_call 37; (with_reducible refine (ag_ w8_3 _ _ A1 B1 5 (qa1.kept hGw8_3) (qa2.kept hGw8_3) (by omega) L1.out.1 L1.out.2 L2.out.1 L2.out.2 (HTr.out _ hGw8_3)).mono ?_); rintro e w8_4 ⟨vz3_,rfl,z3_,gw8_4⟩; have hGw8_4:=d_ hGw8_3 gw8_4; replace z1_:=z1_.kept gw8_4; replace z2_:=z2_.kept gw8_4; have hSw8_4:=(n_ (hGw8_4.cell Ca10 (by simp)) (n_ (hGw8_4.cell Ca11 (by simp)) (n_ (hGw8_4.cell Ca12 (by simp)) (n_ (hGw8_4.cell Ca13 (by simp)) (n_ (hGw8_4.cell Ca20 (by simp)) (n_ (hGw8_4.cell Ca21 (by simp)) (n_ (hGw8_4.cell Ca22 (by simp)) (n_ (hGw8_4.cell Ca23 (by simp)) (n_ (hGw8_4.cell Ca30 (by simp)) (n_ (hGw8_4.cell Ca31 (by simp)) (n_ (hGw8_4.cell Ca32 (by simp)) (hGw8_4.cell Ca33 (by simp))))))))))))); clear gw8_4)
    | (go_at_call 37; (with_reducible refine (ag_ w8_4 _ _ B1 A1 5 (qa2.kept hGw8_4) (qa1.kept hGw8_4) (by omega) L2.out.1 L2.out.2 L1.out.1 L1.out.2 (HTr.out _ hGw8_4)).mono ?_); rintro e w8_5 ⟨vz4_,rfl,z4_,gw8_5⟩; have hGw8_5:=d_ hGw8_4 gw8_5; replace z1_:=z1_.kept gw8_5; replace z2_:=z2_.kept gw8_5; replace z3_:=z3_.kept gw8_5; have hSw8_5:=(n_ (hGw8_5.cell Ca10 (by simp)) (n_ (hGw8_5.cell Ca11 (by simp)) (n_ (hGw8_5.cell Ca12 (by simp)) (n_ (hGw8_5.cell Ca13 (by simp)) (n_ (hGw8_5.cell Ca20 (by simp)) (n_ (hGw8_5.cell Ca21 (by simp)) (n_ (hGw8_5.cell Ca22 (by simp)) (n_ (hGw8_5.cell Ca23 (by simp)) (n_ (hGw8_5.cell Ca30 (by simp)) (n_ (hGw8_5.cell Ca31 (by simp)) (n_ (hGw8_5.cell Ca32 (by simp)) (hGw8_5.cell Ca33 (by simp))))))))))))); clear gw8_5)
    | (go_at_call 28; (with_reducible refine (D_ w8_5 _ _ (A1 * B1) (B1 * A1) 10 z3_ z4_ (by omega) (ai_ (k:=5) (m:=5) L1.out.1 L2.out.1) (ac_ (k:=5) (m:=5) L1.out.2 L2.out.2) (ai_ (k:=5) (m:=5) L2.out.1 L1.out.1) (ac_ (k:=5) (m:=5) L2.out.2 L1.out.2)).mono ?_); rintro e w8_6 ⟨rfl,gw8_6⟩; rw [di_ (show (A1 * B1) = (B1 * A1) from Rat.mul_comm _ _)]; have hGw8_6:=d_ hGw8_5 gw8_6; replace z1_:=z1_.kept gw8_6; replace z2_:=z2_.kept gw8_6; replace z3_:=z3_.kept gw8_6; replace z4_:=z4_.kept gw8_6; have hSw8_6:=(n_ (hGw8_6.cell Ca10 (by simp)) (n_ (hGw8_6.cell Ca11 (by simp)) (n_ (hGw8_6.cell Ca12 (by simp)) (n_ (hGw8_6.cell Ca13 (by simp)) (n_ (hGw8_6.cell Ca20 (by simp)) (n_ (hGw8_6.cell Ca21 (by simp)) (n_ (hGw8_6.cell Ca22 (by simp)) (n_ (hGw8_6.cell Ca23 (by simp)) (n_ (hGw8_6.cell Ca30 (by simp)) (n_ (hGw8_6.cell Ca31 (by simp)) (n_ (hGw8_6.cell Ca32 (by simp)) (hGw8_6.cell Ca33 (by simp))))))))))))); clear gw8_6)
    | (go_at_call 33; (with_reducible refine (ah_ w8_6 _ _ A1 B1 5 (qa1.kept hGw8_6) (qa2.kept hGw8_6) (by omega) L1.out.1 L1.out.2 L2.out.1 L2.out.2 (HTr.out _ hGw8_6)).mono ?_); rintro e w8_7 ⟨vz5_,rfl,z5_,gw8_7⟩; have hGw8_7:=d_ hGw8_6 gw8_7; replace z1_:=z1_.kept gw8_7; replace z2_:=z2_.kept gw8_7; replace z3_:=z3_.kept gw8_7; replace z4_:=z4_.kept gw8_7; have hSw8_7:=(n_ (hGw8_7.cell Ca10 (by simp)) (n_ (hGw8_7.cell Ca11 (by simp)) (n_ (hGw8_7.cell Ca12 (by simp)) (n_ (hGw8_7.cell Ca13 (by simp)) (n_ (hGw8_7.cell Ca20 (by simp)) (n_ (hGw8_7.cell Ca21 (by simp)) (n_ (hGw8_7.cell Ca22 (by simp)) (n_ (hGw8_7.cell Ca23 (by simp)) (n_ (hGw8_7.cell Ca30 (by simp)) (n_ (hGw8_7.cell Ca31 (by simp)) (n_ (hGw8_7.cell Ca32 (by simp)) (hGw8_7.cell Ca33 (by simp))))))))))))); clear gw8_7)
    | (go_at_call 33; (with_reducible refine (ah_ w8_7 _ _ (A1 + B1) C1 11 z5_ (qa3.kept hGw8_7) (by omega) (aj_ (k:=5) (m:=5) L1.out.1 L1.out.2 L2.out.1 L2.out.2) (ad_ (k:=5) (m:=5) L1.out.2 L2.out.2) (bw L3.out.1 (by omega)) (bw L3.out.2 (by omega)) (HTr.out _ hGw8_7)).mono ?_); rintro e w8_8 ⟨vz6_,rfl,z6_,gw8_8⟩; have hGw8_8:=d_ hGw8_7 gw8_8; replace z1_:=z1_.kept gw8_8; replace z2_:=z2_.kept gw8_8; replace z3_:=z3_.kept gw8_8; replace z4_:=z4_.kept gw8_8; replace z5_:=z5_.kept gw8_8; have hSw8_8:=(n_ (hGw8_8.cell Ca10 (by simp)) (n_ (hGw8_8.cell Ca11 (by simp)) (n_ (hGw8_8.cell Ca12 (by simp)) (n_ (hGw8_8.cell Ca13 (by simp)) (n_ (hGw8_8.cell Ca20 (by simp)) (n_ (hGw8_8.cell Ca21 (by simp)) (n_ (hGw8_8.cell Ca22 (by simp)) (n_ (hGw8_8.cell Ca23 (by simp)) (n_ (hGw8_8.cell Ca30 (by simp)) (n_ (hGw8_8.cell Ca31 (by simp)) (n_ (hGw8_8.cell Ca32 (by simp)) (hGw8_8.cell Ca33 (by simp))))))))))))); clear gw8_8)
    | (go_at_call 33; (with_reducible refine (ah_ w8_8 _ _ B1 C1 5 (qa2.kept hGw8_8) (qa3.kept hGw8_8) (by omega) L2.out.1 L2.out.2 L3.out.1 L3.out.2 (HTr.out _ hGw8_8)).mono ?_); rintro e w8_9 ⟨vz7_,rfl,z7_,gw8_9⟩; have hGw8_9:=d_ hGw8_8 gw8_9; replace z1_:=z1_.kept gw8_9; replace z2_:=z2_.kept gw8_9; replace z3_:=z3_.kept gw8_9; replace z4_:=z4_.kept gw8_9; replace z5_:=z5_.kept gw8_9; replace z6_:=z6_.kept gw8_9; have hSw8_9:=(n_ (hGw8_9.cell Ca10 (by simp)) (n_ (hGw8_9.cell Ca11 (by simp)) (n_ (hGw8_9.cell Ca12 (by simp)) (n_ (hGw8_9.cell Ca13 (by simp)) (n_ (hGw8_9.cell Ca20 (by simp)) (n_ (hGw8_9.cell Ca21 (by simp)) (n_ (hGw8_9.cell Ca22 (by simp)) (n_ (hGw8_9.cell Ca23 (by simp)) (n_ (hGw8_9.cell Ca30 (by simp)) (n_ (hGw8_9.cell Ca31 (by simp)) (n_ (hGw8_9.cell Ca32 (by simp)) (hGw8_9.cell Ca33 (by simp))))))))))))); clear gw8_9)
    | (go_at_call 33; (with_reducible refine (ah_ w8_9 _ _ A1 (B1 + C1) 11 (qa1.kept hGw8_9) z7_ (by omega) (bw L1.out.1 (by omega)) (bw L1.out.2 (by omega)) (aj_ (k:=5) (m:=5) L2.out.1 L2.out.2 L3.out.1 L3.out.2) (ad_ (k:=5) (m:=5) L2.out.2 L3.out.2) (HTr.out _ hGw8_9)).mono ?_); rintro e w8_10 ⟨vz8_,rfl,z8_,gw8_10⟩; have hGw8_10:=d_ hGw8_9 gw8_10; replace z1_:=z1_.kept gw8_10; replace z2_:=z2_.kept gw8_10; replace z3_:=z3_.kept gw8_10; replace z4_:=z4_.kept gw8_10; replace z5_:=z5_.kept gw8_10; replace z6_:=z6_.kept gw8_10; replace z7_:=z7_.kept gw8_10; have hSw8_10:=(n_ (hGw8_10.cell Ca10 (by simp)) (n_ (hGw8_10.cell Ca11 (by simp)) (n_ (hGw8_10.cell Ca12 (by simp)) (n_ (hGw8_10.cell Ca13 (by simp)) (n_ (hGw8_10.cell Ca20 (by simp)) (n_ (hGw8_10.cell Ca21 (by simp)) (n_ (hGw8_10.cell Ca22 (by simp)) (n_ (hGw8_10.cell Ca23 (by simp)) (n_ (hGw8_10.cell Ca30 (by simp)) (n_ (hGw8_10.cell Ca31 (by simp)) (n_ (hGw8_10.cell Ca32 (by simp)) (hGw8_10.cell Ca33 (by simp))))))))))))); clear gw8_10)
    | (go_at_call 28; (with_reducible refine (D_ w8_10 _ _ ((A1 + B1) + C1) (A1 + (B1 + C1)) 23 z6_ z8_ (by omega) (aj_ (k:=11) (m:=11) (aj_ (k:=5) (m:=5) L1.out.1 L1.out.2 L2.out.1 L2.out.2) (ad_ (k:=5) (m:=5) L1.out.2 L2.out.2) (bw L3.out.1 (by omega)) (bw L3.out.2 (by omega))) (ad_ (k:=11) (m:=11) (ad_ (k:=5) (m:=5) L1.out.2 L2.out.2) (bw L3.out.2 (by omega))) (aj_ (k:=11) (m:=11) (bw L1.out.1 (by omega)) (bw L1.out.2 (by omega)) (aj_ (k:=5) (m:=5) L2.out.1 L2.out.2 L3.out.1 L3.out.2) (ad_ (k:=5) (m:=5) L2.out.2 L3.out.2)) (ad_ (k:=11) (m:=11) (bw L1.out.2 (by omega)) (ad_ (k:=5) (m:=5) L2.out.2 L3.out.2))).mono ?_); rintro e w8_11 ⟨rfl,gw8_11⟩; rw [di_ (show ((A1 + B1) + C1) = (A1 + (B1 + C1)) from Rat.add_assoc _ _ _)]; have hGw8_11:=d_ hGw8_10 gw8_11; replace z1_:=z1_.kept gw8_11; replace z2_:=z2_.kept gw8_11; replace z3_:=z3_.kept gw8_11; replace z4_:=z4_.kept gw8_11; replace z5_:=z5_.kept gw8_11; replace z6_:=z6_.kept gw8_11; replace z7_:=z7_.kept gw8_11; replace z8_:=z8_.kept gw8_11; have hSw8_11:=(n_ (hGw8_11.cell Ca10 (by simp)) (n_ (hGw8_11.cell Ca11 (by simp)) (n_ (hGw8_11.cell Ca12 (by simp)) (n_ (hGw8_11.cell Ca13 (by simp)) (n_ (hGw8_11.cell Ca20 (by simp)) (n_ (hGw8_11.cell Ca21 (by simp)) (n_ (hGw8_11.cell Ca22 (by simp)) (n_ (hGw8_11.cell Ca23 (by simp)) (n_ (hGw8_11.cell Ca30 (by simp)) (n_ (hGw8_11.cell Ca31 (by simp)) (n_ (hGw8_11.cell Ca32 (by simp)) (hGw8_11.cell Ca33 (by simp))))))))))))); clear gw8_11)
    | (go_at_call 37; (with_reducible refine (ag_ w8_11 _ _ A1 B1 5 (qa1.kept hGw8_11) (qa2.kept hGw8_11) (by omega) L1.out.1 L1.out.2 L2.out.1 L2.out.2 (HTr.out _ hGw8_11)).mono ?_); rintro e w8_12 ⟨vz9_,rfl,z9_,gw8_12⟩; have hGw8_12:=d_ hGw8_11 gw8_12; replace z1_:=z1_.kept gw8_12; replace z2_:=z2_.kept gw8_12; replace z3_:=z3_.kept gw8_12; replace z4_:=z4_.kept gw8_12; replace z5_:=z5_.kept gw8_12; replace z6_:=z6_.kept gw8_12; replace z7_:=z7_.kept gw8_12; replace z8_:=z8_.kept gw8_12; have hSw8_12:=(n_ (hGw8_12.cell Ca10 (by simp)) (n_ (hGw8_12.cell Ca11 (by simp)) (n_ (hGw8_12.cell Ca12 (by simp)) (n_ (hGw8_12.cell Ca13 (by simp)) (n_ (hGw8_12.cell Ca20 (by simp)) (n_ (hGw8_12.cell Ca21 (by simp)) (n_ (hGw8_12.cell Ca22 (by simp)) (n_ (hGw8_12.cell Ca23 (by simp)) (n_ (hGw8_12.cell Ca30 (by simp)) (n_ (hGw8_12.cell Ca31 (by simp)) (n_ (hGw8_12.cell Ca32 (by simp)) (hGw8_12.cell Ca33 (by simp))))))))))))); clear gw8_12)
    | (go_at_call 37; (with_reducible refine (ag_ w8_12 _ _ (A1 * B1) C1 10 z9_ (qa3.kept hGw8_12) (by omega) (ai_ (k:=5) (m:=5) L1.out.1 L2.out.1) (ac_ (k:=5) (m:=5) L1.out.2 L2.out.2) (bw L3.out.1 (by omega)) (bw L3.out.2 (by omega)) (HTr.out _ hGw8_12)).mono ?_); rintro e w8_13 ⟨vz10_,rfl,z10_,gw8_13⟩; have hGw8_13:=d_ hGw8_12 gw8_13; replace z1_:=z1_.kept gw8_13; replace z2_:=z2_.kept gw8_13; replace z3_:=z3_.kept gw8_13; replace z4_:=z4_.kept gw8_13; replace z5_:=z5_.kept gw8_13; replace z6_:=z6_.kept gw8_13; replace z7_:=z7_.kept gw8_13; replace z8_:=z8_.kept gw8_13; replace z9_:=z9_.kept gw8_13; have hSw8_13:=(n_ (hGw8_13.cell Ca10 (by simp)) (n_ (hGw8_13.cell Ca11 (by simp)) (n_ (hGw8_13.cell Ca12 (by simp)) (n_ (hGw8_13.cell Ca13 (by simp)) (n_ (hGw8_13.cell Ca20 (by simp)) (n_ (hGw8_13.cell Ca21 (by simp)) (n_ (hGw8_13.cell Ca22 (by simp)) (n_ (hGw8_13.cell Ca23 (by simp)) (n_ (hGw8_13.cell Ca30 (by simp)) (n_ (hGw8_13.cell Ca31 (by simp)) (n_ (hGw8_13.cell Ca32 (by simp)) (hGw8_13.cell Ca33 (by simp))))))))))))); clear gw8_13)
    | (go_at_call 37; (with_reducible refine (ag_ w8_13 _ _ B1 C1 5 (qa2.kept hGw8_13) (qa3.kept hGw8_13) (by omega) L2.out.1 L2.out.2 L3.out.1 L3.out.2 (HTr.out _ hGw8_13)).mono ?_); rintro e w8_14 ⟨vz11_,rfl,z11_,gw8_14⟩; have hGw8_14:=d_ hGw8_13 gw8_14; replace z1_:=z1_.kept gw8_14; replace z2_:=z2_.kept gw8_14; replace z3_:=z3_.kept gw8_14; replace z4_:=z4_.kept gw8_14; replace z5_:=z5_.kept gw8_14; replace z6_:=z6_.kept gw8_14; replace z7_:=z7_.kept gw8_14; replace z8_:=z8_.kept gw8_14; replace z9_:=z9_.kept gw8_14; replace z10_:=z10_.kept gw8_14; have hSw8_14:=(n_ (hGw8_14.cell Ca10 (by simp)) (n_ (hGw8_14.cell Ca11 (by simp)) (n_ (hGw8_14.cell Ca12 (by simp)) (n_ (hGw8_14.cell Ca13 (by simp)) (n_ (hGw8_14.cell Ca20 (by simp)) (n_ (hGw8_14.cell Ca21 (by simp)) (n_ (hGw8_14.cell Ca22 (by simp)) (n_ (hGw8_14.cell Ca23 (by simp)) (n_ (hGw8_14.cell Ca30 (by simp)) (n_ (hGw8_14.cell Ca31 (by simp)) (n_ (hGw8_14.cell Ca32 (by simp)) (hGw8_14.cell Ca33 (by simp))))))))))))); clear gw8_14)
    | (go_at_call 37; (with_reducible refine (ag_ w8_14 _ _ A1 (B1 * C1) 10 (qa1.kept hGw8_14) z11_ (by omega) (bw L1.out.1 (by omega)) (bw L1.out.2 (by omega)) (ai_ (k:=5) (m:=5) L2.out.1 L3.out.1) (ac_ (k:=5) (m:=5) L2.out.2 L3.out.2) (HTr.out _ hGw8_14)).mono ?_); rintro e w8_15 ⟨vz12_,rfl,z12_,gw8_15⟩; have hGw8_15:=d_ hGw8_14 gw8_15; replace z1_:=z1_.kept gw8_15; replace z2_:=z2_.kept gw8_15; replace z3_:=z3_.kept gw8_15; replace z4_:=z4_.kept gw8_15; replace z5_:=z5_.kept gw8_15; replace z6_:=z6_.kept gw8_15; replace z7_:=z7_.kept gw8_15; replace z8_:=z8_.kept gw8_15; replace z9_:=z9_.kept gw8_15; replace z10_:=z10_.kept gw8_15; replace z11_:=z11_.kept gw8_15; have hSw8_15:=(n_ (hGw8_15.cell Ca10 (by simp)) (n_ (hGw8_15.cell Ca11 (by simp)) (n_ (hGw8_15.cell Ca12 (by simp)) (n_ (hGw8_15.cell Ca13 (by simp)) (n_ (hGw8_15.cell Ca20 (by simp)) (n_ (hGw8_15.cell Ca21 (by simp)) (n_ (hGw8_15.cell Ca22 (by simp)) (n_ (hGw8_15.cell Ca23 (by simp)) (n_ (hGw8_15.cell Ca30 (by simp)) (n_ (hGw8_15.cell Ca31 (by simp)) (n_ (hGw8_15.cell Ca32 (by simp)) (hGw8_15.cell Ca33 (by simp))))))))))))); clear gw8_15)
    | (go_at_call 28; (with_reducible refine (D_ w8_15 _ _ ((A1 * B1) * C1) (A1 * (B1 * C1)) 20 z10_ z12_ (by omega) (ai_ (k:=10) (m:=10) (ai_ (k:=5) (m:=5) L1.out.1 L2.out.1) (bw L3.out.1 (by omega))) (ac_ (k:=10) (m:=10) (ac_ (k:=5) (m:=5) L1.out.2 L2.out.2) (bw L3.out.2 (by omega))) (ai_ (k:=10) (m:=10) (bw L1.out.1 (by omega)) (ai_ (k:=5) (m:=5) L2.out.1 L3.out.1)) (ac_ (k:=10) (m:=10) (bw L1.out.2 (by omega)) (ac_ (k:=5) (m:=5) L2.out.2 L3.out.2))).mono ?_); rintro e w8_16 ⟨rfl,gw8_16⟩; rw [di_ (show ((A1 * B1) * C1) = (A1 * (B1 * C1)) from Rat.mul_assoc _ _ _)]; have hGw8_16:=d_ hGw8_15 gw8_16; replace z1_:=z1_.kept gw8_16; replace z2_:=z2_.kept gw8_16; replace z3_:=z3_.kept gw8_16; replace z4_:=z4_.kept gw8_16; replace z5_:=z5_.kept gw8_16; replace z6_:=z6_.kept gw8_16; replace z7_:=z7_.kept gw8_16; replace z8_:=z8_.kept gw8_16; replace z9_:=z9_.kept gw8_16; replace z10_:=z10_.kept gw8_16; replace z11_:=z11_.kept gw8_16; replace z12_:=z12_.kept gw8_16; have hSw8_16:=(n_ (hGw8_16.cell Ca10 (by simp)) (n_ (hGw8_16.cell Ca11 (by simp)) (n_ (hGw8_16.cell Ca12 (by simp)) (n_ (hGw8_16.cell Ca13 (by simp)) (n_ (hGw8_16.cell Ca20 (by simp)) (n_ (hGw8_16.cell Ca21 (by simp)) (n_ (hGw8_16.cell Ca22 (by simp)) (n_ (hGw8_16.cell Ca23 (by simp)) (n_ (hGw8_16.cell Ca30 (by simp)) (n_ (hGw8_16.cell Ca31 (by simp)) (n_ (hGw8_16.cell Ca32 (by simp)) (hGw8_16.cell Ca33 (by simp))))))))))))); clear gw8_16)
    | (go_at_call 33; (with_reducible refine (ah_ w8_16 _ _ B1 C1 5 (qa2.kept hGw8_16) (qa3.kept hGw8_16) (by omega) L2.out.1 L2.out.2 L3.out.1 L3.out.2 (HTr.out _ hGw8_16)).mono ?_); rintro e w8_17 ⟨vz13_,rfl,z13_,gw8_17⟩; have hGw8_17:=d_ hGw8_16 gw8_17; replace z1_:=z1_.kept gw8_17; replace z2_:=z2_.kept gw8_17; replace z3_:=z3_.kept gw8_17; replace z4_:=z4_.kept gw8_17; replace z5_:=z5_.kept gw8_17; replace z6_:=z6_.kept gw8_17; replace z7_:=z7_.kept gw8_17; replace z8_:=z8_.kept gw8_17; replace z9_:=z9_.kept gw8_17; replace z10_:=z10_.kept gw8_17; replace z11_:=z11_.kept gw8_17; replace z12_:=z12_.kept gw8_17; have hSw8_17:=(n_ (hGw8_17.cell Ca10 (by simp)) (n_ (hGw8_17.cell Ca11 (by simp)) (n_ (hGw8_17.cell Ca12 (by simp)) (n_ (hGw8_17.cell Ca13 (by simp)) (n_ (hGw8_17.cell Ca20 (by simp)) (n_ (hGw8_17.cell Ca21 (by simp)) (n_ (hGw8_17.cell Ca22 (by simp)) (n_ (hGw8_17.cell Ca23 (by simp)) (n_ (hGw8_17.cell Ca30 (by simp)) (n_ (hGw8_17.cell Ca31 (by simp)) (n_ (hGw8_17.cell Ca32 (by simp)) (hGw8_17.cell Ca33 (by simp))))))))))))); clear gw8_17)
    | (go_at_call 37; (with_reducible refine (ag_ w8_17 _ _ A1 (B1 + C1) 11 (qa1.kept hGw8_17) z13_ (by omega) (bw L1.out.1 (by omega)) (bw L1.out.2 (by omega)) (aj_ (k:=5) (m:=5) L2.out.1 L2.out.2 L3.out.1 L3.out.2) (ad_ (k:=5) (m:=5) L2.out.2 L3.out.2) (HTr.out _ hGw8_17)).mono ?_); rintro e w8_18 ⟨vz14_,rfl,z14_,gw8_18⟩; have hGw8_18:=d_ hGw8_17 gw8_18; replace z1_:=z1_.kept gw8_18; replace z2_:=z2_.kept gw8_18; replace z3_:=z3_.kept gw8_18; replace z4_:=z4_.kept gw8_18; replace z5_:=z5_.kept gw8_18; replace z6_:=z6_.kept gw8_18; replace z7_:=z7_.kept gw8_18; replace z8_:=z8_.kept gw8_18; replace z9_:=z9_.kept gw8_18; replace z10_:=z10_.kept gw8_18; replace z11_:=z11_.kept gw8_18; replace z12_:=z12_.kept gw8_18; replace z13_:=z13_.kept gw8_18; have hSw8_18:=(n_ (hGw8_18.cell Ca10 (by simp)) (n_ (hGw8_18.cell Ca11 (by simp)) (n_ (hGw8_18.cell Ca12 (by simp)) (n_ (hGw8_18.cell Ca13 (by simp)) (n_ (hGw8_18.cell Ca20 (by simp)) (n_ (hGw8_18.cell Ca21 (by simp)) (n_ (hGw8_18.cell Ca22 (by simp)) (n_ (hGw8_18.cell Ca23 (by simp)) (n_ (hGw8_18.cell Ca30 (by simp)) (n_ (hGw8_18.cell Ca31 (by simp)) (n_ (hGw8_18.cell Ca32 (by simp)) (hGw8_18.cell Ca33 (by simp))))))))))))); clear gw8_18)
    | (go_at_call 37; (with_reducible refine (ag_ w8_18 _ _ A1 B1 5 (qa1.kept hGw8_18) (qa2.kept hGw8_18) (by omega) L1.out.1 L1.out.2 L2.out.1 L2.out.2 (HTr.out _ hGw8_18)).mono ?_); rintro e w8_19 ⟨vz15_,rfl,z15_,gw8_19⟩; have hGw8_19:=d_ hGw8_18 gw8_19; replace z1_:=z1_.kept gw8_19; replace z2_:=z2_.kept gw8_19; replace z3_:=z3_.kept gw8_19; replace z4_:=z4_.kept gw8_19; replace z5_:=z5_.kept gw8_19; replace z6_:=z6_.kept gw8_19; replace z7_:=z7_.kept gw8_19; replace z8_:=z8_.kept gw8_19; replace z9_:=z9_.kept gw8_19; replace z10_:=z10_.kept gw8_19; replace z11_:=z11_.kept gw8_19; replace z12_:=z12_.kept gw8_19; replace z13_:=z13_.kept gw8_19; replace z14_:=z14_.kept gw8_19; have hSw8_19:=(n_ (hGw8_19.cell Ca10 (by simp)) (n_ (hGw8_19.cell Ca11 (by simp)) (n_ (hGw8_19.cell Ca12 (by simp)) (n_ (hGw8_19.cell Ca13 (by simp)) (n_ (hGw8_19.cell Ca20 (by simp)) (n_ (hGw8_19.cell Ca21 (by simp)) (n_ (hGw8_19.cell Ca22 (by simp)) (n_ (hGw8_19.cell Ca23 (by simp)) (n_ (hGw8_19.cell Ca30 (by simp)) (n_ (hGw8_19.cell Ca31 (by simp)) (n_ (hGw8_19.cell Ca32 (by simp)) (hGw8_19.cell Ca33 (by simp))))))))))))); clear gw8_19)
    | (go_at_call 37; (with_reducible refine (ag_ w8_19 _ _ A1 C1 5 (qa1.kept hGw8_19) (qa3.kept hGw8_19) (by omega) L1.out.1 L1.out.2 L3.out.1 L3.out.2 (HTr.out _ hGw8_19)).mono ?_); rintro e w8_20 ⟨vz16_,rfl,z16_,gw8_20⟩; have hGw8_20:=d_ hGw8_19 gw8_20; replace z1_:=z1_.kept gw8_20; replace z2_:=z2_.kept gw8_20; replace z3_:=z3_.kept gw8_20; replace z4_:=z4_.kept gw8_20; replace z5_:=z5_.kept gw8_20; replace z6_:=z6_.kept gw8_20; replace z7_:=z7_.kept gw8_20; replace z8_:=z8_.kept gw8_20; replace z9_:=z9_.kept gw8_20; replace z10_:=z10_.kept gw8_20; replace z11_:=z11_.kept gw8_20; replace z12_:=z12_.kept gw8_20; replace z13_:=z13_.kept gw8_20; replace z14_:=z14_.kept gw8_20; replace z15_:=z15_.kept gw8_20; have hSw8_20:=(n_ (hGw8_20.cell Ca10 (by simp)) (n_ (hGw8_20.cell Ca11 (by simp)) (n_ (hGw8_20.cell Ca12 (by simp)) (n_ (hGw8_20.cell Ca13 (by simp)) (n_ (hGw8_20.cell Ca20 (by simp)) (n_ (hGw8_20.cell Ca21 (by simp)) (n_ (hGw8_20.cell Ca22 (by simp)) (n_ (hGw8_20.cell Ca23 (by simp)) (n_ (hGw8_20.cell Ca30 (by simp)) (n_ (hGw8_20.cell Ca31 (by simp)) (n_ (hGw8_20.cell Ca32 (by simp)) (hGw8_20.cell Ca33 (by simp))))))))))))); clear gw8_20)
    | (go_at_call 33; (with_reducible refine (ah_ w8_20 _ _ (A1 * B1) (A1 * C1) 10 z15_ z16_ (by omega) (ai_ (k:=5) (m:=5) L1.out.1 L2.out.1) (ac_ (k:=5) (m:=5) L1.out.2 L2.out.2) (ai_ (k:=5) (m:=5) L1.out.1 L3.out.1) (ac_ (k:=5) (m:=5) L1.out.2 L3.out.2) (HTr.out _ hGw8_20)).mono ?_); rintro e w8_21 ⟨vz17_,rfl,z17_,gw8_21⟩; have hGw8_21:=d_ hGw8_20 gw8_21; replace z1_:=z1_.kept gw8_21; replace z2_:=z2_.kept gw8_21; replace z3_:=z3_.kept gw8_21; replace z4_:=z4_.kept gw8_21; replace z5_:=z5_.kept gw8_21; replace z6_:=z6_.kept gw8_21; replace z7_:=z7_.kept gw8_21; replace z8_:=z8_.kept gw8_21; replace z9_:=z9_.kept gw8_21; replace z10_:=z10_.kept gw8_21; replace z11_:=z11_.kept gw8_21; replace z12_:=z12_.kept gw8_21; replace z13_:=z13_.kept gw8_21; replace z14_:=z14_.kept gw8_21; replace z15_:=z15_.kept gw8_21; replace z16_:=z16_.kept gw8_21; have hSw8_21:=(n_ (hGw8_21.cell Ca10 (by simp)) (n_ (hGw8_21.cell Ca11 (by simp)) (n_ (hGw8_21.cell Ca12 (by simp)) (n_ (hGw8_21.cell Ca13 (by simp)) (n_ (hGw8_21.cell Ca20 (by simp)) (n_ (hGw8_21.cell Ca21 (by simp)) (n_ (hGw8_21.cell Ca22 (by simp)) (n_ (hGw8_21.cell Ca23 (by simp)) (n_ (hGw8_21.cell Ca30 (by simp)) (n_ (hGw8_21.cell Ca31 (by simp)) (n_ (hGw8_21.cell Ca32 (by simp)) (hGw8_21.cell Ca33 (by simp))))))))))))); clear gw8_21)
    | (go_at_call 28; (with_reducible refine (D_ w8_21 _ _ (A1 * (B1 + C1)) ((A1 * B1) + (A1 * C1)) 22 z14_ z17_ (by omega) (ai_ (k:=11) (m:=11) (bw L1.out.1 (by omega)) (aj_ (k:=5) (m:=5) L2.out.1 L2.out.2 L3.out.1 L3.out.2)) (ac_ (k:=11) (m:=11) (bw L1.out.2 (by omega)) (ad_ (k:=5) (m:=5) L2.out.2 L3.out.2)) (bw (aj_ (k:=10) (m:=10) (ai_ (k:=5) (m:=5) L1.out.1 L2.out.1) (ac_ (k:=5) (m:=5) L1.out.2 L2.out.2) (ai_ (k:=5) (m:=5) L1.out.1 L3.out.1) (ac_ (k:=5) (m:=5) L1.out.2 L3.out.2)) (by omega)) (bw (ad_ (k:=10) (m:=10) (ac_ (k:=5) (m:=5) L1.out.2 L2.out.2) (ac_ (k:=5) (m:=5) L1.out.2 L3.out.2)) (by omega))).mono ?_); rintro e w8_22 ⟨rfl,gw8_22⟩; rw [di_ (show (A1 * (B1 + C1)) = ((A1 * B1) + (A1 * C1)) from Rat.mul_add _ _ _)]; have hGw8_22:=d_ hGw8_21 gw8_22; replace z1_:=z1_.kept gw8_22; replace z2_:=z2_.kept gw8_22; replace z3_:=z3_.kept gw8_22; replace z4_:=z4_.kept gw8_22; replace z5_:=z5_.kept gw8_22; replace z6_:=z6_.kept gw8_22; replace z7_:=z7_.kept gw8_22; replace z8_:=z8_.kept gw8_22; replace z9_:=z9_.kept gw8_22; replace z10_:=z10_.kept gw8_22; replace z11_:=z11_.kept gw8_22; replace z12_:=z12_.kept gw8_22; replace z13_:=z13_.kept gw8_22; replace z14_:=z14_.kept gw8_22; replace z15_:=z15_.kept gw8_22; replace z16_:=z16_.kept gw8_22; replace z17_:=z17_.kept gw8_22; have hSw8_22:=(n_ (hGw8_22.cell Ca10 (by simp)) (n_ (hGw8_22.cell Ca11 (by simp)) (n_ (hGw8_22.cell Ca12 (by simp)) (n_ (hGw8_22.cell Ca13 (by simp)) (n_ (hGw8_22.cell Ca20 (by simp)) (n_ (hGw8_22.cell Ca21 (by simp)) (n_ (hGw8_22.cell Ca22 (by simp)) (n_ (hGw8_22.cell Ca23 (by simp)) (n_ (hGw8_22.cell Ca30 (by simp)) (n_ (hGw8_22.cell Ca31 (by simp)) (n_ (hGw8_22.cell Ca32 (by simp)) (hGw8_22.cell Ca33 (by simp))))))))))))); clear gw8_22)
    | (go_at_call 35; (with_reducible refine (bS_ w8_22 _ _ A1 A1 5 (qa1.kept hGw8_22) (qa1.kept hGw8_22) (by omega) L1.out.1 L1.out.2 L1.out.1 L1.out.2 (HTr.out _ hGw8_22)).mono ?_); rintro e w8_23 ⟨vz18_,rfl,z18_,gw8_23⟩; have hGw8_23:=d_ hGw8_22 gw8_23; replace z1_:=z1_.kept gw8_23; replace z2_:=z2_.kept gw8_23; replace z3_:=z3_.kept gw8_23; replace z4_:=z4_.kept gw8_23; replace z5_:=z5_.kept gw8_23; replace z6_:=z6_.kept gw8_23; replace z7_:=z7_.kept gw8_23; replace z8_:=z8_.kept gw8_23; replace z9_:=z9_.kept gw8_23; replace z10_:=z10_.kept gw8_23; replace z11_:=z11_.kept gw8_23; replace z12_:=z12_.kept gw8_23; replace z13_:=z13_.kept gw8_23; replace z14_:=z14_.kept gw8_23; replace z15_:=z15_.kept gw8_23; replace z16_:=z16_.kept gw8_23; replace z17_:=z17_.kept gw8_23; have hSw8_23:=(n_ (hGw8_23.cell Ca10 (by simp)) (n_ (hGw8_23.cell Ca11 (by simp)) (n_ (hGw8_23.cell Ca12 (by simp)) (n_ (hGw8_23.cell Ca13 (by simp)) (n_ (hGw8_23.cell Ca20 (by simp)) (n_ (hGw8_23.cell Ca21 (by simp)) (n_ (hGw8_23.cell Ca22 (by simp)) (n_ (hGw8_23.cell Ca23 (by simp)) (n_ (hGw8_23.cell Ca30 (by simp)) (n_ (hGw8_23.cell Ca31 (by simp)) (n_ (hGw8_23.cell Ca32 (by simp)) (hGw8_23.cell Ca33 (by simp))))))))))))); clear gw8_23)
    | (go_at_call 21; (with_reducible refine (S_ w8_23 _ (A1 - A1) 11 z18_ (by omega) (dl_ (k:=5) (m:=5) L1.out.1 L1.out.2 L1.out.1 L1.out.2)).mono ?_); rintro e w8_24 ⟨rfl,gw8_24⟩; rw [show (A1 - A1).num.sign = 0 from by rw [Rat.sub_self]; rfl]; have hGw8_24:=d_ hGw8_23 gw8_24; replace z1_:=z1_.kept gw8_24; replace z2_:=z2_.kept gw8_24; replace z3_:=z3_.kept gw8_24; replace z4_:=z4_.kept gw8_24; replace z5_:=z5_.kept gw8_24; replace z6_:=z6_.kept gw8_24; replace z7_:=z7_.kept gw8_24; replace z8_:=z8_.kept gw8_24; replace z9_:=z9_.kept gw8_24; replace z10_:=z10_.kept gw8_24; replace z11_:=z11_.kept gw8_24; replace z12_:=z12_.kept gw8_24; replace z13_:=z13_.kept gw8_24; replace z14_:=z14_.kept gw8_24; replace z15_:=z15_.kept gw8_24; replace z16_:=z16_.kept gw8_24; replace z17_:=z17_.kept gw8_24; replace z18_:=z18_.kept gw8_24; have hSw8_24:=(n_ (hGw8_24.cell Ca10 (by simp)) (n_ (hGw8_24.cell Ca11 (by simp)) (n_ (hGw8_24.cell Ca12 (by simp)) (n_ (hGw8_24.cell Ca13 (by simp)) (n_ (hGw8_24.cell Ca20 (by simp)) (n_ (hGw8_24.cell Ca21 (by simp)) (n_ (hGw8_24.cell Ca22 (by simp)) (n_ (hGw8_24.cell Ca23 (by simp)) (n_ (hGw8_24.cell Ca30 (by simp)) (n_ (hGw8_24.cell Ca31 (by simp)) (n_ (hGw8_24.cell Ca32 (by simp)) (hGw8_24.cell Ca33 (by simp))))))))))))); clear gw8_24))
 replace Ba1:=a_ hGw8_24 Ba1
 replace Bx1:=a_ hGw8_24 Bx1
 replace Ba2:=a_ hGw8_24 Ba2
 replace Bx2:=a_ hGw8_24 Bx2
 replace Ba3:=a_ hGw8_24 Ba3
 replace Bx3:=a_ hGw8_24 Bx3
 replace qa1:=qa1.kept hGw8_24
 replace qa2:=qa2.kept hGw8_24
 replace qa3:=qa3.kept hGw8_24
 replace hG:=d_ hG hGw8_24
 clear Ca10 Fa10 Ca11 Fa11 Ca12 Fa12 Ca13 Fa13 Cx10 Fx10 Cx11 Fx11 Cx12 Fx12 Cx13 Fx13 Ca20 Fa20 Ca21 Fa21 Ca22 Fa22 Ca23 Fa23 Cx20 Fx20 Cx21 Fx21 Cx22 Fx22 Cx23 Fx23 Ca30 Fa30 Ca31 Fa31 Ca32 Fa32 Ca33 Fa33 Cx30 Fx30 Cx31 Fx31 Cx32 Fx32 Cx33 Fx33
 obtain ⟨Ca10,Ca11,Ca12,Ca13,Fa10,Fa11,Fa12,Fa13⟩:=b_ Ba1
 obtain ⟨Cx10,Cx11,Cx12,Cx13,Fx10,Fx11,Fx12,Fx13⟩:=b_ Bx1
 obtain ⟨Ca20,Ca21,Ca22,Ca23,Fa20,Fa21,Fa22,Fa23⟩:=b_ Ba2
 obtain ⟨Cx20,Cx21,Cx22,Cx23,Fx20,Fx21,Fx22,Fx23⟩:=b_ Bx2
 obtain ⟨Ca30,Ca31,Ca32,Ca33,Fa30,Fa31,Fa32,Fa33⟩:=b_ Ba3
 obtain ⟨Cx30,Cx31,Cx32,Cx33,Fx30,Fx31,Fx32,Fx33⟩:=b_ Bx3
 go_wp2_with fail
 by_cases hB : B1 = 0
 · skip
   have HB:=H_ hB
   have HSB : Hid (B1.num.sign = 0):=by show _ = _; rw [hB]; rfl
   clear hB
   clear Ca10 Fa10 Ca11 Fa11 Ca12 Fa12 Ca13 Fa13 Cx10 Fx10 Cx11 Fx11 Cx12 Fx12 Cx13 Fx13 Ca20 Fa20 Ca21 Fa21 Ca22 Fa22 Ca23 Fa23 Cx20 Fx20 Cx21 Fx21 Cx22 Fx22 Cx23 Fx23 Ca30 Fa30 Ca31 Fa31 Ca32 Fa32 Ca33 Fa33 Cx30 Fx30 Cx31 Fx31 Cx32 Fx32 Cx33 Fx33
   refine (ct_ w8_24 _ _ A1 B1 5 qa1 qa2 (by omega) L1.out.1 L1.out.2 L2.out.1 L2.out.2 (HTB.out _ hG)).mono ?_
   rintro e b1w9 ⟨_,rfl,⟨sd,xd,bd,sd',xd',bd',rfl,hd,hd'⟩,gb1w9⟩
   rw [if_pos HB.out]
   have qd : RatV b1w9 (.agg #[.slice sd xd.length xd.length,.bool bd,.slice sd' xd'.length xd'.length,.bool bd']) (A1 / B1):=⟨sd,xd,bd,sd',xd',bd',rfl,hd,hd'⟩
   replace Ba1:=a_ gb1w9 Ba1
   replace Bx1:=a_ gb1w9 Bx1
   replace Ba2:=a_ gb1w9 Ba2
   replace Bx2:=a_ gb1w9 Bx2
   replace Ba3:=a_ gb1w9 Ba3
   replace Bx3:=a_ gb1w9 Bx3
   replace qa1:=qa1.kept gb1w9
   replace qa2:=qa2.kept gb1w9
   replace qa3:=qa3.kept gb1w9
   replace hG:=d_ hG gb1w9
   clear gb1w9
   clear hd hd'
   obtain ⟨Ca10,Ca11,Ca12,Ca13,Fa10,Fa11,Fa12,Fa13⟩:=b_ Ba1
   obtain ⟨Cx10,Cx11,Cx12,Cx13,Fx10,Fx11,Fx12,Fx13⟩:=b_ Bx1
   obtain ⟨Ca20,Ca21,Ca22,Ca23,Fa20,Fa21,Fa22,Fa23⟩:=b_ Ba2
   obtain ⟨Cx20,Cx21,Cx22,Cx23,Fx20,Fx21,Fx22,Fx23⟩:=b_ Bx2
   obtain ⟨Ca30,Ca31,Ca32,Ca33,Fa30,Fa31,Fa32,Fa33⟩:=b_ Ba3
   obtain ⟨Cx30,Cx31,Cx32,Cx33,Fx30,Fx31,Fx32,Fx33⟩:=b_ Bx3
   have gbb1w9:=(wg_ b1w9 (.cells #[.slice sd xd.length xd.length,.bool bd,.slice sd' xd'.length xd'.length,.bool bd'] 28) none)
   have Bd:=(f_ b1w9 (.cells #[.slice sd xd.length xd.length,.bool bd,.slice sd' xd'.length xd'.length,.bool bd'] 28) (b1w9.heap.size) rfl)
   have hzb1w9 : Hid (w.heap.size ≤ b1w9.heap.size):=H_ hG.size
   have hla1b1w9 : Hid (aw1 < b1w9.heap.size):=H_ (Array.getElem?_eq_some_iff.1 Ba1).1
   have hlx1b1w9 : Hid (aw1 + 1 < b1w9.heap.size):=H_ (Array.getElem?_eq_some_iff.1 Bx1).1
   have hla2b1w9 : Hid (aw3 < b1w9.heap.size):=H_ (Array.getElem?_eq_some_iff.1 Ba2).1
   have hlx2b1w9 : Hid (aw3 + 1 < b1w9.heap.size):=H_ (Array.getElem?_eq_some_iff.1 Bx2).1
   have hla3b1w9 : Hid (aw5 < b1w9.heap.size):=H_ (Array.getElem?_eq_some_iff.1 Ba3).1
   have hlx3b1w9 : Hid (aw5 + 1 < b1w9.heap.size):=H_ (Array.getElem?_eq_some_iff.1 Bx3).1
   clear Ca10 Fa10 Ca11 Fa11 Ca12 Fa12 Ca13 Fa13 Cx10 Fx10 Cx11 Fx11 Cx12 Fx12 Cx13 Fx13 Ca20 Fa20 Ca21 Fa21 Ca22 Fa22 Ca23 Fa23 Cx20 Fx20 Cx21 Fx21 Cx22 Fx22 Cx23 Fx23 Ca30 Fa30 Ca31 Fa31 Ca32 Fa32 Ca33 Fa33 Cx30 Fx30 Cx31 Fx31 Cx32 Fx32 Cx33 Fx33
   replace Ba1:=a_ gbb1w9 Ba1
   replace Bx1:=a_ gbb1w9 Bx1
   replace Ba2:=a_ gbb1w9 Ba2
   replace Bx2:=a_ gbb1w9 Bx2
   replace Ba3:=a_ gbb1w9 Ba3
   replace Bx3:=a_ gbb1w9 Bx3
   replace qa1:=qa1.kept gbb1w9
   replace qa2:=qa2.kept gbb1w9
   replace qa3:=qa3.kept gbb1w9
   replace hG:=d_ hG gbb1w9
   clear gbb1w9
   obtain ⟨Ca10,Ca11,Ca12,Ca13,Fa10,Fa11,Fa12,Fa13⟩:=b_ Ba1
   obtain ⟨Cx10,Cx11,Cx12,Cx13,Fx10,Fx11,Fx12,Fx13⟩:=b_ Bx1
   obtain ⟨Ca20,Ca21,Ca22,Ca23,Fa20,Fa21,Fa22,Fa23⟩:=b_ Ba2
   obtain ⟨Cx20,Cx21,Cx22,Cx23,Fx20,Fx21,Fx22,Fx23⟩:=b_ Bx2
   obtain ⟨Ca30,Ca31,Ca32,Ca33,Fa30,Fa31,Fa32,Fa33⟩:=b_ Ba3
   obtain ⟨Cx30,Cx31,Cx32,Cx33,Fx30,Fx31,Fx32,Fx33⟩:=b_ Bx3
   obtain ⟨Cd0,Cd1,Cd2,Cd3,Fd0,Fd1,Fd2,Fd3⟩:=b_ Bd
   go_wp2_with fail
   generalize (b1w9.alloc (.cells #[.slice sd xd.length xd.length,.bool bd,.slice sd' xd'.length xd'.length,.bool bd'] 28)) = b1w10 at *
   generalize b1w9.heap.size = ab1w9 at *
   replace hzb1w9:=hzb1w9.out
   replace hla1b1w9:=hla1b1w9.out
   replace hlx1b1w9:=hlx1b1w9.out
   replace hla2b1w9:=hla2b1w9.out
   replace hlx2b1w9:=hlx2b1w9.out
   replace hla3b1w9:=hla3b1w9.out
   replace hlx3b1w9:=hlx3b1w9.out
   refine wp_region_held_drew (S:=fun w'=>w'.cell? ⟨aw3,0,none⟩ = some (.slice sa2 xa2.length xa2.length) ∧ w'.cell? ⟨aw3,1,none⟩ = some (.bool ba2) ∧ w'.cell? ⟨aw3,2,none⟩ = some (.slice sa2' xa2'.length xa2'.length) ∧ w'.cell? ⟨aw3,3,none⟩ = some (.bool ba2')) (by kernel_rfl) (by exact ⟨Ca20,Ca21,Ca22,Ca23⟩) (fun hHeld=>?_)
   refine tk_ 0 ?_ rfl ?_ ?_
   rotate_left
   · (intro w hSw; (try dsimp only at hSw); go_simp; (try with_reducible rfl))
   try simp only [ly_]
   refine tk_ 1 ?_ rfl ?_ ?_
   rotate_left
   · (intro w hSw; (try dsimp only at hSw); go_simp; (try with_reducible rfl))
   try simp only [ly_]
   refine tk_ 2 ?_ rfl ?_ ?_
   rotate_left
   · (intro w hSw; (try dsimp only at hSw); go_simp; (try with_reducible rfl))
   try simp only [ly_]
   refine o1_ 3 rfl (fun KQ hKQ=>?_)
   go_simp
   (go_at_call 21; (with_reducible refine (S_ b1w10.drew _ B1 5 (qa2.kept (k_ (h_ _ _))) (by omega) L2.out.1).mono ?_); rintro e b1w11_1 ⟨rfl,gb1w11_1⟩; rw [HSB.out]; have hGb1w11_1:=o_ b1w10 gb1w11_1 rfl rfl rfl rfl; have hSb1w11_1:=(n_ (hGb1w11_1.cell Ca20 (by simp)) (n_ (hGb1w11_1.cell Ca21 (by simp)) (n_ (hGb1w11_1.cell Ca22 (by simp)) (hGb1w11_1.cell Ca23 (by simp))))); clear gb1w11_1)
   (try go_wp2_with fail)
   refine hKQ.out _ _ (by exact hSb1w11_1) (fun hHeld=>?_)
   clear hKQ KQ
   try simp only [ly_]
   refine tk_ 4 ?_ rfl ?_ ?_
   rotate_left
   · (intro w hSw; (try dsimp only at hSw); go_simp; (try with_reducible rfl))
   try simp only [ly_]
   refine tk_ 5 ?_ rfl ?_ ?_
   rotate_left
   · (intro w hSw; (try dsimp only at hSw); go_simp; (try with_reducible rfl))
   try simp only [ly_]
   refine tk_ 6 ?_ rfl ?_ ?_
   rotate_left
   · (intro w hSw; (try dsimp only at hSw); go_simp; (try with_reducible rfl))
   try simp only [ly_]
   refine tk_ 7 ?_ rfl ?_ ?_
   rotate_left
   · (intro w hSw; (try dsimp only at hSw); go_simp; (try with_reducible rfl))
   try simp only [ly_]
   refine tk_ 8 ?_ rfl ?_ ?_
   rotate_left
   · (intro w hSw; (try dsimp only at hSw); go_simp; (try with_reducible rfl))
   try simp only [ly_]
   refine tk_ 9 ?_ rfl ?_ ?_
   rotate_left
   · (intro w hSw; (try dsimp only at hSw); go_simp; (try with_reducible rfl))
   try simp only [ly_]
   refine wpAnyH_take (i:=10) (v:=undef) rfl (by kernel_rfl) (by kernel_rfl) (by kernel_rfl) (fun _ _ _ h=>h) (Or.inr ⟨by rfl,rfl⟩) (by assumption) ?_
   try simp only [ly_]
   refine wpAnyH_take (i:=11) (v:=undef) rfl (by kernel_rfl) (by kernel_rfl) (by kernel_rfl) (fun _ _ _ h=>h) (Or.inr ⟨by rfl,rfl⟩) (by assumption) ?_
   try simp only [ly_]
   refine wpAnyH_take (i:=12) (v:=undef) rfl (by kernel_rfl) (by kernel_rfl) (by kernel_rfl) (fun _ _ _ h=>h) (Or.inr ⟨by rfl,rfl⟩) (by assumption) ?_
   try simp only [ly_]
   refine wpAnyH_take (i:=13) (v:=undef) rfl (by kernel_rfl) (by kernel_rfl) (by kernel_rfl) (fun _ _ _ h=>h) (Or.inr ⟨by rfl,rfl⟩) (by assumption) ?_
   try simp only [ly_]
   refine wpAnyH_take (i:=14) (v:=undef) rfl (by kernel_rfl) (by kernel_rfl) (by kernel_rfl) (fun _ _ _ h=>h) (Or.inr ⟨by rfl,rfl⟩) (by assumption) ?_
   try simp only [ly_]
   refine wpAnyH_take (i:=15) (v:=undef) rfl (by kernel_rfl) (by kernel_rfl) (by kernel_rfl) (fun _ _ _ h=>h) (Or.inr ⟨by rfl,rfl⟩) (by assumption) ?_
   try simp only [ly_]
   refine tk_ 16 ?_ rfl ?_ ?_
   rotate_left
   · (intro w hSw; (try dsimp only at hSw); go_simp; (try with_reducible rfl))
   try simp only [ly_]
   refine tk_ 17 ?_ rfl ?_ ?_
   rotate_left
   · (intro w hSw; (try dsimp only at hSw); go_simp; (try with_reducible rfl))
   try simp only [ly_]
   refine wpAnyH_done (by kernel_rfl) ?_ _
   replace Ba1:=a_ hGb1w11_1 Ba1
   replace Bx1:=a_ hGb1w11_1 Bx1
   replace Ba2:=a_ hGb1w11_1 Ba2
   replace Bx2:=a_ hGb1w11_1 Bx2
   replace Ba3:=a_ hGb1w11_1 Ba3
   replace Bx3:=a_ hGb1w11_1 Bx3
   replace Bd:=a_ hGb1w11_1 Bd
   replace qa1:=qa1.kept hGb1w11_1
   replace qa2:=qa2.kept hGb1w11_1
   replace qa3:=qa3.kept hGb1w11_1
   replace hG:=d_ hG hGb1w11_1
   clear Ca10 Fa10 Ca11 Fa11 Ca12 Fa12 Ca13 Fa13 Cx10 Fx10 Cx11 Fx11 Cx12 Fx12 Cx13 Fx13 Ca20 Fa20 Ca21 Fa21 Ca22 Fa22 Ca23 Fa23 Cx20 Fx20 Cx21 Fx21 Cx22 Fx22 Cx23 Fx23 Ca30 Fa30 Ca31 Fa31 Ca32 Fa32 Ca33 Fa33 Cx30 Fx30 Cx31 Fx31 Cx32 Fx32 Cx33 Fx33 Cd0 Fd0 Cd1 Fd1 Cd2 Fd2 Cd3 Fd3
   obtain ⟨Ca10,Ca11,Ca12,Ca13,Fa10,Fa11,Fa12,Fa13⟩:=b_ Ba1
   obtain ⟨Cx10,Cx11,Cx12,Cx13,Fx10,Fx11,Fx12,Fx13⟩:=b_ Bx1
   obtain ⟨Ca20,Ca21,Ca22,Ca23,Fa20,Fa21,Fa22,Fa23⟩:=b_ Ba2
   obtain ⟨Cx20,Cx21,Cx22,Cx23,Fx20,Fx21,Fx22,Fx23⟩:=b_ Bx2
   obtain ⟨Ca30,Ca31,Ca32,Ca33,Fa30,Fa31,Fa32,Fa33⟩:=b_ Ba3
   obtain ⟨Cx30,Cx31,Cx32,Cx33,Fx30,Fx31,Fx32,Fx33⟩:=b_ Bx3
   obtain ⟨Cd0,Cd1,Cd2,Cd3,Fd0,Fd1,Fd2,Fd3⟩:=b_ Bd
   go_wp2_with fail
   have HTr : Hid (∀ W,b1w11_1.grownBy W none → Tab W):=fun W hW=>HTB.out _ (d_ hG hW)
   go_region_held3 (fun w'=>w'.cell? ⟨aw1,0,none⟩ = some (.slice sa1 xa1.length xa1.length) ∧ w'.cell? ⟨aw1,1,none⟩ = some (.bool ba1) ∧ w'.cell? ⟨aw1,2,none⟩ = some (.slice sa1' xa1'.length xa1'.length) ∧ w'.cell? ⟨aw1,3,none⟩ = some (.bool ba1') ∧ w'.cell? ⟨aw3,0,none⟩ = some (.slice sa2 xa2.length xa2.length) ∧ w'.cell? ⟨aw3,1,none⟩ = some (.bool ba2) ∧ w'.cell? ⟨aw3,2,none⟩ = some (.slice sa2' xa2'.length xa2'.length) ∧ w'.cell? ⟨aw3,3,none⟩ = some (.bool ba2') ∧ w'.cell? ⟨aw5,0,none⟩ = some (.slice sa3 xa3.length xa3.length) ∧ w'.cell? ⟨aw5,1,none⟩ = some (.bool ba3) ∧ w'.cell? ⟨aw5,2,none⟩ = some (.slice sa3' xa3'.length xa3'.length) ∧ w'.cell? ⟨aw5,3,none⟩ = some (.bool ba3'))
    (first | assumption | exact ⟨Ca10,Ca11,Ca12,Ca13,Ca20,Ca21,Ca22,Ca23,Ca30,Ca31,Ca32,Ca33⟩ | go_keep)
    (first
      | (go_at_call 33; (with_reducible refine (ah_ b1w11_1.drew _ _ A1 C1 5 (qa1.kept (k_ (h_ _ _))) (qa3.kept (k_ (h_ _ _))) (by omega) L1.out.1 L1.out.2 L3.out.1 L3.out.2 (HTr.out _ (k_ (h_ _ _)))).mono ?_); rintro e b1w12_1 ⟨vz19_,rfl,z19_,gb1w12_1⟩; have hGb1w12_1:=o_ b1w11_1 gb1w12_1 rfl rfl rfl rfl; have hSb1w12_1:=(n_ (hGb1w12_1.cell Ca10 (by simp)) (n_ (hGb1w12_1.cell Ca11 (by simp)) (n_ (hGb1w12_1.cell Ca12 (by simp)) (n_ (hGb1w12_1.cell Ca13 (by simp)) (n_ (hGb1w12_1.cell Ca20 (by simp)) (n_ (hGb1w12_1.cell Ca21 (by simp)) (n_ (hGb1w12_1.cell Ca22 (by simp)) (n_ (hGb1w12_1.cell Ca23 (by simp)) (n_ (hGb1w12_1.cell Ca30 (by simp)) (n_ (hGb1w12_1.cell Ca31 (by simp)) (n_ (hGb1w12_1.cell Ca32 (by simp)) (hGb1w12_1.cell Ca33 (by simp))))))))))))); clear gb1w12_1)
      | (go_at_call 33; (with_reducible refine (ah_ b1w12_1 _ _ B1 C1 5 (qa2.kept hGb1w12_1) (qa3.kept hGb1w12_1) (by omega) L2.out.1 L2.out.2 L3.out.1 L3.out.2 (HTr.out _ hGb1w12_1)).mono ?_); rintro e b1w12_2 ⟨vz20_,rfl,z20_,gb1w12_2⟩; have hGb1w12_2:=d_ hGb1w12_1 gb1w12_2; replace z19_:=z19_.kept gb1w12_2; have hSb1w12_2:=(n_ (hGb1w12_2.cell Ca10 (by simp)) (n_ (hGb1w12_2.cell Ca11 (by simp)) (n_ (hGb1w12_2.cell Ca12 (by simp)) (n_ (hGb1w12_2.cell Ca13 (by simp)) (n_ (hGb1w12_2.cell Ca20 (by simp)) (n_ (hGb1w12_2.cell Ca21 (by simp)) (n_ (hGb1w12_2.cell Ca22 (by simp)) (n_ (hGb1w12_2.cell Ca23 (by simp)) (n_ (hGb1w12_2.cell Ca30 (by simp)) (n_ (hGb1w12_2.cell Ca31 (by simp)) (n_ (hGb1w12_2.cell Ca32 (by simp)) (hGb1w12_2.cell Ca33 (by simp))))))))))))); clear gb1w12_2)
      | (go_at_call 28; (with_reducible refine (D_ b1w12_2 _ _ (A1 + C1) (B1 + C1) 11 z19_ z20_ (by omega) (aj_ (k:=5) (m:=5) L1.out.1 L1.out.2 L3.out.1 L3.out.2) (ad_ (k:=5) (m:=5) L1.out.2 L3.out.2) (aj_ (k:=5) (m:=5) L2.out.1 L2.out.2 L3.out.1 L3.out.2) (ad_ (k:=5) (m:=5) L2.out.2 L3.out.2)).mono ?_); rintro e b1w12_3 ⟨rfl,gb1w12_3⟩; rw [HAC.out]; have hGb1w12_3:=d_ hGb1w12_2 gb1w12_3; replace z19_:=z19_.kept gb1w12_3; replace z20_:=z20_.kept gb1w12_3; have hSb1w12_3:=(n_ (hGb1w12_3.cell Ca10 (by simp)) (n_ (hGb1w12_3.cell Ca11 (by simp)) (n_ (hGb1w12_3.cell Ca12 (by simp)) (n_ (hGb1w12_3.cell Ca13 (by simp)) (n_ (hGb1w12_3.cell Ca20 (by simp)) (n_ (hGb1w12_3.cell Ca21 (by simp)) (n_ (hGb1w12_3.cell Ca22 (by simp)) (n_ (hGb1w12_3.cell Ca23 (by simp)) (n_ (hGb1w12_3.cell Ca30 (by simp)) (n_ (hGb1w12_3.cell Ca31 (by simp)) (n_ (hGb1w12_3.cell Ca32 (by simp)) (hGb1w12_3.cell Ca33 (by simp))))))))))))); clear gb1w12_3)
      | (go_at_call 28; (with_reducible refine (D_ b1w12_3 _ _ A1 B1 5 (qa1.kept hGb1w12_3) (qa2.kept hGb1w12_3) (by omega) L1.out.1 L1.out.2 L2.out.1 L2.out.2).mono ?_); rintro e b1w12_4 ⟨rfl,gb1w12_4⟩; rw [HK.out]; have hGb1w12_4:=d_ hGb1w12_3 gb1w12_4; replace z19_:=z19_.kept gb1w12_4; replace z20_:=z20_.kept gb1w12_4; have hSb1w12_4:=(n_ (hGb1w12_4.cell Ca10 (by simp)) (n_ (hGb1w12_4.cell Ca11 (by simp)) (n_ (hGb1w12_4.cell Ca12 (by simp)) (n_ (hGb1w12_4.cell Ca13 (by simp)) (n_ (hGb1w12_4.cell Ca20 (by simp)) (n_ (hGb1w12_4.cell Ca21 (by simp)) (n_ (hGb1w12_4.cell Ca22 (by simp)) (n_ (hGb1w12_4.cell Ca23 (by simp)) (n_ (hGb1w12_4.cell Ca30 (by simp)) (n_ (hGb1w12_4.cell Ca31 (by simp)) (n_ (hGb1w12_4.cell Ca32 (by simp)) (hGb1w12_4.cell Ca33 (by simp))))))))))))); clear gb1w12_4)
      | (go_at_call 37; (with_reducible refine (ag_ b1w12_4 _ _ A1 C1 5 (qa1.kept hGb1w12_4) (qa3.kept hGb1w12_4) (by omega) L1.out.1 L1.out.2 L3.out.1 L3.out.2 (HTr.out _ hGb1w12_4)).mono ?_); rintro e b1w12_5 ⟨vz21_,rfl,z21_,gb1w12_5⟩; have hGb1w12_5:=d_ hGb1w12_4 gb1w12_5; replace z19_:=z19_.kept gb1w12_5; replace z20_:=z20_.kept gb1w12_5; have hSb1w12_5:=(n_ (hGb1w12_5.cell Ca10 (by simp)) (n_ (hGb1w12_5.cell Ca11 (by simp)) (n_ (hGb1w12_5.cell Ca12 (by simp)) (n_ (hGb1w12_5.cell Ca13 (by simp)) (n_ (hGb1w12_5.cell Ca20 (by simp)) (n_ (hGb1w12_5.cell Ca21 (by simp)) (n_ (hGb1w12_5.cell Ca22 (by simp)) (n_ (hGb1w12_5.cell Ca23 (by simp)) (n_ (hGb1w12_5.cell Ca30 (by simp)) (n_ (hGb1w12_5.cell Ca31 (by simp)) (n_ (hGb1w12_5.cell Ca32 (by simp)) (hGb1w12_5.cell Ca33 (by simp))))))))))))); clear gb1w12_5)
      | (go_at_call 37; (with_reducible refine (ag_ b1w12_5 _ _ B1 C1 5 (qa2.kept hGb1w12_5) (qa3.kept hGb1w12_5) (by omega) L2.out.1 L2.out.2 L3.out.1 L3.out.2 (HTr.out _ hGb1w12_5)).mono ?_); rintro e b1w12_6 ⟨vz22_,rfl,z22_,gb1w12_6⟩; have hGb1w12_6:=d_ hGb1w12_5 gb1w12_6; replace z19_:=z19_.kept gb1w12_6; replace z20_:=z20_.kept gb1w12_6; replace z21_:=z21_.kept gb1w12_6; have hSb1w12_6:=(n_ (hGb1w12_6.cell Ca10 (by simp)) (n_ (hGb1w12_6.cell Ca11 (by simp)) (n_ (hGb1w12_6.cell Ca12 (by simp)) (n_ (hGb1w12_6.cell Ca13 (by simp)) (n_ (hGb1w12_6.cell Ca20 (by simp)) (n_ (hGb1w12_6.cell Ca21 (by simp)) (n_ (hGb1w12_6.cell Ca22 (by simp)) (n_ (hGb1w12_6.cell Ca23 (by simp)) (n_ (hGb1w12_6.cell Ca30 (by simp)) (n_ (hGb1w12_6.cell Ca31 (by simp)) (n_ (hGb1w12_6.cell Ca32 (by simp)) (hGb1w12_6.cell Ca33 (by simp))))))))))))); clear gb1w12_6)
      | (go_at_call 28; (with_reducible refine (D_ b1w12_6 _ _ (A1 * C1) (B1 * C1) 10 z21_ z22_ (by omega) (ai_ (k:=5) (m:=5) L1.out.1 L3.out.1) (ac_ (k:=5) (m:=5) L1.out.2 L3.out.2) (ai_ (k:=5) (m:=5) L2.out.1 L3.out.1) (ac_ (k:=5) (m:=5) L2.out.2 L3.out.2)).mono ?_); rintro e b1w12_7 ⟨rfl,gb1w12_7⟩; rw [HP.out]; have hGb1w12_7:=d_ hGb1w12_6 gb1w12_7; replace z19_:=z19_.kept gb1w12_7; replace z20_:=z20_.kept gb1w12_7; replace z21_:=z21_.kept gb1w12_7; replace z22_:=z22_.kept gb1w12_7; have hSb1w12_7:=(n_ (hGb1w12_7.cell Ca10 (by simp)) (n_ (hGb1w12_7.cell Ca11 (by simp)) (n_ (hGb1w12_7.cell Ca12 (by simp)) (n_ (hGb1w12_7.cell Ca13 (by simp)) (n_ (hGb1w12_7.cell Ca20 (by simp)) (n_ (hGb1w12_7.cell Ca21 (by simp)) (n_ (hGb1w12_7.cell Ca22 (by simp)) (n_ (hGb1w12_7.cell Ca23 (by simp)) (n_ (hGb1w12_7.cell Ca30 (by simp)) (n_ (hGb1w12_7.cell Ca31 (by simp)) (n_ (hGb1w12_7.cell Ca32 (by simp)) (hGb1w12_7.cell Ca33 (by simp))))))))))))); clear gb1w12_7)
      | (go_at_call 28; (with_reducible refine (D_ b1w12_7 _ _ A1 B1 5 (qa1.kept hGb1w12_7) (qa2.kept hGb1w12_7) (by omega) L1.out.1 L1.out.2 L2.out.1 L2.out.2).mono ?_); rintro e b1w12_8 ⟨rfl,gb1w12_8⟩; rw [HK.out]; have hGb1w12_8:=d_ hGb1w12_7 gb1w12_8; replace z19_:=z19_.kept gb1w12_8; replace z20_:=z20_.kept gb1w12_8; replace z21_:=z21_.kept gb1w12_8; replace z22_:=z22_.kept gb1w12_8; have hSb1w12_8:=(n_ (hGb1w12_8.cell Ca10 (by simp)) (n_ (hGb1w12_8.cell Ca11 (by simp)) (n_ (hGb1w12_8.cell Ca12 (by simp)) (n_ (hGb1w12_8.cell Ca13 (by simp)) (n_ (hGb1w12_8.cell Ca20 (by simp)) (n_ (hGb1w12_8.cell Ca21 (by simp)) (n_ (hGb1w12_8.cell Ca22 (by simp)) (n_ (hGb1w12_8.cell Ca23 (by simp)) (n_ (hGb1w12_8.cell Ca30 (by simp)) (n_ (hGb1w12_8.cell Ca31 (by simp)) (n_ (hGb1w12_8.cell Ca32 (by simp)) (hGb1w12_8.cell Ca33 (by simp))))))))))))); clear gb1w12_8)
      | (go_at_call 21; (with_reducible refine (S_ b1w12_8 _ C1 5 (qa3.kept hGb1w12_8) (by omega) L3.out.1).mono ?_); rintro e b1w12_9 ⟨rfl,gb1w12_9⟩; rw [HSC.out]; have hGb1w12_9:=d_ hGb1w12_8 gb1w12_9; replace z19_:=z19_.kept gb1w12_9; replace z20_:=z20_.kept gb1w12_9; replace z21_:=z21_.kept gb1w12_9; replace z22_:=z22_.kept gb1w12_9; have hSb1w12_9:=(n_ (hGb1w12_9.cell Ca10 (by simp)) (n_ (hGb1w12_9.cell Ca11 (by simp)) (n_ (hGb1w12_9.cell Ca12 (by simp)) (n_ (hGb1w12_9.cell Ca13 (by simp)) (n_ (hGb1w12_9.cell Ca20 (by simp)) (n_ (hGb1w12_9.cell Ca21 (by simp)) (n_ (hGb1w12_9.cell Ca22 (by simp)) (n_ (hGb1w12_9.cell Ca23 (by simp)) (n_ (hGb1w12_9.cell Ca30 (by simp)) (n_ (hGb1w12_9.cell Ca31 (by simp)) (n_ (hGb1w12_9.cell Ca32 (by simp)) (hGb1w12_9.cell Ca33 (by simp))))))))))))); clear gb1w12_9)
      | (go_at_call 28; (with_reducible refine (D_ b1w12_9 _ _ A1 B1 5 (qa1.kept hGb1w12_9) (qa2.kept hGb1w12_9) (by omega) L1.out.1 L1.out.2 L2.out.1 L2.out.2).mono ?_); rintro e b1w12_10 ⟨rfl,gb1w12_10⟩; rw [HK.out]; have hGb1w12_10:=d_ hGb1w12_9 gb1w12_10; replace z19_:=z19_.kept gb1w12_10; replace z20_:=z20_.kept gb1w12_10; replace z21_:=z21_.kept gb1w12_10; replace z22_:=z22_.kept gb1w12_10; have hSb1w12_10:=(n_ (hGb1w12_10.cell Ca10 (by simp)) (n_ (hGb1w12_10.cell Ca11 (by simp)) (n_ (hGb1w12_10.cell Ca12 (by simp)) (n_ (hGb1w12_10.cell Ca13 (by simp)) (n_ (hGb1w12_10.cell Ca20 (by simp)) (n_ (hGb1w12_10.cell Ca21 (by simp)) (n_ (hGb1w12_10.cell Ca22 (by simp)) (n_ (hGb1w12_10.cell Ca23 (by simp)) (n_ (hGb1w12_10.cell Ca30 (by simp)) (n_ (hGb1w12_10.cell Ca31 (by simp)) (n_ (hGb1w12_10.cell Ca32 (by simp)) (hGb1w12_10.cell Ca33 (by simp))))))))))))); clear gb1w12_10)
      | (go_at_call 35; (with_reducible refine (bS_ b1w12_10 _ _ A1 B1 5 (qa1.kept hGb1w12_10) (qa2.kept hGb1w12_10) (by omega) L1.out.1 L1.out.2 L2.out.1 L2.out.2 (HTr.out _ hGb1w12_10)).mono ?_); rintro e b1w12_11 ⟨vz23_,rfl,z23_,gb1w12_11⟩; have hGb1w12_11:=d_ hGb1w12_10 gb1w12_11; replace z19_:=z19_.kept gb1w12_11; replace z20_:=z20_.kept gb1w12_11; replace z21_:=z21_.kept gb1w12_11; replace z22_:=z22_.kept gb1w12_11; have hSb1w12_11:=(n_ (hGb1w12_11.cell Ca10 (by simp)) (n_ (hGb1w12_11.cell Ca11 (by simp)) (n_ (hGb1w12_11.cell Ca12 (by simp)) (n_ (hGb1w12_11.cell Ca13 (by simp)) (n_ (hGb1w12_11.cell Ca20 (by simp)) (n_ (hGb1w12_11.cell Ca21 (by simp)) (n_ (hGb1w12_11.cell Ca22 (by simp)) (n_ (hGb1w12_11.cell Ca23 (by simp)) (n_ (hGb1w12_11.cell Ca30 (by simp)) (n_ (hGb1w12_11.cell Ca31 (by simp)) (n_ (hGb1w12_11.cell Ca32 (by simp)) (hGb1w12_11.cell Ca33 (by simp))))))))))))); clear gb1w12_11)
      | (go_at_call 21; (with_reducible refine (S_ b1w12_11 _ (A1 - B1) 11 z23_ (by omega) (dl_ (k:=5) (m:=5) L1.out.1 L1.out.2 L2.out.1 L2.out.2)).mono ?_); rintro e b1w12_12 ⟨rfl,gb1w12_12⟩; rw [HSU.out]; have hGb1w12_12:=d_ hGb1w12_11 gb1w12_12; replace z19_:=z19_.kept gb1w12_12; replace z20_:=z20_.kept gb1w12_12; replace z21_:=z21_.kept gb1w12_12; replace z22_:=z22_.kept gb1w12_12; replace z23_:=z23_.kept gb1w12_12; have hSb1w12_12:=(n_ (hGb1w12_12.cell Ca10 (by simp)) (n_ (hGb1w12_12.cell Ca11 (by simp)) (n_ (hGb1w12_12.cell Ca12 (by simp)) (n_ (hGb1w12_12.cell Ca13 (by simp)) (n_ (hGb1w12_12.cell Ca20 (by simp)) (n_ (hGb1w12_12.cell Ca21 (by simp)) (n_ (hGb1w12_12.cell Ca22 (by simp)) (n_ (hGb1w12_12.cell Ca23 (by simp)) (n_ (hGb1w12_12.cell Ca30 (by simp)) (n_ (hGb1w12_12.cell Ca31 (by simp)) (n_ (hGb1w12_12.cell Ca32 (by simp)) (hGb1w12_12.cell Ca33 (by simp))))))))))))); clear gb1w12_12))
   replace Ba1:=a_ hGb1w12_12 Ba1
   replace Bx1:=a_ hGb1w12_12 Bx1
   replace Ba2:=a_ hGb1w12_12 Ba2
   replace Bx2:=a_ hGb1w12_12 Bx2
   replace Ba3:=a_ hGb1w12_12 Ba3
   replace Bx3:=a_ hGb1w12_12 Bx3
   replace Bd:=a_ hGb1w12_12 Bd
   replace hG:=d_ hG hGb1w12_12
   clear Ca10 Fa10 Ca11 Fa11 Ca12 Fa12 Ca13 Fa13 Cx10 Fx10 Cx11 Fx11 Cx12 Fx12 Cx13 Fx13 Ca20 Fa20 Ca21 Fa21 Ca22 Fa22 Ca23 Fa23 Cx20 Fx20 Cx21 Fx21 Cx22 Fx22 Cx23 Fx23 Ca30 Fa30 Ca31 Fa31 Ca32 Fa32 Ca33 Fa33 Cx30 Fx30 Cx31 Fx31 Cx32 Fx32 Cx33 Fx33 Cd0 Fd0 Cd1 Fd1 Cd2 Fd2 Cd3 Fd3
   obtain ⟨Ca10,Ca11,Ca12,Ca13,Fa10,Fa11,Fa12,Fa13⟩:=b_ Ba1
   obtain ⟨Cx10,Cx11,Cx12,Cx13,Fx10,Fx11,Fx12,Fx13⟩:=b_ Bx1
   obtain ⟨Ca20,Ca21,Ca22,Ca23,Fa20,Fa21,Fa22,Fa23⟩:=b_ Ba2
   obtain ⟨Cx20,Cx21,Cx22,Cx23,Fx20,Fx21,Fx22,Fx23⟩:=b_ Bx2
   obtain ⟨Ca30,Ca31,Ca32,Ca33,Fa30,Fa31,Fa32,Fa33⟩:=b_ Ba3
   obtain ⟨Cx30,Cx31,Cx32,Cx33,Fx30,Fx31,Fx32,Fx33⟩:=b_ Bx3
   obtain ⟨Cd0,Cd1,Cd2,Cd3,Fd0,Fd1,Fd2,Fd3⟩:=b_ Bd
   go_wp2_with fail
   go_ret
   exact ⟨by first | rfl | simp,hG⟩
 · skip
   have HB:=H_ hB
   obtain ⟨sb,hsb⟩ : ∃ k,B1.num.sign = k:=⟨_,rfl⟩
   have fsb : (sb == 0) = false:=beq_eq_false_iff_ne.2 (fun h=>hB (Rat.num_eq_zero.1 (Int.sign_eq_zero_iff_zero.1 (hsb.trans h))))
   have fsb2 : (sb != 0) = true:=by unfold bne; rw [fsb]; rfl
   have HSB:=H_ hsb
   clear hsb
   have HDB : Hid ((A1 / B1).num.natAbs < B ^ 10 ∧ (A1 / B1).den < B ^ 10):=⟨iv_ L1.out.1 L2.out.2,iw_ L1.out.2 L2.out.1 hB⟩
   clear hB
   clear Ca10 Fa10 Ca11 Fa11 Ca12 Fa12 Ca13 Fa13 Cx10 Fx10 Cx11 Fx11 Cx12 Fx12 Cx13 Fx13 Ca20 Fa20 Ca21 Fa21 Ca22 Fa22 Ca23 Fa23 Cx20 Fx20 Cx21 Fx21 Cx22 Fx22 Cx23 Fx23 Ca30 Fa30 Ca31 Fa31 Ca32 Fa32 Ca33 Fa33 Cx30 Fx30 Cx31 Fx31 Cx32 Fx32 Cx33 Fx33
   refine (ct_ w8_24 _ _ A1 B1 5 qa1 qa2 (by omega) L1.out.1 L1.out.2 L2.out.1 L2.out.2 (HTB.out _ hG)).mono ?_
   rintro e b0w9 ⟨_,rfl,⟨sd,xd,bd,sd',xd',bd',rfl,hd,hd'⟩,gb0w9⟩
   rw [if_neg HB.out]
   have qd : RatV b0w9 (.agg #[.slice sd xd.length xd.length,.bool bd,.slice sd' xd'.length xd'.length,.bool bd']) (A1 / B1):=⟨sd,xd,bd,sd',xd',bd',rfl,hd,hd'⟩
   replace Ba1:=a_ gb0w9 Ba1
   replace Bx1:=a_ gb0w9 Bx1
   replace Ba2:=a_ gb0w9 Ba2
   replace Bx2:=a_ gb0w9 Bx2
   replace Ba3:=a_ gb0w9 Ba3
   replace Bx3:=a_ gb0w9 Bx3
   replace qa1:=qa1.kept gb0w9
   replace qa2:=qa2.kept gb0w9
   replace qa3:=qa3.kept gb0w9
   replace hG:=d_ hG gb0w9
   clear gb0w9
   clear hd hd'
   obtain ⟨Ca10,Ca11,Ca12,Ca13,Fa10,Fa11,Fa12,Fa13⟩:=b_ Ba1
   obtain ⟨Cx10,Cx11,Cx12,Cx13,Fx10,Fx11,Fx12,Fx13⟩:=b_ Bx1
   obtain ⟨Ca20,Ca21,Ca22,Ca23,Fa20,Fa21,Fa22,Fa23⟩:=b_ Ba2
   obtain ⟨Cx20,Cx21,Cx22,Cx23,Fx20,Fx21,Fx22,Fx23⟩:=b_ Bx2
   obtain ⟨Ca30,Ca31,Ca32,Ca33,Fa30,Fa31,Fa32,Fa33⟩:=b_ Ba3
   obtain ⟨Cx30,Cx31,Cx32,Cx33,Fx30,Fx31,Fx32,Fx33⟩:=b_ Bx3
   have gbb0w9:=(wg_ b0w9 (.cells #[.slice sd xd.length xd.length,.bool bd,.slice sd' xd'.length xd'.length,.bool bd'] 28) none)
   have Bd:=(f_ b0w9 (.cells #[.slice sd xd.length xd.length,.bool bd,.slice sd' xd'.length xd'.length,.bool bd'] 28) (b0w9.heap.size) rfl)
   have hzb0w9 : Hid (w.heap.size ≤ b0w9.heap.size):=H_ hG.size
   have hla1b0w9 : Hid (aw1 < b0w9.heap.size):=H_ (Array.getElem?_eq_some_iff.1 Ba1).1
   have hlx1b0w9 : Hid (aw1 + 1 < b0w9.heap.size):=H_ (Array.getElem?_eq_some_iff.1 Bx1).1
   have hla2b0w9 : Hid (aw3 < b0w9.heap.size):=H_ (Array.getElem?_eq_some_iff.1 Ba2).1
   have hlx2b0w9 : Hid (aw3 + 1 < b0w9.heap.size):=H_ (Array.getElem?_eq_some_iff.1 Bx2).1
   have hla3b0w9 : Hid (aw5 < b0w9.heap.size):=H_ (Array.getElem?_eq_some_iff.1 Ba3).1
   have hlx3b0w9 : Hid (aw5 + 1 < b0w9.heap.size):=H_ (Array.getElem?_eq_some_iff.1 Bx3).1
   clear Ca10 Fa10 Ca11 Fa11 Ca12 Fa12 Ca13 Fa13 Cx10 Fx10 Cx11 Fx11 Cx12 Fx12 Cx13 Fx13 Ca20 Fa20 Ca21 Fa21 Ca22 Fa22 Ca23 Fa23 Cx20 Fx20 Cx21 Fx21 Cx22 Fx22 Cx23 Fx23 Ca30 Fa30 Ca31 Fa31 Ca32 Fa32 Ca33 Fa33 Cx30 Fx30 Cx31 Fx31 Cx32 Fx32 Cx33 Fx33
   replace Ba1:=a_ gbb0w9 Ba1
   replace Bx1:=a_ gbb0w9 Bx1
   replace Ba2:=a_ gbb0w9 Ba2
   replace Bx2:=a_ gbb0w9 Bx2
   replace Ba3:=a_ gbb0w9 Ba3
   replace Bx3:=a_ gbb0w9 Bx3
   replace qa1:=qa1.kept gbb0w9
   replace qa2:=qa2.kept gbb0w9
   replace qa3:=qa3.kept gbb0w9
   replace qd:=qd.kept gbb0w9
   replace hG:=d_ hG gbb0w9
   clear gbb0w9
   obtain ⟨Ca10,Ca11,Ca12,Ca13,Fa10,Fa11,Fa12,Fa13⟩:=b_ Ba1
   obtain ⟨Cx10,Cx11,Cx12,Cx13,Fx10,Fx11,Fx12,Fx13⟩:=b_ Bx1
   obtain ⟨Ca20,Ca21,Ca22,Ca23,Fa20,Fa21,Fa22,Fa23⟩:=b_ Ba2
   obtain ⟨Cx20,Cx21,Cx22,Cx23,Fx20,Fx21,Fx22,Fx23⟩:=b_ Bx2
   obtain ⟨Ca30,Ca31,Ca32,Ca33,Fa30,Fa31,Fa32,Fa33⟩:=b_ Ba3
   obtain ⟨Cx30,Cx31,Cx32,Cx33,Fx30,Fx31,Fx32,Fx33⟩:=b_ Bx3
   obtain ⟨Cd0,Cd1,Cd2,Cd3,Fd0,Fd1,Fd2,Fd3⟩:=b_ Bd
   go_wp2_with fail
   generalize (b0w9.alloc (.cells #[.slice sd xd.length xd.length,.bool bd,.slice sd' xd'.length xd'.length,.bool bd'] 28)) = b0w10 at *
   generalize b0w9.heap.size = ab0w9 at *
   replace hzb0w9:=hzb0w9.out
   replace hla1b0w9:=hla1b0w9.out
   replace hlx1b0w9:=hlx1b0w9.out
   replace hla2b0w9:=hla2b0w9.out
   replace hlx2b0w9:=hlx2b0w9.out
   replace hla3b0w9:=hla3b0w9.out
   replace hlx3b0w9:=hlx3b0w9.out
   have HTr : Hid (∀ W,b0w10.grownBy W none → Tab W):=fun W hW=>HTB.out _ (d_ hG hW)
   go_region_held3 (fun w'=>w'.cell? ⟨aw1,0,none⟩ = some (.slice sa1 xa1.length xa1.length) ∧ w'.cell? ⟨aw1,1,none⟩ = some (.bool ba1) ∧ w'.cell? ⟨aw1,2,none⟩ = some (.slice sa1' xa1'.length xa1'.length) ∧ w'.cell? ⟨aw1,3,none⟩ = some (.bool ba1') ∧ w'.cell? ⟨aw3,0,none⟩ = some (.slice sa2 xa2.length xa2.length) ∧ w'.cell? ⟨aw3,1,none⟩ = some (.bool ba2) ∧ w'.cell? ⟨aw3,2,none⟩ = some (.slice sa2' xa2'.length xa2'.length) ∧ w'.cell? ⟨aw3,3,none⟩ = some (.bool ba2') ∧ w'.cell? ⟨ab0w9,0,none⟩ = some (.slice sd xd.length xd.length) ∧ w'.cell? ⟨ab0w9,1,none⟩ = some (.bool bd) ∧ w'.cell? ⟨ab0w9,2,none⟩ = some (.slice sd' xd'.length xd'.length) ∧ w'.cell? ⟨ab0w9,3,none⟩ = some (.bool bd'))
    (first | assumption | exact ⟨Ca10,Ca11,Ca12,Ca13,Ca20,Ca21,Ca22,Ca23,Cd0,Cd1,Cd2,Cd3⟩ | go_keep)
    (first
      | (go_at_call 21; (with_reducible refine (S_ b0w10.drew _ B1 5 (qa2.kept (k_ (h_ _ _))) (by omega) L2.out.1).mono ?_); rintro e b0w11_1 ⟨rfl,gb0w11_1⟩; rw [HSB.out]; have hGb0w11_1:=o_ b0w10 gb0w11_1 rfl rfl rfl rfl; have hSb0w11_1:=(n_ (hGb0w11_1.cell Ca10 (by simp)) (n_ (hGb0w11_1.cell Ca11 (by simp)) (n_ (hGb0w11_1.cell Ca12 (by simp)) (n_ (hGb0w11_1.cell Ca13 (by simp)) (n_ (hGb0w11_1.cell Ca20 (by simp)) (n_ (hGb0w11_1.cell Ca21 (by simp)) (n_ (hGb0w11_1.cell Ca22 (by simp)) (n_ (hGb0w11_1.cell Ca23 (by simp)) (n_ (hGb0w11_1.cell Cd0 (by simp)) (n_ (hGb0w11_1.cell Cd1 (by simp)) (n_ (hGb0w11_1.cell Cd2 (by simp)) (hGb0w11_1.cell Cd3 (by simp))))))))))))); clear gb0w11_1)
      | (go_at_call 37; (with_reducible refine (ag_ b0w11_1 _ _ (A1 / B1) B1 10 (qd.kept hGb0w11_1) (qa2.kept hGb0w11_1) (by omega) HDB.out.1 HDB.out.2 (bw L2.out.1 (by omega)) (bw L2.out.2 (by omega)) (HTr.out _ hGb0w11_1)).mono ?_); rintro e b0w11_2 ⟨vz24_,rfl,z24_,gb0w11_2⟩; have hGb0w11_2:=d_ hGb0w11_1 gb0w11_2; have hSb0w11_2:=(n_ (hGb0w11_2.cell Ca10 (by simp)) (n_ (hGb0w11_2.cell Ca11 (by simp)) (n_ (hGb0w11_2.cell Ca12 (by simp)) (n_ (hGb0w11_2.cell Ca13 (by simp)) (n_ (hGb0w11_2.cell Ca20 (by simp)) (n_ (hGb0w11_2.cell Ca21 (by simp)) (n_ (hGb0w11_2.cell Ca22 (by simp)) (n_ (hGb0w11_2.cell Ca23 (by simp)) (n_ (hGb0w11_2.cell Cd0 (by simp)) (n_ (hGb0w11_2.cell Cd1 (by simp)) (n_ (hGb0w11_2.cell Cd2 (by simp)) (hGb0w11_2.cell Cd3 (by simp))))))))))))); clear gb0w11_2)
      | (go_at_call 28; (with_reducible refine (D_ b0w11_2 _ _ ((A1 / B1) * B1) A1 20 z24_ (qa1.kept hGb0w11_2) (by omega) (ai_ (k:=10) (m:=10) HDB.out.1 (bw L2.out.1 (by omega))) (ac_ (k:=10) (m:=10) HDB.out.2 (bw L2.out.2 (by omega))) (bw L1.out.1 (by omega)) (bw L1.out.2 (by omega))).mono ?_); rintro e b0w11_3 ⟨rfl,gb0w11_3⟩; rw [di_ (show (A1 / B1) * B1 = A1 from Rat.div_mul_cancel HB.out)]; have hGb0w11_3:=d_ hGb0w11_2 gb0w11_3; replace z24_:=z24_.kept gb0w11_3; have hSb0w11_3:=(n_ (hGb0w11_3.cell Ca10 (by simp)) (n_ (hGb0w11_3.cell Ca11 (by simp)) (n_ (hGb0w11_3.cell Ca12 (by simp)) (n_ (hGb0w11_3.cell Ca13 (by simp)) (n_ (hGb0w11_3.cell Ca20 (by simp)) (n_ (hGb0w11_3.cell Ca21 (by simp)) (n_ (hGb0w11_3.cell Ca22 (by simp)) (n_ (hGb0w11_3.cell Ca23 (by simp)) (n_ (hGb0w11_3.cell Cd0 (by simp)) (n_ (hGb0w11_3.cell Cd1 (by simp)) (n_ (hGb0w11_3.cell Cd2 (by simp)) (hGb0w11_3.cell Cd3 (by simp))))))))))))); clear gb0w11_3))
   replace Ba1:=a_ hGb0w11_3 Ba1
   replace Bx1:=a_ hGb0w11_3 Bx1
   replace Ba2:=a_ hGb0w11_3 Ba2
   replace Bx2:=a_ hGb0w11_3 Bx2
   replace Ba3:=a_ hGb0w11_3 Ba3
   replace Bx3:=a_ hGb0w11_3 Bx3
   replace Bd:=a_ hGb0w11_3 Bd
   replace qa1:=qa1.kept hGb0w11_3
   replace qa2:=qa2.kept hGb0w11_3
   replace qa3:=qa3.kept hGb0w11_3
   replace hG:=d_ hG hGb0w11_3
   clear Ca10 Fa10 Ca11 Fa11 Ca12 Fa12 Ca13 Fa13 Cx10 Fx10 Cx11 Fx11 Cx12 Fx12 Cx13 Fx13 Ca20 Fa20 Ca21 Fa21 Ca22 Fa22 Ca23 Fa23 Cx20 Fx20 Cx21 Fx21 Cx22 Fx22 Cx23 Fx23 Ca30 Fa30 Ca31 Fa31 Ca32 Fa32 Ca33 Fa33 Cx30 Fx30 Cx31 Fx31 Cx32 Fx32 Cx33 Fx33 Cd0 Fd0 Cd1 Fd1 Cd2 Fd2 Cd3 Fd3
   obtain ⟨Ca10,Ca11,Ca12,Ca13,Fa10,Fa11,Fa12,Fa13⟩:=b_ Ba1
   obtain ⟨Cx10,Cx11,Cx12,Cx13,Fx10,Fx11,Fx12,Fx13⟩:=b_ Bx1
   obtain ⟨Ca20,Ca21,Ca22,Ca23,Fa20,Fa21,Fa22,Fa23⟩:=b_ Ba2
   obtain ⟨Cx20,Cx21,Cx22,Cx23,Fx20,Fx21,Fx22,Fx23⟩:=b_ Bx2
   obtain ⟨Ca30,Ca31,Ca32,Ca33,Fa30,Fa31,Fa32,Fa33⟩:=b_ Ba3
   obtain ⟨Cx30,Cx31,Cx32,Cx33,Fx30,Fx31,Fx32,Fx33⟩:=b_ Bx3
   obtain ⟨Cd0,Cd1,Cd2,Cd3,Fd0,Fd1,Fd2,Fd3⟩:=b_ Bd
   go_wp2_with fail
   have HTr : Hid (∀ W,b0w11_3.grownBy W none → Tab W):=fun W hW=>HTB.out _ (d_ hG hW)
   go_region_held3 (fun w'=>w'.cell? ⟨aw1,0,none⟩ = some (.slice sa1 xa1.length xa1.length) ∧ w'.cell? ⟨aw1,1,none⟩ = some (.bool ba1) ∧ w'.cell? ⟨aw1,2,none⟩ = some (.slice sa1' xa1'.length xa1'.length) ∧ w'.cell? ⟨aw1,3,none⟩ = some (.bool ba1') ∧ w'.cell? ⟨aw3,0,none⟩ = some (.slice sa2 xa2.length xa2.length) ∧ w'.cell? ⟨aw3,1,none⟩ = some (.bool ba2) ∧ w'.cell? ⟨aw3,2,none⟩ = some (.slice sa2' xa2'.length xa2'.length) ∧ w'.cell? ⟨aw3,3,none⟩ = some (.bool ba2') ∧ w'.cell? ⟨aw5,0,none⟩ = some (.slice sa3 xa3.length xa3.length) ∧ w'.cell? ⟨aw5,1,none⟩ = some (.bool ba3) ∧ w'.cell? ⟨aw5,2,none⟩ = some (.slice sa3' xa3'.length xa3'.length) ∧ w'.cell? ⟨aw5,3,none⟩ = some (.bool ba3'))
    (first | assumption | exact ⟨Ca10,Ca11,Ca12,Ca13,Ca20,Ca21,Ca22,Ca23,Ca30,Ca31,Ca32,Ca33⟩ | go_keep)
    (first
      | (go_at_call 33; (with_reducible refine (ah_ b0w11_3.drew _ _ A1 C1 5 (qa1.kept (k_ (h_ _ _))) (qa3.kept (k_ (h_ _ _))) (by omega) L1.out.1 L1.out.2 L3.out.1 L3.out.2 (HTr.out _ (k_ (h_ _ _)))).mono ?_); rintro e b0w12_1 ⟨vz25_,rfl,z25_,gb0w12_1⟩; have hGb0w12_1:=o_ b0w11_3 gb0w12_1 rfl rfl rfl rfl; have hSb0w12_1:=(n_ (hGb0w12_1.cell Ca10 (by simp)) (n_ (hGb0w12_1.cell Ca11 (by simp)) (n_ (hGb0w12_1.cell Ca12 (by simp)) (n_ (hGb0w12_1.cell Ca13 (by simp)) (n_ (hGb0w12_1.cell Ca20 (by simp)) (n_ (hGb0w12_1.cell Ca21 (by simp)) (n_ (hGb0w12_1.cell Ca22 (by simp)) (n_ (hGb0w12_1.cell Ca23 (by simp)) (n_ (hGb0w12_1.cell Ca30 (by simp)) (n_ (hGb0w12_1.cell Ca31 (by simp)) (n_ (hGb0w12_1.cell Ca32 (by simp)) (hGb0w12_1.cell Ca33 (by simp))))))))))))); clear gb0w12_1)
      | (go_at_call 33; (with_reducible refine (ah_ b0w12_1 _ _ B1 C1 5 (qa2.kept hGb0w12_1) (qa3.kept hGb0w12_1) (by omega) L2.out.1 L2.out.2 L3.out.1 L3.out.2 (HTr.out _ hGb0w12_1)).mono ?_); rintro e b0w12_2 ⟨vz26_,rfl,z26_,gb0w12_2⟩; have hGb0w12_2:=d_ hGb0w12_1 gb0w12_2; replace z25_:=z25_.kept gb0w12_2; have hSb0w12_2:=(n_ (hGb0w12_2.cell Ca10 (by simp)) (n_ (hGb0w12_2.cell Ca11 (by simp)) (n_ (hGb0w12_2.cell Ca12 (by simp)) (n_ (hGb0w12_2.cell Ca13 (by simp)) (n_ (hGb0w12_2.cell Ca20 (by simp)) (n_ (hGb0w12_2.cell Ca21 (by simp)) (n_ (hGb0w12_2.cell Ca22 (by simp)) (n_ (hGb0w12_2.cell Ca23 (by simp)) (n_ (hGb0w12_2.cell Ca30 (by simp)) (n_ (hGb0w12_2.cell Ca31 (by simp)) (n_ (hGb0w12_2.cell Ca32 (by simp)) (hGb0w12_2.cell Ca33 (by simp))))))))))))); clear gb0w12_2)
      | (go_at_call 28; (with_reducible refine (D_ b0w12_2 _ _ (A1 + C1) (B1 + C1) 11 z25_ z26_ (by omega) (aj_ (k:=5) (m:=5) L1.out.1 L1.out.2 L3.out.1 L3.out.2) (ad_ (k:=5) (m:=5) L1.out.2 L3.out.2) (aj_ (k:=5) (m:=5) L2.out.1 L2.out.2 L3.out.1 L3.out.2) (ad_ (k:=5) (m:=5) L2.out.2 L3.out.2)).mono ?_); rintro e b0w12_3 ⟨rfl,gb0w12_3⟩; rw [HAC.out]; have hGb0w12_3:=d_ hGb0w12_2 gb0w12_3; replace z25_:=z25_.kept gb0w12_3; replace z26_:=z26_.kept gb0w12_3; have hSb0w12_3:=(n_ (hGb0w12_3.cell Ca10 (by simp)) (n_ (hGb0w12_3.cell Ca11 (by simp)) (n_ (hGb0w12_3.cell Ca12 (by simp)) (n_ (hGb0w12_3.cell Ca13 (by simp)) (n_ (hGb0w12_3.cell Ca20 (by simp)) (n_ (hGb0w12_3.cell Ca21 (by simp)) (n_ (hGb0w12_3.cell Ca22 (by simp)) (n_ (hGb0w12_3.cell Ca23 (by simp)) (n_ (hGb0w12_3.cell Ca30 (by simp)) (n_ (hGb0w12_3.cell Ca31 (by simp)) (n_ (hGb0w12_3.cell Ca32 (by simp)) (hGb0w12_3.cell Ca33 (by simp))))))))))))); clear gb0w12_3)
      | (go_at_call 28; (with_reducible refine (D_ b0w12_3 _ _ A1 B1 5 (qa1.kept hGb0w12_3) (qa2.kept hGb0w12_3) (by omega) L1.out.1 L1.out.2 L2.out.1 L2.out.2).mono ?_); rintro e b0w12_4 ⟨rfl,gb0w12_4⟩; rw [HK.out]; have hGb0w12_4:=d_ hGb0w12_3 gb0w12_4; replace z25_:=z25_.kept gb0w12_4; replace z26_:=z26_.kept gb0w12_4; have hSb0w12_4:=(n_ (hGb0w12_4.cell Ca10 (by simp)) (n_ (hGb0w12_4.cell Ca11 (by simp)) (n_ (hGb0w12_4.cell Ca12 (by simp)) (n_ (hGb0w12_4.cell Ca13 (by simp)) (n_ (hGb0w12_4.cell Ca20 (by simp)) (n_ (hGb0w12_4.cell Ca21 (by simp)) (n_ (hGb0w12_4.cell Ca22 (by simp)) (n_ (hGb0w12_4.cell Ca23 (by simp)) (n_ (hGb0w12_4.cell Ca30 (by simp)) (n_ (hGb0w12_4.cell Ca31 (by simp)) (n_ (hGb0w12_4.cell Ca32 (by simp)) (hGb0w12_4.cell Ca33 (by simp))))))))))))); clear gb0w12_4)
      | (go_at_call 37; (with_reducible refine (ag_ b0w12_4 _ _ A1 C1 5 (qa1.kept hGb0w12_4) (qa3.kept hGb0w12_4) (by omega) L1.out.1 L1.out.2 L3.out.1 L3.out.2 (HTr.out _ hGb0w12_4)).mono ?_); rintro e b0w12_5 ⟨vz27_,rfl,z27_,gb0w12_5⟩; have hGb0w12_5:=d_ hGb0w12_4 gb0w12_5; replace z25_:=z25_.kept gb0w12_5; replace z26_:=z26_.kept gb0w12_5; have hSb0w12_5:=(n_ (hGb0w12_5.cell Ca10 (by simp)) (n_ (hGb0w12_5.cell Ca11 (by simp)) (n_ (hGb0w12_5.cell Ca12 (by simp)) (n_ (hGb0w12_5.cell Ca13 (by simp)) (n_ (hGb0w12_5.cell Ca20 (by simp)) (n_ (hGb0w12_5.cell Ca21 (by simp)) (n_ (hGb0w12_5.cell Ca22 (by simp)) (n_ (hGb0w12_5.cell Ca23 (by simp)) (n_ (hGb0w12_5.cell Ca30 (by simp)) (n_ (hGb0w12_5.cell Ca31 (by simp)) (n_ (hGb0w12_5.cell Ca32 (by simp)) (hGb0w12_5.cell Ca33 (by simp))))))))))))); clear gb0w12_5)
      | (go_at_call 37; (with_reducible refine (ag_ b0w12_5 _ _ B1 C1 5 (qa2.kept hGb0w12_5) (qa3.kept hGb0w12_5) (by omega) L2.out.1 L2.out.2 L3.out.1 L3.out.2 (HTr.out _ hGb0w12_5)).mono ?_); rintro e b0w12_6 ⟨vz28_,rfl,z28_,gb0w12_6⟩; have hGb0w12_6:=d_ hGb0w12_5 gb0w12_6; replace z25_:=z25_.kept gb0w12_6; replace z26_:=z26_.kept gb0w12_6; replace z27_:=z27_.kept gb0w12_6; have hSb0w12_6:=(n_ (hGb0w12_6.cell Ca10 (by simp)) (n_ (hGb0w12_6.cell Ca11 (by simp)) (n_ (hGb0w12_6.cell Ca12 (by simp)) (n_ (hGb0w12_6.cell Ca13 (by simp)) (n_ (hGb0w12_6.cell Ca20 (by simp)) (n_ (hGb0w12_6.cell Ca21 (by simp)) (n_ (hGb0w12_6.cell Ca22 (by simp)) (n_ (hGb0w12_6.cell Ca23 (by simp)) (n_ (hGb0w12_6.cell Ca30 (by simp)) (n_ (hGb0w12_6.cell Ca31 (by simp)) (n_ (hGb0w12_6.cell Ca32 (by simp)) (hGb0w12_6.cell Ca33 (by simp))))))))))))); clear gb0w12_6)
      | (go_at_call 28; (with_reducible refine (D_ b0w12_6 _ _ (A1 * C1) (B1 * C1) 10 z27_ z28_ (by omega) (ai_ (k:=5) (m:=5) L1.out.1 L3.out.1) (ac_ (k:=5) (m:=5) L1.out.2 L3.out.2) (ai_ (k:=5) (m:=5) L2.out.1 L3.out.1) (ac_ (k:=5) (m:=5) L2.out.2 L3.out.2)).mono ?_); rintro e b0w12_7 ⟨rfl,gb0w12_7⟩; rw [HP.out]; have hGb0w12_7:=d_ hGb0w12_6 gb0w12_7; replace z25_:=z25_.kept gb0w12_7; replace z26_:=z26_.kept gb0w12_7; replace z27_:=z27_.kept gb0w12_7; replace z28_:=z28_.kept gb0w12_7; have hSb0w12_7:=(n_ (hGb0w12_7.cell Ca10 (by simp)) (n_ (hGb0w12_7.cell Ca11 (by simp)) (n_ (hGb0w12_7.cell Ca12 (by simp)) (n_ (hGb0w12_7.cell Ca13 (by simp)) (n_ (hGb0w12_7.cell Ca20 (by simp)) (n_ (hGb0w12_7.cell Ca21 (by simp)) (n_ (hGb0w12_7.cell Ca22 (by simp)) (n_ (hGb0w12_7.cell Ca23 (by simp)) (n_ (hGb0w12_7.cell Ca30 (by simp)) (n_ (hGb0w12_7.cell Ca31 (by simp)) (n_ (hGb0w12_7.cell Ca32 (by simp)) (hGb0w12_7.cell Ca33 (by simp))))))))))))); clear gb0w12_7)
      | (go_at_call 28; (with_reducible refine (D_ b0w12_7 _ _ A1 B1 5 (qa1.kept hGb0w12_7) (qa2.kept hGb0w12_7) (by omega) L1.out.1 L1.out.2 L2.out.1 L2.out.2).mono ?_); rintro e b0w12_8 ⟨rfl,gb0w12_8⟩; rw [HK.out]; have hGb0w12_8:=d_ hGb0w12_7 gb0w12_8; replace z25_:=z25_.kept gb0w12_8; replace z26_:=z26_.kept gb0w12_8; replace z27_:=z27_.kept gb0w12_8; replace z28_:=z28_.kept gb0w12_8; have hSb0w12_8:=(n_ (hGb0w12_8.cell Ca10 (by simp)) (n_ (hGb0w12_8.cell Ca11 (by simp)) (n_ (hGb0w12_8.cell Ca12 (by simp)) (n_ (hGb0w12_8.cell Ca13 (by simp)) (n_ (hGb0w12_8.cell Ca20 (by simp)) (n_ (hGb0w12_8.cell Ca21 (by simp)) (n_ (hGb0w12_8.cell Ca22 (by simp)) (n_ (hGb0w12_8.cell Ca23 (by simp)) (n_ (hGb0w12_8.cell Ca30 (by simp)) (n_ (hGb0w12_8.cell Ca31 (by simp)) (n_ (hGb0w12_8.cell Ca32 (by simp)) (hGb0w12_8.cell Ca33 (by simp))))))))))))); clear gb0w12_8)
      | (go_at_call 21; (with_reducible refine (S_ b0w12_8 _ C1 5 (qa3.kept hGb0w12_8) (by omega) L3.out.1).mono ?_); rintro e b0w12_9 ⟨rfl,gb0w12_9⟩; rw [HSC.out]; have hGb0w12_9:=d_ hGb0w12_8 gb0w12_9; replace z25_:=z25_.kept gb0w12_9; replace z26_:=z26_.kept gb0w12_9; replace z27_:=z27_.kept gb0w12_9; replace z28_:=z28_.kept gb0w12_9; have hSb0w12_9:=(n_ (hGb0w12_9.cell Ca10 (by simp)) (n_ (hGb0w12_9.cell Ca11 (by simp)) (n_ (hGb0w12_9.cell Ca12 (by simp)) (n_ (hGb0w12_9.cell Ca13 (by simp)) (n_ (hGb0w12_9.cell Ca20 (by simp)) (n_ (hGb0w12_9.cell Ca21 (by simp)) (n_ (hGb0w12_9.cell Ca22 (by simp)) (n_ (hGb0w12_9.cell Ca23 (by simp)) (n_ (hGb0w12_9.cell Ca30 (by simp)) (n_ (hGb0w12_9.cell Ca31 (by simp)) (n_ (hGb0w12_9.cell Ca32 (by simp)) (hGb0w12_9.cell Ca33 (by simp))))))))))))); clear gb0w12_9)
      | (go_at_call 28; (with_reducible refine (D_ b0w12_9 _ _ A1 B1 5 (qa1.kept hGb0w12_9) (qa2.kept hGb0w12_9) (by omega) L1.out.1 L1.out.2 L2.out.1 L2.out.2).mono ?_); rintro e b0w12_10 ⟨rfl,gb0w12_10⟩; rw [HK.out]; have hGb0w12_10:=d_ hGb0w12_9 gb0w12_10; replace z25_:=z25_.kept gb0w12_10; replace z26_:=z26_.kept gb0w12_10; replace z27_:=z27_.kept gb0w12_10; replace z28_:=z28_.kept gb0w12_10; have hSb0w12_10:=(n_ (hGb0w12_10.cell Ca10 (by simp)) (n_ (hGb0w12_10.cell Ca11 (by simp)) (n_ (hGb0w12_10.cell Ca12 (by simp)) (n_ (hGb0w12_10.cell Ca13 (by simp)) (n_ (hGb0w12_10.cell Ca20 (by simp)) (n_ (hGb0w12_10.cell Ca21 (by simp)) (n_ (hGb0w12_10.cell Ca22 (by simp)) (n_ (hGb0w12_10.cell Ca23 (by simp)) (n_ (hGb0w12_10.cell Ca30 (by simp)) (n_ (hGb0w12_10.cell Ca31 (by simp)) (n_ (hGb0w12_10.cell Ca32 (by simp)) (hGb0w12_10.cell Ca33 (by simp))))))))))))); clear gb0w12_10)
      | (go_at_call 35; (with_reducible refine (bS_ b0w12_10 _ _ A1 B1 5 (qa1.kept hGb0w12_10) (qa2.kept hGb0w12_10) (by omega) L1.out.1 L1.out.2 L2.out.1 L2.out.2 (HTr.out _ hGb0w12_10)).mono ?_); rintro e b0w12_11 ⟨vz29_,rfl,z29_,gb0w12_11⟩; have hGb0w12_11:=d_ hGb0w12_10 gb0w12_11; replace z25_:=z25_.kept gb0w12_11; replace z26_:=z26_.kept gb0w12_11; replace z27_:=z27_.kept gb0w12_11; replace z28_:=z28_.kept gb0w12_11; have hSb0w12_11:=(n_ (hGb0w12_11.cell Ca10 (by simp)) (n_ (hGb0w12_11.cell Ca11 (by simp)) (n_ (hGb0w12_11.cell Ca12 (by simp)) (n_ (hGb0w12_11.cell Ca13 (by simp)) (n_ (hGb0w12_11.cell Ca20 (by simp)) (n_ (hGb0w12_11.cell Ca21 (by simp)) (n_ (hGb0w12_11.cell Ca22 (by simp)) (n_ (hGb0w12_11.cell Ca23 (by simp)) (n_ (hGb0w12_11.cell Ca30 (by simp)) (n_ (hGb0w12_11.cell Ca31 (by simp)) (n_ (hGb0w12_11.cell Ca32 (by simp)) (hGb0w12_11.cell Ca33 (by simp))))))))))))); clear gb0w12_11)
      | (go_at_call 21; (with_reducible refine (S_ b0w12_11 _ (A1 - B1) 11 z29_ (by omega) (dl_ (k:=5) (m:=5) L1.out.1 L1.out.2 L2.out.1 L2.out.2)).mono ?_); rintro e b0w12_12 ⟨rfl,gb0w12_12⟩; rw [HSU.out]; have hGb0w12_12:=d_ hGb0w12_11 gb0w12_12; replace z25_:=z25_.kept gb0w12_12; replace z26_:=z26_.kept gb0w12_12; replace z27_:=z27_.kept gb0w12_12; replace z28_:=z28_.kept gb0w12_12; replace z29_:=z29_.kept gb0w12_12; have hSb0w12_12:=(n_ (hGb0w12_12.cell Ca10 (by simp)) (n_ (hGb0w12_12.cell Ca11 (by simp)) (n_ (hGb0w12_12.cell Ca12 (by simp)) (n_ (hGb0w12_12.cell Ca13 (by simp)) (n_ (hGb0w12_12.cell Ca20 (by simp)) (n_ (hGb0w12_12.cell Ca21 (by simp)) (n_ (hGb0w12_12.cell Ca22 (by simp)) (n_ (hGb0w12_12.cell Ca23 (by simp)) (n_ (hGb0w12_12.cell Ca30 (by simp)) (n_ (hGb0w12_12.cell Ca31 (by simp)) (n_ (hGb0w12_12.cell Ca32 (by simp)) (hGb0w12_12.cell Ca33 (by simp))))))))))))); clear gb0w12_12))
   replace Ba1:=a_ hGb0w12_12 Ba1
   replace Bx1:=a_ hGb0w12_12 Bx1
   replace Ba2:=a_ hGb0w12_12 Ba2
   replace Bx2:=a_ hGb0w12_12 Bx2
   replace Ba3:=a_ hGb0w12_12 Ba3
   replace Bx3:=a_ hGb0w12_12 Bx3
   replace Bd:=a_ hGb0w12_12 Bd
   replace hG:=d_ hG hGb0w12_12
   clear Ca10 Fa10 Ca11 Fa11 Ca12 Fa12 Ca13 Fa13 Cx10 Fx10 Cx11 Fx11 Cx12 Fx12 Cx13 Fx13 Ca20 Fa20 Ca21 Fa21 Ca22 Fa22 Ca23 Fa23 Cx20 Fx20 Cx21 Fx21 Cx22 Fx22 Cx23 Fx23 Ca30 Fa30 Ca31 Fa31 Ca32 Fa32 Ca33 Fa33 Cx30 Fx30 Cx31 Fx31 Cx32 Fx32 Cx33 Fx33 Cd0 Fd0 Cd1 Fd1 Cd2 Fd2 Cd3 Fd3
   obtain ⟨Ca10,Ca11,Ca12,Ca13,Fa10,Fa11,Fa12,Fa13⟩:=b_ Ba1
   obtain ⟨Cx10,Cx11,Cx12,Cx13,Fx10,Fx11,Fx12,Fx13⟩:=b_ Bx1
   obtain ⟨Ca20,Ca21,Ca22,Ca23,Fa20,Fa21,Fa22,Fa23⟩:=b_ Ba2
   obtain ⟨Cx20,Cx21,Cx22,Cx23,Fx20,Fx21,Fx22,Fx23⟩:=b_ Bx2
   obtain ⟨Ca30,Ca31,Ca32,Ca33,Fa30,Fa31,Fa32,Fa33⟩:=b_ Ba3
   obtain ⟨Cx30,Cx31,Cx32,Cx33,Fx30,Fx31,Fx32,Fx33⟩:=b_ Bx3
   obtain ⟨Cd0,Cd1,Cd2,Cd3,Fd0,Fd1,Fd2,Fd3⟩:=b_ Bd
   go_wp2_with fail
   go_ret
   exact ⟨by first | rfl | simp,hG⟩
end Go.Proofs.YtgbbdgioohaknaaGreatDoor
