/- What the laws lean on, part 45. -/
import Derived.Deep.RegionHeld3
import Derived.Test.YtgbbdgioohaknaaGreatDoorPb17
import Derived.Test.YtgbbdgioohaknaaGreatDoorPb28
import Derived.Test.YtgbbdgioohaknaaGreatDoorPb30
import Derived.Test.YtgbbdgioohaknaaGreatDoorPb44
namespace Go.Proofs.YtgbbdgioohaknaaGreatDoor
open Go.RowKit Mat
set_option maxRecDepth 100000
set_option linter.unusedVariables false
set_option linter.unusedSimpArgs false
set_option maxHeartbeats 16000000 in
theorem ei_ (w : World) (s : ByteArray) (hTab : Tab w) :
    Calls Tryz.prog 6 #[.string s] w (fun e w'=>e = .returned (.bool true) ∧ w.grownBy w' none):=by
 have HTB : Hid (∀ W,w.grownBy W none → Tab W):=fun W hW=>hTab.kept hW (by simp)
 clear hTab
 have hG : w.grownBy w none:=h_ _ _
 obtain ⟨A1,o1,lA1,p1⟩:=bP_ s
 have L1:=H_ lA1
 have P1:=H_ p1
 clear p1 lA1
 go_enter Tryz.func6,Tryz.ntmps6
 go_wp2_with fail
 refine (P1.out w (HTB.out _ hG)).mono ?_
 rintro e w1 ⟨_,_,rfl,⟨sa1,xa1,ba1,sa1',xa1',ba1',rfl,ha1,ha1'⟩,⟨gx1,sx1,lx1,cx1,gx1',sx1',lx1',cx1',nx1,dx1,rfl,hx1,hx1',ux1⟩,gw1⟩
 have qa1 : RatV w1 (.agg #[.slice sa1 xa1.length xa1.length,.bool ba1,.slice sa1' xa1'.length xa1'.length,.bool ba1']) (A1):=⟨sa1,xa1,ba1,sa1',xa1',ba1',rfl,ha1,ha1'⟩
 have yx1 : RQ w1 (.agg #[.int .i64 gx1,.slice sx1 lx1 cx1,.int .i64 gx1',.slice sx1' lx1' cx1']) A1 20:=⟨gx1,sx1,lx1,cx1,gx1',sx1',lx1',cx1',nx1,dx1,rfl,hx1,hx1',ux1⟩
 replace hG:=d_ hG gw1
 clear gw1
 clear ha1 ha1'
 clear hx1 hx1'
 have gbw1:=(l_ (wg_ w1 (.cells #[.slice sa1 xa1.length xa1.length,.bool ba1,.slice sa1' xa1'.length xa1'.length,.bool ba1'] 28) none) (.cells #[.int .i64 gx1,.slice sx1 lx1 cx1,.int .i64 gx1',.slice sx1' lx1' cx1'] 38))
 have Ba1:=a_ (wg_ _ (.cells #[.int .i64 gx1,.slice sx1 lx1 cx1,.int .i64 gx1',.slice sx1' lx1' cx1'] 38) none) (f_ w1 (.cells #[.slice sa1 xa1.length xa1.length,.bool ba1,.slice sa1' xa1'.length xa1'.length,.bool ba1'] 28) (w1.heap.size) rfl)
 have Bx1:=(f_ (w1.alloc (.cells #[.slice sa1 xa1.length xa1.length,.bool ba1,.slice sa1' xa1'.length xa1'.length,.bool ba1'] 28)) (.cells #[.int .i64 gx1,.slice sx1 lx1 cx1,.int .i64 gx1',.slice sx1' lx1' cx1'] 38) (w1.heap.size + 1) (by simp))
 have hzw1 : Hid (w.heap.size ≤ w1.heap.size):=H_ hG.size
 replace qa1:=qa1.kept gbw1
 replace yx1:=yx1.kept gbw1
 replace hG:=d_ hG gbw1
 clear gbw1
 obtain ⟨Ca10,Ca11,Ca12,Ca13,Fa10,Fa11,Fa12,Fa13⟩:=b_ Ba1
 obtain ⟨Cx10,Cx11,Cx12,Cx13,Fx10,Fx11,Fx12,Fx13⟩:=b_ Bx1
 go_wp2_with fail
 cases o1
 · skip
   generalize ((w1.alloc (.cells #[.slice sa1 xa1.length xa1.length,.bool ba1,.slice sa1' xa1'.length xa1'.length,.bool ba1'] 28)).alloc (.cells #[.int .i64 gx1,.slice sx1 lx1 cx1,.int .i64 gx1',.slice sx1' lx1' cx1'] 38)) = w2 at *
   generalize w1.heap.size = aw1 at *
   replace hzw1:=hzw1.out
   clear Ca10 Fa10 Ca11 Fa11 Ca12 Fa12 Ca13 Fa13 Cx10 Fx10 Cx11 Fx11 Cx12 Fx12 Cx13 Fx13
   refine (A_ w2 (HTB.out _ hG)).mono ?_
   rintro e o0w3 ⟨rfl,go0w3⟩
   replace Ba1:=a_ go0w3 Ba1
   replace Bx1:=a_ go0w3 Bx1
   replace hG:=d_ hG go0w3
   clear go0w3
   obtain ⟨Ca10,Ca11,Ca12,Ca13,Fa10,Fa11,Fa12,Fa13⟩:=b_ Ba1
   obtain ⟨Cx10,Cx11,Cx12,Cx13,Fx10,Fx11,Fx12,Fx13⟩:=b_ Bx1
   go_wp2_with fail
   clear Ca10 Fa10 Ca11 Fa11 Ca12 Fa12 Ca13 Fa13 Cx10 Fx10 Cx11 Fx11 Cx12 Fx12 Cx13 Fx13
   refine (A_ o0w3 (HTB.out _ hG)).mono ?_
   rintro e o0w4 ⟨rfl,go0w4⟩
   replace Ba1:=a_ go0w4 Ba1
   replace Bx1:=a_ go0w4 Bx1
   replace hG:=d_ hG go0w4
   clear go0w4
   obtain ⟨Ca10,Ca11,Ca12,Ca13,Fa10,Fa11,Fa12,Fa13⟩:=b_ Ba1
   obtain ⟨Cx10,Cx11,Cx12,Cx13,Fx10,Fx11,Fx12,Fx13⟩:=b_ Bx1
   go_wp2_with fail
   clear Ca10 Fa10 Ca11 Fa11 Ca12 Fa12 Ca13 Fa13 Cx10 Fx10 Cx11 Fx11 Cx12 Fx12 Cx13 Fx13
   refine (ce_ o0w4 s (HTB.out _ hG)).mono ?_
   rintro e o0w5 ⟨rfl,go0w5⟩
   replace Ba1:=a_ go0w5 Ba1
   replace Bx1:=a_ go0w5 Bx1
   replace hG:=d_ hG go0w5
   clear go0w5
   obtain ⟨Ca10,Ca11,Ca12,Ca13,Fa10,Fa11,Fa12,Fa13⟩:=b_ Ba1
   obtain ⟨Cx10,Cx11,Cx12,Cx13,Fx10,Fx11,Fx12,Fx13⟩:=b_ Bx1
   go_wp2_with fail
   go_ret
   exact ⟨by first | rfl | simp,hG⟩
 generalize ((w1.alloc (.cells #[.slice sa1 xa1.length xa1.length,.bool ba1,.slice sa1' xa1'.length xa1'.length,.bool ba1'] 28)).alloc (.cells #[.int .i64 gx1,.slice sx1 lx1 cx1,.int .i64 gx1',.slice sx1' lx1' cx1'] 38)) = w2 at *
 generalize w1.heap.size = aw1 at *
 replace hzw1:=hzw1.out
 clear Ca10 Fa10 Ca11 Fa11 Ca12 Fa12 Ca13 Fa13 Cx10 Fx10 Cx11 Fx11 Cx12 Fx12 Cx13 Fx13
 refine (A_ w2 (HTB.out _ hG)).mono ?_
 rintro e w3 ⟨rfl,gw3⟩
 replace Ba1:=a_ gw3 Ba1
 replace Bx1:=a_ gw3 Bx1
 replace qa1:=qa1.kept gw3
 replace yx1:=yx1.kept gw3
 replace hG:=d_ hG gw3
 clear gw3
 obtain ⟨Ca10,Ca11,Ca12,Ca13,Fa10,Fa11,Fa12,Fa13⟩:=b_ Ba1
 obtain ⟨Cx10,Cx11,Cx12,Cx13,Fx10,Fx11,Fx12,Fx13⟩:=b_ Bx1
 go_wp2_with fail
 obtain ⟨F9,hF9⟩ : ∃ z,A1.floor = z:=⟨_,rfl⟩
 obtain ⟨N9,hN9⟩ : ∃ z,bE_ A1 = z:=⟨_,rfl⟩
 have HF : Hid (A1.floor = F9 ∧ bE_ A1 = N9 ∧ F9.natAbs < B ^ 5 ∧ N9.natAbs < B ^ 6):=⟨hF9,hN9,hF9 ▸ ec_ L1.out.1,hN9 ▸ gT_ L1.out.1 (by omega)⟩
 clear hF9 hN9
 go_region_held3 (fun w'=>w'.cell? ⟨aw1,0,none⟩ = some (.slice sa1 xa1.length xa1.length) ∧ w'.cell? ⟨aw1,1,none⟩ = some (.bool ba1) ∧ w'.cell? ⟨aw1,2,none⟩ = some (.slice sa1' xa1'.length xa1'.length) ∧ w'.cell? ⟨aw1,3,none⟩ = some (.bool ba1') ∧ w'.cell? ⟨aw1 + 1,0,none⟩ = some (.int .i64 gx1) ∧ w'.cell? ⟨aw1 + 1,1,none⟩ = some (.slice sx1 lx1 cx1) ∧ w'.cell? ⟨aw1 + 1,2,none⟩ = some (.int .i64 gx1') ∧ w'.cell? ⟨aw1 + 1,3,none⟩ = some (.slice sx1' lx1' cx1'))
  (first | assumption | exact ⟨Ca10,Ca11,Ca12,Ca13,Cx10,Cx11,Cx12,Cx13⟩ | go_keep)
  (first
    | (go_at_call 42; (with_reducible refine (ax_ w3.drew _ A1 5 (qa1.kept (k_ (h_ _ _))) (by omega) L1.out.1 L1.out.2).mono ?_); rintro e w4_1 ⟨vf,rfl,jf,gw4_1⟩; rw [HF.out.1] at jf; have hGw4_1:=o_ w3 gw4_1 rfl rfl rfl rfl; have hSw4_1:=(n_ (hGw4_1.cell Ca10 (by simp)) (n_ (hGw4_1.cell Ca11 (by simp)) (n_ (hGw4_1.cell Ca12 (by simp)) (n_ (hGw4_1.cell Ca13 (by simp)) (n_ (hGw4_1.cell Cx10 (by simp)) (n_ (hGw4_1.cell Cx11 (by simp)) (n_ (hGw4_1.cell Cx12 (by simp)) (hGw4_1.cell Cx13 (by simp))))))))); clear gw4_1)
    | (go_at_call 18; (with_reducible refine (ab_ w4_1 _ F9 5 jf (by omega) HF.out.2.2.1).mono ?_); rintro e w4_2 ⟨s1,rfl,hs1,gw4_2⟩; have HS1:=H_ hs1; clear hs1; have hGw4_2:=d_ hGw4_1 gw4_2; replace jf:=jf.kept gw4_2; have hSw4_2:=(n_ (hGw4_2.cell Ca10 (by simp)) (n_ (hGw4_2.cell Ca11 (by simp)) (n_ (hGw4_2.cell Ca12 (by simp)) (n_ (hGw4_2.cell Ca13 (by simp)) (n_ (hGw4_2.cell Cx10 (by simp)) (n_ (hGw4_2.cell Cx11 (by simp)) (n_ (hGw4_2.cell Cx12 (by simp)) (hGw4_2.cell Cx13 (by simp))))))))); clear gw4_2)
    | (go_at_call 43; (with_reducible refine (dX_ w4_2 _ A1 20 (yx1.kept hGw4_2) (by omega)).mono ?_); rintro e w4_3 ⟨vg,rfl,kf,gw4_3⟩; rw [HF.out.1] at kf; have hGw4_3:=d_ hGw4_2 gw4_3; replace jf:=jf.kept gw4_3; have hSw4_3:=(n_ (hGw4_3.cell Ca10 (by simp)) (n_ (hGw4_3.cell Ca11 (by simp)) (n_ (hGw4_3.cell Ca12 (by simp)) (n_ (hGw4_3.cell Ca13 (by simp)) (n_ (hGw4_3.cell Cx10 (by simp)) (n_ (hGw4_3.cell Cx11 (by simp)) (n_ (hGw4_3.cell Cx12 (by simp)) (hGw4_3.cell Cx13 (by simp))))))))); clear gw4_3)
    | (go_at_call 19; (with_reducible refine (aD_ w4_3 _ F9 kf (toD HF.out.2.2.1 (by omega))).mono ?_); rintro e w4_4 ⟨s2,rfl,hs2,gw4_4⟩; obtain rfl : s2 = s1:=al_ hs2 HS1.out; clear hs2; have hGw4_4:=d_ hGw4_3 gw4_4; replace jf:=jf.kept gw4_4; replace kf:=kf.kept gw4_4; have hSw4_4:=(n_ (hGw4_4.cell Ca10 (by simp)) (n_ (hGw4_4.cell Ca11 (by simp)) (n_ (hGw4_4.cell Ca12 (by simp)) (n_ (hGw4_4.cell Ca13 (by simp)) (n_ (hGw4_4.cell Cx10 (by simp)) (n_ (hGw4_4.cell Cx11 (by simp)) (n_ (hGw4_4.cell Cx12 (by simp)) (hGw4_4.cell Cx13 (by simp))))))))); clear gw4_4)
    | (go_at_call 44; (with_reducible refine (E_ w4_4 _ A1 5 (qa1.kept hGw4_4) (by omega) L1.out.1 L1.out.2).mono ?_); rintro e w4_5 ⟨vn,rfl,jn,gw4_5⟩; rw [HF.out.2.1] at jn; have hGw4_5:=d_ hGw4_4 gw4_5; replace jf:=jf.kept gw4_5; replace kf:=kf.kept gw4_5; have hSw4_5:=(n_ (hGw4_5.cell Ca10 (by simp)) (n_ (hGw4_5.cell Ca11 (by simp)) (n_ (hGw4_5.cell Ca12 (by simp)) (n_ (hGw4_5.cell Ca13 (by simp)) (n_ (hGw4_5.cell Cx10 (by simp)) (n_ (hGw4_5.cell Cx11 (by simp)) (n_ (hGw4_5.cell Cx12 (by simp)) (hGw4_5.cell Cx13 (by simp))))))))); clear gw4_5)
    | (go_at_call 18; (with_reducible refine (ab_ w4_5 _ N9 6 jn (by omega) HF.out.2.2.2).mono ?_); rintro e w4_6 ⟨s3,rfl,hs3,gw4_6⟩; have HS3:=H_ hs3; clear hs3; have hGw4_6:=d_ hGw4_5 gw4_6; replace jf:=jf.kept gw4_6; replace kf:=kf.kept gw4_6; replace jn:=jn.kept gw4_6; have hSw4_6:=(n_ (hGw4_6.cell Ca10 (by simp)) (n_ (hGw4_6.cell Ca11 (by simp)) (n_ (hGw4_6.cell Ca12 (by simp)) (n_ (hGw4_6.cell Ca13 (by simp)) (n_ (hGw4_6.cell Cx10 (by simp)) (n_ (hGw4_6.cell Cx11 (by simp)) (n_ (hGw4_6.cell Cx12 (by simp)) (hGw4_6.cell Cx13 (by simp))))))))); clear gw4_6)
    | (go_at_call 45; (with_reducible refine (hC_ w4_6 _ A1 20 (yx1.kept hGw4_6) (by omega)).mono ?_); rintro e w4_7 ⟨vm,rfl,kn,gw4_7⟩; rw [HF.out.2.1] at kn; have hGw4_7:=d_ hGw4_6 gw4_7; replace jf:=jf.kept gw4_7; replace kf:=kf.kept gw4_7; replace jn:=jn.kept gw4_7; have hSw4_7:=(n_ (hGw4_7.cell Ca10 (by simp)) (n_ (hGw4_7.cell Ca11 (by simp)) (n_ (hGw4_7.cell Ca12 (by simp)) (n_ (hGw4_7.cell Ca13 (by simp)) (n_ (hGw4_7.cell Cx10 (by simp)) (n_ (hGw4_7.cell Cx11 (by simp)) (n_ (hGw4_7.cell Cx12 (by simp)) (hGw4_7.cell Cx13 (by simp))))))))); clear gw4_7)
    | (go_at_call 19; (with_reducible refine (aD_ w4_7 _ N9 kn (toD HF.out.2.2.2 (by omega))).mono ?_); rintro e w4_8 ⟨s4,rfl,hs4,gw4_8⟩; obtain rfl : s4 = s3:=al_ hs4 HS3.out; clear hs4; have hGw4_8:=d_ hGw4_7 gw4_8; replace jf:=jf.kept gw4_8; replace kf:=kf.kept gw4_8; replace jn:=jn.kept gw4_8; replace kn:=kn.kept gw4_8; have hSw4_8:=(n_ (hGw4_8.cell Ca10 (by simp)) (n_ (hGw4_8.cell Ca11 (by simp)) (n_ (hGw4_8.cell Ca12 (by simp)) (n_ (hGw4_8.cell Ca13 (by simp)) (n_ (hGw4_8.cell Cx10 (by simp)) (n_ (hGw4_8.cell Cx11 (by simp)) (n_ (hGw4_8.cell Cx12 (by simp)) (hGw4_8.cell Cx13 (by simp))))))))); clear gw4_8))
 replace Ba1:=a_ hGw4_8 Ba1
 replace Bx1:=a_ hGw4_8 Bx1
 replace hG:=d_ hG hGw4_8
 clear Ca10 Fa10 Ca11 Fa11 Ca12 Fa12 Ca13 Fa13 Cx10 Fx10 Cx11 Fx11 Cx12 Fx12 Cx13 Fx13
 obtain ⟨Ca10,Ca11,Ca12,Ca13,Fa10,Fa11,Fa12,Fa13⟩:=b_ Ba1
 obtain ⟨Cx10,Cx11,Cx12,Cx13,Fx10,Fx11,Fx12,Fx13⟩:=b_ Bx1
 go_wp2_with fail
 go_ret
 exact ⟨by first | rfl | simp,hG⟩
end Go.Proofs.YtgbbdgioohaknaaGreatDoor
