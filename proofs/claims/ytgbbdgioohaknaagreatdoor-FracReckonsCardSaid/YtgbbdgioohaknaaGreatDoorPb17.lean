/- What the laws lean on, part 17. -/
import Derived.Deep.RegionHeld3
import Derived.Deep.CutRange
import Derived.Test.YtgbbdgioohaknaaGreatDoorPb15
import Derived.Test.YtgbbdgioohaknaaGreatDoorPb16
namespace Go.Proofs.YtgbbdgioohaknaaGreatDoor
open Go.RowKit Mat
set_option maxRecDepth 100000
set_option linter.unusedVariables false
set_option linter.unusedSimpArgs false
theorem lU_ : ar_ { data:=#[45,51] } (-3):=⟨[51],cc_ (by decide +kernel),by decide +kernel,by decide +kernel⟩
theorem md_ : ar_ { data:=#[50] } 2:=⟨[50],cc_ (by decide +kernel),by decide +kernel,by decide +kernel⟩
theorem mg_ : ar_ { data:=#[51] } 3:=⟨[51],cc_ (by decide +kernel),by decide +kernel,by decide +kernel⟩
theorem ls_ : ar_ { data:=#[45,50] } (-2):=⟨[50],cc_ (by decide +kernel),by decide +kernel,by decide +kernel⟩
theorem lY_ : (Rat.divInt 6 (-4)).num = -3 ∧ (Rat.divInt 6 (-4)).den = 2 ∧ (Rat.divInt 6 (-4)).floor = -2 ∧ bE_ (Rat.divInt 6 (-4)) = -2:=by decide +kernel
theorem mh_ : (cG_ { data:=#[52,47,54] }).num = 2 ∧ (cG_ { data:=#[52,47,54] }).den = 3 ∧ dc_ { data:=#[52,47,54] } = 0:=by decide +kernel
theorem mi_ : dc_ { data:=#[49,47,48] } = 5:=by decide +kernel
theorem lZ_ : dc_ { data:=#[49,47,45,50] } = 3:=by decide +kernel
set_option maxHeartbeats 16000000 in
theorem A_ (w : World) (hTab : Tab w) :
    Calls Tryz.prog 13 #[] w (fun e w'=>e = .returned (.bool true) ∧ w.grownBy w' none):=by
 have HTB : Hid (∀ W,w.grownBy W none → Tab W):=fun W hW=>hTab.kept hW (by simp)
 clear hTab
 obtain ⟨r1,h1⟩ : ∃ r,Rat.divInt 6 (-4) = r:=⟨_,rfl⟩
 have k1:=lY_
 rw [h1] at k1
 have K1:=H_ k1
 have B1 : Hid (r1.num.natAbs < B ^ 1 ∧ r1.den < B ^ 1):=⟨by rw [k1.1]; unfold B; decide,by rw [k1.2.1]; unfold B; decide⟩
 have C1 : Hid (∀ W,Tab W → Calls Tryz.prog 22 #[.int .i64 6,.int .i64 (-4)] W (V_ W r1 0)):=fun W hT=>by
  have h:=fB_ W 6 (-4) (by omega) (by omega) (by omega) (by omega) hT
  rw [h1,if_neg (by decide)] at h; exact h
 have T1 : Hid (ch_ { data:=#[45,51,47,50] } r1):=Or.inr ⟨by rw [k1.2.1]; decide,{ data:=#[45,51] },{ data:=#[50] },by rw [k1.1]; exact lU_,by rw [k1.2.1]; exact md_,by decide +kernel⟩
 obtain ⟨r2,h2⟩ : ∃ r,cG_ { data:=#[52,47,54] } = r:=⟨_,rfl⟩
 have k2:=mh_
 rw [h2] at k2
 have B2 : Hid (r2.num.natAbs < B ^ 1 ∧ r2.den < B ^ 1):=⟨by rw [k2.1]; unfold B; decide,by rw [k2.2.1]; unfold B; decide⟩
 have C2 : Hid (∀ W,Tab W → Calls Tryz.prog 11 #[.string { data:=#[52,47,54] }] W (V_ W r2 0)):=fun W hT=>by
  have h:=aV_ W { data:=#[52,47,54] } (by decide) hT
  rw [h2,k2.2.2] at h; exact h
 have T2 : Hid (ch_ { data:=#[50,47,51] } r2):=Or.inr ⟨by rw [k2.2.1]; decide,{ data:=#[50] },{ data:=#[51] },by rw [k2.1]; exact md_,by rw [k2.2.1]; exact mg_,by decide +kernel⟩
 obtain ⟨r3,h3⟩ : ∃ r,cG_ { data:=#[49,47,48] } = r:=⟨_,rfl⟩
 have C3 : Hid (∀ W,Tab W → Calls Tryz.prog 11 #[.string { data:=#[49,47,48] }] W (V_ W r3 5)):=fun W hT=>by
  have h:=aV_ W { data:=#[49,47,48] } (by decide) hT
  rw [h3,mi_] at h; exact h
 obtain ⟨r4,h4⟩ : ∃ r,cG_ { data:=#[49,47,45,50] } = r:=⟨_,rfl⟩
 have C4 : Hid (∀ W,Tab W → Calls Tryz.prog 11 #[.string { data:=#[49,47,45,50] }] W (V_ W r4 3)):=fun W hT=>by
  have h:=aV_ W { data:=#[49,47,45,50] } (by decide) hT
  rw [h4,lZ_] at h; exact h
 clear h1 h2 h3 h4 k1 k2
 have hG : w.grownBy w none:=h_ _ _
 go_enter Tryz.func13,Tryz.ntmps13
 go_wp2_with fail
 refine (C1.out w (HTB.out _ hG)).mono ?_
 rintro e w1 ⟨_,rfl,⟨sa,xa,ba,sa',xa',ba',rfl,ha,ha'⟩,gw1⟩
 have qa : RatV w1 (.agg #[.slice sa xa.length xa.length,.bool ba,.slice sa' xa'.length xa'.length,.bool ba']) (r1):=⟨sa,xa,ba,sa',xa',ba',rfl,ha,ha'⟩
 replace hG:=d_ hG gw1
 clear gw1
 clear ha ha'
 have gbw1:=(wg_ w1 (.cells #[.slice sa xa.length xa.length,.bool ba,.slice sa' xa'.length xa'.length,.bool ba'] 28) none)
 have Ba:=(f_ w1 (.cells #[.slice sa xa.length xa.length,.bool ba,.slice sa' xa'.length xa'.length,.bool ba'] 28) (w1.heap.size) rfl)
 have hzw1 : Hid (w.heap.size ≤ w1.heap.size):=H_ hG.size
 replace qa:=qa.kept gbw1
 replace hG:=d_ hG gbw1
 clear gbw1
 obtain ⟨Ca0,Ca1,Ca2,Ca3,Fa0,Fa1,Fa2,Fa3⟩:=b_ Ba
 go_wp2_with fail
 generalize (w1.alloc (.cells #[.slice sa xa.length xa.length,.bool ba,.slice sa' xa'.length xa'.length,.bool ba'] 28)) = w2 at *
 generalize w1.heap.size = aw1 at *
 replace hzw1:=hzw1.out
 clear Ca0 Fa0 Ca1 Fa1 Ca2 Fa2 Ca3 Fa3
 refine (C2.out w2 (HTB.out _ hG)).mono ?_
 rintro e w3 ⟨_,rfl,⟨sb,xb,bb,sb',xb',bb',rfl,hb,hb'⟩,gw3⟩
 have qb : RatV w3 (.agg #[.slice sb xb.length xb.length,.bool bb,.slice sb' xb'.length xb'.length,.bool bb']) (r2):=⟨sb,xb,bb,sb',xb',bb',rfl,hb,hb'⟩
 replace Ba:=a_ gw3 Ba
 replace qa:=qa.kept gw3
 replace hG:=d_ hG gw3
 clear gw3
 clear hb hb'
 obtain ⟨Ca0,Ca1,Ca2,Ca3,Fa0,Fa1,Fa2,Fa3⟩:=b_ Ba
 have gbw3:=(wg_ w3 (.cells #[.slice sb xb.length xb.length,.bool bb,.slice sb' xb'.length xb'.length,.bool bb'] 28) none)
 have Bb:=(f_ w3 (.cells #[.slice sb xb.length xb.length,.bool bb,.slice sb' xb'.length xb'.length,.bool bb'] 28) (w3.heap.size) rfl)
 have hzw3 : Hid (w.heap.size ≤ w3.heap.size):=H_ hG.size
 have hlaw3 : Hid (aw1 < w3.heap.size):=H_ (Array.getElem?_eq_some_iff.1 Ba).1
 clear Ca0 Fa0 Ca1 Fa1 Ca2 Fa2 Ca3 Fa3
 replace Ba:=a_ gbw3 Ba
 replace qa:=qa.kept gbw3
 replace qb:=qb.kept gbw3
 replace hG:=d_ hG gbw3
 clear gbw3
 obtain ⟨Ca0,Ca1,Ca2,Ca3,Fa0,Fa1,Fa2,Fa3⟩:=b_ Ba
 obtain ⟨Cb0,Cb1,Cb2,Cb3,Fb0,Fb1,Fb2,Fb3⟩:=b_ Bb
 go_wp2_with fail
 generalize (w3.alloc (.cells #[.slice sb xb.length xb.length,.bool bb,.slice sb' xb'.length xb'.length,.bool bb'] 28)) = w4 at *
 generalize w3.heap.size = aw3 at *
 replace hzw3:=hzw3.out
 replace hlaw3:=hlaw3.out
 clear Ca0 Fa0 Ca1 Fa1 Ca2 Fa2 Ca3 Fa3 Cb0 Fb0 Cb1 Fb1 Cb2 Fb2 Cb3 Fb3
 refine (C3.out w4 (HTB.out _ hG)).mono ?_
 rintro e w5 ⟨_,rfl,⟨sc,xc,bc,sc',xc',bc',rfl,hc,hc'⟩,gw5⟩
 have qc : RatV w5 (.agg #[.slice sc xc.length xc.length,.bool bc,.slice sc' xc'.length xc'.length,.bool bc']) (r3):=⟨sc,xc,bc,sc',xc',bc',rfl,hc,hc'⟩
 replace Ba:=a_ gw5 Ba
 replace Bb:=a_ gw5 Bb
 replace qa:=qa.kept gw5
 replace qb:=qb.kept gw5
 replace hG:=d_ hG gw5
 clear gw5
 clear hc hc'
 obtain ⟨Ca0,Ca1,Ca2,Ca3,Fa0,Fa1,Fa2,Fa3⟩:=b_ Ba
 obtain ⟨Cb0,Cb1,Cb2,Cb3,Fb0,Fb1,Fb2,Fb3⟩:=b_ Bb
 have gbw5:=(wg_ w5 (.cells #[.slice sc xc.length xc.length,.bool bc,.slice sc' xc'.length xc'.length,.bool bc'] 28) none)
 have Bc:=(f_ w5 (.cells #[.slice sc xc.length xc.length,.bool bc,.slice sc' xc'.length xc'.length,.bool bc'] 28) (w5.heap.size) rfl)
 have hzw5 : Hid (w.heap.size ≤ w5.heap.size):=H_ hG.size
 have hlaw5 : Hid (aw1 < w5.heap.size):=H_ (Array.getElem?_eq_some_iff.1 Ba).1
 have hlbw5 : Hid (aw3 < w5.heap.size):=H_ (Array.getElem?_eq_some_iff.1 Bb).1
 clear Ca0 Fa0 Ca1 Fa1 Ca2 Fa2 Ca3 Fa3 Cb0 Fb0 Cb1 Fb1 Cb2 Fb2 Cb3 Fb3
 replace Ba:=a_ gbw5 Ba
 replace Bb:=a_ gbw5 Bb
 replace qa:=qa.kept gbw5
 replace qb:=qb.kept gbw5
 replace hG:=d_ hG gbw5
 clear gbw5
 obtain ⟨Ca0,Ca1,Ca2,Ca3,Fa0,Fa1,Fa2,Fa3⟩:=b_ Ba
 obtain ⟨Cb0,Cb1,Cb2,Cb3,Fb0,Fb1,Fb2,Fb3⟩:=b_ Bb
 obtain ⟨Cc0,Cc1,Cc2,Cc3,Fc0,Fc1,Fc2,Fc3⟩:=b_ Bc
 go_wp2_with fail
 generalize (w5.alloc (.cells #[.slice sc xc.length xc.length,.bool bc,.slice sc' xc'.length xc'.length,.bool bc'] 28)) = w6 at *
 generalize w5.heap.size = aw5 at *
 replace hzw5:=hzw5.out
 replace hlaw5:=hlaw5.out
 replace hlbw5:=hlbw5.out
 clear Ca0 Fa0 Ca1 Fa1 Ca2 Fa2 Ca3 Fa3 Cb0 Fb0 Cb1 Fb1 Cb2 Fb2 Cb3 Fb3 Cc0 Fc0 Cc1 Fc1 Cc2 Fc2 Cc3 Fc3
 refine (C4.out w6 (HTB.out _ hG)).mono ?_
 rintro e w7 ⟨_,rfl,⟨sd,xd,bd,sd',xd',bd',rfl,hd,hd'⟩,gw7⟩
 have qd : RatV w7 (.agg #[.slice sd xd.length xd.length,.bool bd,.slice sd' xd'.length xd'.length,.bool bd']) (r4):=⟨sd,xd,bd,sd',xd',bd',rfl,hd,hd'⟩
 replace Ba:=a_ gw7 Ba
 replace Bb:=a_ gw7 Bb
 replace Bc:=a_ gw7 Bc
 replace qa:=qa.kept gw7
 replace qb:=qb.kept gw7
 replace hG:=d_ hG gw7
 clear gw7
 clear hd hd'
 obtain ⟨Ca0,Ca1,Ca2,Ca3,Fa0,Fa1,Fa2,Fa3⟩:=b_ Ba
 obtain ⟨Cb0,Cb1,Cb2,Cb3,Fb0,Fb1,Fb2,Fb3⟩:=b_ Bb
 obtain ⟨Cc0,Cc1,Cc2,Cc3,Fc0,Fc1,Fc2,Fc3⟩:=b_ Bc
 have gbw7:=(wg_ w7 (.cells #[.slice sd xd.length xd.length,.bool bd,.slice sd' xd'.length xd'.length,.bool bd'] 28) none)
 have Bd:=(f_ w7 (.cells #[.slice sd xd.length xd.length,.bool bd,.slice sd' xd'.length xd'.length,.bool bd'] 28) (w7.heap.size) rfl)
 have hzw7 : Hid (w.heap.size ≤ w7.heap.size):=H_ hG.size
 have hlaw7 : Hid (aw1 < w7.heap.size):=H_ (Array.getElem?_eq_some_iff.1 Ba).1
 have hlbw7 : Hid (aw3 < w7.heap.size):=H_ (Array.getElem?_eq_some_iff.1 Bb).1
 have hlcw7 : Hid (aw5 < w7.heap.size):=H_ (Array.getElem?_eq_some_iff.1 Bc).1
 clear Ca0 Fa0 Ca1 Fa1 Ca2 Fa2 Ca3 Fa3 Cb0 Fb0 Cb1 Fb1 Cb2 Fb2 Cb3 Fb3 Cc0 Fc0 Cc1 Fc1 Cc2 Fc2 Cc3 Fc3
 replace Ba:=a_ gbw7 Ba
 replace Bb:=a_ gbw7 Bb
 replace Bc:=a_ gbw7 Bc
 replace qa:=qa.kept gbw7
 replace qb:=qb.kept gbw7
 replace hG:=d_ hG gbw7
 clear gbw7
 obtain ⟨Ca0,Ca1,Ca2,Ca3,Fa0,Fa1,Fa2,Fa3⟩:=b_ Ba
 obtain ⟨Cb0,Cb1,Cb2,Cb3,Fb0,Fb1,Fb2,Fb3⟩:=b_ Bb
 obtain ⟨Cc0,Cc1,Cc2,Cc3,Fc0,Fc1,Fc2,Fc3⟩:=b_ Bc
 obtain ⟨Cd0,Cd1,Cd2,Cd3,Fd0,Fd1,Fd2,Fd3⟩:=b_ Bd
 go_wp2_with fail
 generalize (w7.alloc (.cells #[.slice sd xd.length xd.length,.bool bd,.slice sd' xd'.length xd'.length,.bool bd'] 28)) = w8 at *
 generalize w7.heap.size = aw7 at *
 replace hzw7:=hzw7.out
 replace hlaw7:=hlaw7.out
 replace hlbw7:=hlbw7.out
 replace hlcw7:=hlcw7.out
 clear Ca0 Fa0 Ca1 Fa1 Ca2 Fa2 Ca3 Fa3 Cb0 Fb0 Cb1 Fb1 Cb2 Fb2 Cb3 Fb3 Cc0 Fc0 Cc1 Fc1 Cc2 Fc2 Cc3 Fc3 Cd0 Fd0 Cd1 Fd1 Cd2 Fd2 Cd3 Fd3
 refine (aH_ w8 _ r1 1 qa (by omega) B1.out.1 B1.out.2).mono ?_
 rintro e w9 ⟨x1',rfl,hx1,gw9⟩
 obtain rfl:=aK_ hx1 T1.out
 clear hx1
 replace Ba:=a_ gw9 Ba
 replace Bb:=a_ gw9 Bb
 replace Bc:=a_ gw9 Bc
 replace Bd:=a_ gw9 Bd
 replace qa:=qa.kept gw9
 replace qb:=qb.kept gw9
 replace hG:=d_ hG gw9
 clear gw9
 obtain ⟨Ca0,Ca1,Ca2,Ca3,Fa0,Fa1,Fa2,Fa3⟩:=b_ Ba
 obtain ⟨Cb0,Cb1,Cb2,Cb3,Fb0,Fb1,Fb2,Fb3⟩:=b_ Bb
 obtain ⟨Cc0,Cc1,Cc2,Cc3,Fc0,Fc1,Fc2,Fc3⟩:=b_ Bc
 obtain ⟨Cd0,Cd1,Cd2,Cd3,Fd0,Fd1,Fd2,Fd3⟩:=b_ Bd
 go_wp2_with fail
 clear Ca0 Fa0 Ca1 Fa1 Ca2 Fa2 Ca3 Fa3 Cb0 Fb0 Cb1 Fb1 Cb2 Fb2 Cb3 Fb3 Cc0 Fc0 Cc1 Fc1 Cc2 Fc2 Cc3 Fc3 Cd0 Fd0 Cd1 Fd1 Cd2 Fd2 Cd3 Fd3
 refine (ax_ w9 _ r1 1 qa (by omega) B1.out.1 B1.out.2).mono ?_
 rintro e w10 ⟨_,rfl,⟨se,xe,be,rfl,he,ve,te⟩,gw10⟩
 rw [K1.out.2.2.1] at ve te
 have ie : IntV w10 (.agg #[.slice se xe.length xe.length,.bool be]) (-2):=⟨se,xe,be,rfl,he,ve,te⟩
 replace Ba:=a_ gw10 Ba
 replace Bb:=a_ gw10 Bb
 replace Bc:=a_ gw10 Bc
 replace Bd:=a_ gw10 Bd
 replace qa:=qa.kept gw10
 replace qb:=qb.kept gw10
 replace hG:=d_ hG gw10
 clear gw10
 clear he ve te
 obtain ⟨Ca0,Ca1,Ca2,Ca3,Fa0,Fa1,Fa2,Fa3⟩:=b_ Ba
 obtain ⟨Cb0,Cb1,Cb2,Cb3,Fb0,Fb1,Fb2,Fb3⟩:=b_ Bb
 obtain ⟨Cc0,Cc1,Cc2,Cc3,Fc0,Fc1,Fc2,Fc3⟩:=b_ Bc
 obtain ⟨Cd0,Cd1,Cd2,Cd3,Fd0,Fd1,Fd2,Fd3⟩:=b_ Bd
 go_wp2_with fail
 clear Ca0 Fa0 Ca1 Fa1 Ca2 Fa2 Ca3 Fa3 Cb0 Fb0 Cb1 Fb1 Cb2 Fb2 Cb3 Fb3 Cc0 Fc0 Cc1 Fc1 Cc2 Fc2 Cc3 Fc3 Cd0 Fd0 Cd1 Fd1 Cd2 Fd2 Cd3 Fd3
 refine (ab_ w10 _ (-2) 1 ie (by omega) (by unfold B; decide)).mono ?_
 rintro e w11 ⟨x5,rfl,hx5,gw11⟩
 obtain rfl:=al_ hx5 ls_
 clear hx5
 replace Ba:=a_ gw11 Ba
 replace Bb:=a_ gw11 Bb
 replace Bc:=a_ gw11 Bc
 replace Bd:=a_ gw11 Bd
 replace qa:=qa.kept gw11
 replace qb:=qb.kept gw11
 replace hG:=d_ hG gw11
 clear gw11
 obtain ⟨Ca0,Ca1,Ca2,Ca3,Fa0,Fa1,Fa2,Fa3⟩:=b_ Ba
 obtain ⟨Cb0,Cb1,Cb2,Cb3,Fb0,Fb1,Fb2,Fb3⟩:=b_ Bb
 obtain ⟨Cc0,Cc1,Cc2,Cc3,Fc0,Fc1,Fc2,Fc3⟩:=b_ Bc
 obtain ⟨Cd0,Cd1,Cd2,Cd3,Fd0,Fd1,Fd2,Fd3⟩:=b_ Bd
 go_wp2_with fail
 clear Ca0 Fa0 Ca1 Fa1 Ca2 Fa2 Ca3 Fa3 Cb0 Fb0 Cb1 Fb1 Cb2 Fb2 Cb3 Fb3 Cc0 Fc0 Cc1 Fc1 Cc2 Fc2 Cc3 Fc3 Cd0 Fd0 Cd1 Fd1 Cd2 Fd2 Cd3 Fd3
 refine (E_ w11 _ r1 1 qa (by omega) B1.out.1 B1.out.2).mono ?_
 rintro e w12 ⟨_,rfl,⟨sh,xh,bh,rfl,hh,vh,th⟩,gw12⟩
 rw [K1.out.2.2.2] at vh th
 have ih : IntV w12 (.agg #[.slice sh xh.length xh.length,.bool bh]) (-2):=⟨sh,xh,bh,rfl,hh,vh,th⟩
 replace Ba:=a_ gw12 Ba
 replace Bb:=a_ gw12 Bb
 replace Bc:=a_ gw12 Bc
 replace Bd:=a_ gw12 Bd
 replace qb:=qb.kept gw12
 replace hG:=d_ hG gw12
 clear gw12
 clear hh vh th
 obtain ⟨Ca0,Ca1,Ca2,Ca3,Fa0,Fa1,Fa2,Fa3⟩:=b_ Ba
 obtain ⟨Cb0,Cb1,Cb2,Cb3,Fb0,Fb1,Fb2,Fb3⟩:=b_ Bb
 obtain ⟨Cc0,Cc1,Cc2,Cc3,Fc0,Fc1,Fc2,Fc3⟩:=b_ Bc
 obtain ⟨Cd0,Cd1,Cd2,Cd3,Fd0,Fd1,Fd2,Fd3⟩:=b_ Bd
 go_wp2_with fail
 clear Ca0 Fa0 Ca1 Fa1 Ca2 Fa2 Ca3 Fa3 Cb0 Fb0 Cb1 Fb1 Cb2 Fb2 Cb3 Fb3 Cc0 Fc0 Cc1 Fc1 Cc2 Fc2 Cc3 Fc3 Cd0 Fd0 Cd1 Fd1 Cd2 Fd2 Cd3 Fd3
 refine (ab_ w12 _ (-2) 1 ih (by omega) (by unfold B; decide)).mono ?_
 rintro e w13 ⟨x6,rfl,hx6,gw13⟩
 obtain rfl:=al_ hx6 ls_
 clear hx6
 replace Ba:=a_ gw13 Ba
 replace Bb:=a_ gw13 Bb
 replace Bc:=a_ gw13 Bc
 replace Bd:=a_ gw13 Bd
 replace qb:=qb.kept gw13
 replace hG:=d_ hG gw13
 clear gw13
 obtain ⟨Ca0,Ca1,Ca2,Ca3,Fa0,Fa1,Fa2,Fa3⟩:=b_ Ba
 obtain ⟨Cb0,Cb1,Cb2,Cb3,Fb0,Fb1,Fb2,Fb3⟩:=b_ Bb
 obtain ⟨Cc0,Cc1,Cc2,Cc3,Fc0,Fc1,Fc2,Fc3⟩:=b_ Bc
 obtain ⟨Cd0,Cd1,Cd2,Cd3,Fd0,Fd1,Fd2,Fd3⟩:=b_ Bd
 go_wp2_with fail
 clear Ca0 Fa0 Ca1 Fa1 Ca2 Fa2 Ca3 Fa3 Cb0 Fb0 Cb1 Fb1 Cb2 Fb2 Cb3 Fb3 Cc0 Fc0 Cc1 Fc1 Cc2 Fc2 Cc3 Fc3 Cd0 Fd0 Cd1 Fd1 Cd2 Fd2 Cd3 Fd3
 refine (aH_ w13 _ r2 1 qb (by omega) B2.out.1 B2.out.2).mono ?_
 rintro e w14 ⟨x2',rfl,hx2,gw14⟩
 obtain rfl:=aK_ hx2 T2.out
 clear hx2
 replace Ba:=a_ gw14 Ba
 replace Bb:=a_ gw14 Bb
 replace Bc:=a_ gw14 Bc
 replace Bd:=a_ gw14 Bd
 replace hG:=d_ hG gw14
 clear gw14
 obtain ⟨Ca0,Ca1,Ca2,Ca3,Fa0,Fa1,Fa2,Fa3⟩:=b_ Ba
 obtain ⟨Cb0,Cb1,Cb2,Cb3,Fb0,Fb1,Fb2,Fb3⟩:=b_ Bb
 obtain ⟨Cc0,Cc1,Cc2,Cc3,Fc0,Fc1,Fc2,Fc3⟩:=b_ Bc
 obtain ⟨Cd0,Cd1,Cd2,Cd3,Fd0,Fd1,Fd2,Fd3⟩:=b_ Bd
 go_wp2_with fail
 go_ret
 exact ⟨by first | rfl | simp,hG⟩
def BoxR (W : World) (p : Nat) (r : Rat) : Prop:=∃ u0 u1 u2 u3,W.heap[p]? = some (.cells #[u0,u1,u2,u3] 28 (0,0)) ∧ RatV W (.agg #[u0,u1,u2,u3]) r
theorem BoxR.open {W : World} {p : Nat} {r : Rat} (h : BoxR W p r) : ∃ (s : Option Addr) (xs : List Nat) (b : Bool) (s' : Option Addr) (xs' : List Nat) (b' : Bool),W.heap[p]? = some (.cells #[.slice s xs.length xs.length,.bool b,.slice s' xs'.length xs'.length,.bool b'] 28 (0,0)) ∧ RatV W (.agg #[.slice s xs.length xs.length,.bool b,.slice s' xs'.length xs'.length,.bool b']) r:=by
 obtain ⟨u0,u1,u2,u3,h1,h2⟩:=h
 obtain ⟨s,xs,f,s',xs',f',e,h3⟩:=h2
 cases e
 exact ⟨s,xs,f,s',xs',f',h1,s,xs,f,s',xs',f',rfl,h3⟩
def QSl (W : World) (s : Option Addr) (n : Nat) (rs : List Rat) : Prop:=rs.length = n ∧ (n = 0 ∨ ∃ (b : Nat) (cs : Array Value),s = some ⟨b,0,none⟩ ∧ W.heap[b]? = some (.cells cs 28 (0,0)) ∧ ∀ i (h : i < rs.length),∃ u0 u1 u2 u3,cs[i * 4]? = some u0 ∧ cs[i * 4 + 1]? = some u1 ∧ cs[i * 4 + 2]? = some u2 ∧ cs[i * 4 + 3]? = some u3 ∧ RatV W (.agg #[u0,u1,u2,u3]) rs[i])
theorem QSl.at {W : World} {b n : Nat} {rs : List Rat} (h : QSl W (some ⟨b,0,none⟩) n rs) (k : Nat) (hk : k < rs.length) : ∃ (s : Option Addr) (xs : List Nat) (f : Bool) (s' : Option Addr) (xs' : List Nat) (f' : Bool),W.cell? ⟨b,k * 4,none⟩ = some (.slice s xs.length xs.length) ∧ W.cell? ⟨b,k * 4 + 1,none⟩ = some (.bool f) ∧ W.cell? ⟨b,k * 4 + 2,none⟩ = some (.slice s' xs'.length xs'.length) ∧ W.cell? ⟨b,k * 4 + 3,none⟩ = some (.bool f') ∧ RatV W (.agg #[.slice s xs.length xs.length,.bool f,.slice s' xs'.length xs'.length,.bool f']) (rs[k]'hk):=by
 obtain ⟨h1,h2⟩:=h
 rcases h2 with h2 | ⟨b',cs,e,hb,hc⟩
 · omega
 · cases e
   obtain ⟨u0,u1,u2,u3,a1,a2,a3,a4,a5⟩:=hc k hk
   obtain ⟨s,xs,f,s',xs',f',e,h3⟩:=a5
   cases e
   exact ⟨s,xs,f,s',xs',f',by simp [World.cell?,hb,a1],by simp [World.cell?,hb,a2],by simp [World.cell?,hb,a3],by simp [World.cell?,hb,a4],s,xs,f,s',xs',f',rfl,h3⟩
end Go.Proofs.YtgbbdgioohaknaaGreatDoor
