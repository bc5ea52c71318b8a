/- What the laws lean on, part 57. -/
import Derived.Deep.RegionHeld3
import Derived.Test.YtgbbdgioohaknaaGreatDoorPb17
import Derived.Test.YtgbbdgioohaknaaGreatDoorPb18
import Derived.Test.YtgbbdgioohaknaaGreatDoorPb40
import Derived.Test.YtgbbdgioohaknaaGreatDoorPb50
import Derived.Test.YtgbbdgioohaknaaGreatDoorPb56
namespace Go.Proofs.YtgbbdgioohaknaaGreatDoor
open Go.RowKit Mat
set_option maxRecDepth 100000
set_option linter.unusedVariables false
set_option linter.unusedSimpArgs false
set_option maxHeartbeats 16000000 in
theorem ez_ (w : World) (n d : Int) (hn : (Lit.int .i64 n).wf = true) (hd : (Lit.int .i64 d).wf = true) (hTab : Tab w) :
    Calls Tryz.prog 4 #[.int .i64 n,.int .i64 d] w (fun e w'=>e = .returned (.bool true) ∧ w.grownBy w' none):=by
 have HTB : Hid (∀ W,w.grownBy W none → Tab W):=fun W hW=>hTab.kept hW (by simp)
 clear hTab
 have hG : w.grownBy w none:=h_ _ _
 have h1 : -9223372036854775808 ≤ n ∧ n ≤ 9223372036854775807:=by simpa [Lit.wf,IntKind.min,IntKind.max,IntKind.signed,IntKind.bits] using hn
 have h2 : -9223372036854775808 ≤ d ∧ d ≤ 9223372036854775807:=by simpa [Lit.wf,IntKind.min,IntKind.max,IntKind.signed,IntKind.bits] using hd
 have HN:=H_ h1
 have HD:=H_ h2
 have lN : Hid (n.natAbs < B ^ 1 ∧ n.natAbs < D ^ 5):=⟨by unfold B; omega,by unfold D; omega⟩
 have lD : Hid (d.natAbs < B ^ 1 ∧ d.natAbs < D ^ 5):=⟨by unfold B; omega,by unfold D; omega⟩
 have lW : Hid (((n : Rat)).num.natAbs < B ^ 1 ∧ ((n : Rat)).den < B ^ 1):=⟨gq_ lN.out.1,gr_ (Nat.le_refl 1)⟩
 clear h1 h2 hn hd
 obtain ⟨R,hR⟩ : ∃ R,Rat.divInt n d = R:=⟨_,rfl⟩
 have HR:=H_ hR
 by_cases h0 : d = 0
 · skip
   have hR0 : R = 0:=by rw [← hR,h0,Rat.divInt_zero]
   have HRB : Hid (R.num.natAbs < B ^ 1 ∧ R.den < B ^ 1 ∧ R.num.sign = 0):=⟨by rw [hR0]; unfold B; decide,by rw [hR0]; unfold B; decide,by rw [hR0]; rfl⟩
   have fd : (d == 0) = true:=by rw [h0]; rfl
   clear hR0
   have H0:=H_ h0
   clear h0 hR
   go_enter Tryz.func4,Tryz.ntmps4
   go_wp2_with fail
   refine (fB_ w n d HN.out.1 HN.out.2 HD.out.1 HD.out.2 (HTB.out _ hG)).mono ?_
   rintro e d1w1 ⟨_,rfl,⟨sa,xa,ba,sa',xa',ba',rfl,ha,ha'⟩,gd1w1⟩
   rw [if_pos H0.out]
   rw [HR.out] at ha ha'
   have qa : RatV d1w1 (.agg #[.slice sa xa.length xa.length,.bool ba,.slice sa' xa'.length xa'.length,.bool ba']) (R):=⟨sa,xa,ba,sa',xa',ba',rfl,ha,ha'⟩
   replace hG:=d_ hG gd1w1
   clear gd1w1
   clear ha ha'
   have gbd1w1:=(wg_ d1w1 (.cells #[.slice sa xa.length xa.length,.bool ba,.slice sa' xa'.length xa'.length,.bool ba'] 28) none)
   have Ba:=(f_ d1w1 (.cells #[.slice sa xa.length xa.length,.bool ba,.slice sa' xa'.length xa'.length,.bool ba'] 28) (d1w1.heap.size) rfl)
   have hzd1w1 : Hid (w.heap.size ≤ d1w1.heap.size):=H_ hG.size
   replace qa:=qa.kept gbd1w1
   replace hG:=d_ hG gbd1w1
   clear gbd1w1
   obtain ⟨Ca0,Ca1,Ca2,Ca3,Fa0,Fa1,Fa2,Fa3⟩:=b_ Ba
   go_wp2_with fail
   generalize (d1w1.alloc (.cells #[.slice sa xa.length xa.length,.bool ba,.slice sa' xa'.length xa'.length,.bool ba'] 28)) = d1w2 at *
   generalize d1w1.heap.size = ad1w1 at *
   replace hzd1w1:=hzd1w1.out
   clear Ca0 Fa0 Ca1 Fa1 Ca2 Fa2 Ca3 Fa3
   refine (ak_ d1w2 n HN.out.1 HN.out.2).mono ?_
   rintro e d1w3 ⟨v1,rfl,n1,gd1w3⟩
   replace Ba:=a_ gd1w3 Ba
   replace qa:=qa.kept gd1w3
   replace hG:=d_ hG gd1w3
   clear gd1w3
   obtain ⟨Ca0,Ca1,Ca2,Ca3,Fa0,Fa1,Fa2,Fa3⟩:=b_ Ba
   go_wp2_with fail
   clear Ca0 Fa0 Ca1 Fa1 Ca2 Fa2 Ca3 Fa3
   refine (ak_ d1w3 d HD.out.1 HD.out.2).mono ?_
   rintro e d1w4 ⟨v2,rfl,n2,gd1w4⟩
   replace Ba:=a_ gd1w4 Ba
   replace qa:=qa.kept gd1w4
   replace n1:=n1.kept gd1w4
   replace hG:=d_ hG gd1w4
   clear gd1w4
   obtain ⟨Ca0,Ca1,Ca2,Ca3,Fa0,Fa1,Fa2,Fa3⟩:=b_ Ba
   go_wp2_with fail
   clear Ca0 Fa0 Ca1 Fa1 Ca2 Fa2 Ca3 Fa3
   refine (db_ d1w4 _ _ n d 1 n1 n2 (by omega) lN.out.1 lD.out.1 (HTB.out _ hG)).mono ?_
   rintro e d1w5 ⟨_,rfl,⟨sb,xb,bb,sb',xb',bb',rfl,hb,hb'⟩,gd1w5⟩
   rw [if_pos H0.out]
   rw [HR.out] at hb hb'
   have qb : RatV d1w5 (.agg #[.slice sb xb.length xb.length,.bool bb,.slice sb' xb'.length xb'.length,.bool bb']) (R):=⟨sb,xb,bb,sb',xb',bb',rfl,hb,hb'⟩
   replace Ba:=a_ gd1w5 Ba
   replace qa:=qa.kept gd1w5
   replace hG:=d_ hG gd1w5
   clear gd1w5
   clear hb hb'
   obtain ⟨Ca0,Ca1,Ca2,Ca3,Fa0,Fa1,Fa2,Fa3⟩:=b_ Ba
   have gbd1w5:=(wg_ d1w5 (.cells #[.slice sb xb.length xb.length,.bool bb,.slice sb' xb'.length xb'.length,.bool bb'] 28) none)
   have Bb:=(f_ d1w5 (.cells #[.slice sb xb.length xb.length,.bool bb,.slice sb' xb'.length xb'.length,.bool bb'] 28) (d1w5.heap.size) rfl)
   have hzd1w5 : Hid (w.heap.size ≤ d1w5.heap.size):=H_ hG.size
   have hlad1w5 : Hid (ad1w1 < d1w5.heap.size):=H_ (Array.getElem?_eq_some_iff.1 Ba).1
   clear Ca0 Fa0 Ca1 Fa1 Ca2 Fa2 Ca3 Fa3
   replace Ba:=a_ gbd1w5 Ba
   replace qa:=qa.kept gbd1w5
   replace qb:=qb.kept gbd1w5
   replace hG:=d_ hG gbd1w5
   clear gbd1w5
   obtain ⟨Ca0,Ca1,Ca2,Ca3,Fa0,Fa1,Fa2,Fa3⟩:=b_ Ba
   obtain ⟨Cb0,Cb1,Cb2,Cb3,Fb0,Fb1,Fb2,Fb3⟩:=b_ Bb
   go_wp2_with fail
   clear n1
   clear n2
   generalize (d1w5.alloc (.cells #[.slice sb xb.length xb.length,.bool bb,.slice sb' xb'.length xb'.length,.bool bb'] 28)) = d1w6 at *
   generalize d1w5.heap.size = ad1w5 at *
   replace hzd1w5:=hzd1w5.out
   replace hlad1w5:=hlad1w5.out
   clear Ca0 Fa0 Ca1 Fa1 Ca2 Fa2 Ca3 Fa3 Cb0 Fb0 Cb1 Fb1 Cb2 Fb2 Cb3 Fb3
   refine (ak_ d1w6 n HN.out.1 HN.out.2).mono ?_
   rintro e d1w7 ⟨v3,rfl,n3,gd1w7⟩
   replace Ba:=a_ gd1w7 Ba
   replace Bb:=a_ gd1w7 Bb
   replace qa:=qa.kept gd1w7
   replace qb:=qb.kept gd1w7
   replace hG:=d_ hG gd1w7
   clear gd1w7
   obtain ⟨Ca0,Ca1,Ca2,Ca3,Fa0,Fa1,Fa2,Fa3⟩:=b_ Ba
   obtain ⟨Cb0,Cb1,Cb2,Cb3,Fb0,Fb1,Fb2,Fb3⟩:=b_ Bb
   go_wp2_with fail
   clear Ca0 Fa0 Ca1 Fa1 Ca2 Fa2 Ca3 Fa3 Cb0 Fb0 Cb1 Fb1 Cb2 Fb2 Cb3 Fb3
   refine (p_ d1w7 _ n 1 n3 (by omega) lN.out.1).mono ?_
   rintro e d1w8 ⟨_,rfl,⟨sc,xc,bc,sc',xc',bc',rfl,hc,hc'⟩,gd1w8⟩
   have qc : RatV d1w8 (.agg #[.slice sc xc.length xc.length,.bool bc,.slice sc' xc'.length xc'.length,.bool bc']) ((n : Rat)):=⟨sc,xc,bc,sc',xc',bc',rfl,hc,hc'⟩
   replace Ba:=a_ gd1w8 Ba
   replace Bb:=a_ gd1w8 Bb
   replace qa:=qa.kept gd1w8
   replace qb:=qb.kept gd1w8
   replace hG:=d_ hG gd1w8
   clear gd1w8
   clear hc hc'
   obtain ⟨Ca0,Ca1,Ca2,Ca3,Fa0,Fa1,Fa2,Fa3⟩:=b_ Ba
   obtain ⟨Cb0,Cb1,Cb2,Cb3,Fb0,Fb1,Fb2,Fb3⟩:=b_ Bb
   have gbd1w8:=(wg_ d1w8 (.cells #[.slice sc xc.length xc.length,.bool bc,.slice sc' xc'.length xc'.length,.bool bc'] 28) none)
   have Bc:=(f_ d1w8 (.cells #[.slice sc xc.length xc.length,.bool bc,.slice sc' xc'.length xc'.length,.bool bc'] 28) (d1w8.heap.size) rfl)
   have hzd1w8 : Hid (w.heap.size ≤ d1w8.heap.size):=H_ hG.size
   have hlad1w8 : Hid (ad1w1 < d1w8.heap.size):=H_ (Array.getElem?_eq_some_iff.1 Ba).1
   have hlbd1w8 : Hid (ad1w5 < d1w8.heap.size):=H_ (Array.getElem?_eq_some_iff.1 Bb).1
   clear Ca0 Fa0 Ca1 Fa1 Ca2 Fa2 Ca3 Fa3 Cb0 Fb0 Cb1 Fb1 Cb2 Fb2 Cb3 Fb3
   replace Ba:=a_ gbd1w8 Ba
   replace Bb:=a_ gbd1w8 Bb
   replace qa:=qa.kept gbd1w8
   replace qb:=qb.kept gbd1w8
   replace qc:=qc.kept gbd1w8
   replace hG:=d_ hG gbd1w8
   clear gbd1w8
   obtain ⟨Ca0,Ca1,Ca2,Ca3,Fa0,Fa1,Fa2,Fa3⟩:=b_ Ba
   obtain ⟨Cb0,Cb1,Cb2,Cb3,Fb0,Fb1,Fb2,Fb3⟩:=b_ Bb
   obtain ⟨Cc0,Cc1,Cc2,Cc3,Fc0,Fc1,Fc2,Fc3⟩:=b_ Bc
   go_wp2_with fail
   clear n3
   generalize (d1w8.alloc (.cells #[.slice sc xc.length xc.length,.bool bc,.slice sc' xc'.length xc'.length,.bool bc'] 28)) = d1w9 at *
   generalize d1w8.heap.size = ad1w8 at *
   replace hzd1w8:=hzd1w8.out
   replace hlad1w8:=hlad1w8.out
   replace hlbd1w8:=hlbd1w8.out
   clear Ca0 Fa0 Ca1 Fa1 Ca2 Fa2 Ca3 Fa3 Cb0 Fb0 Cb1 Fb1 Cb2 Fb2 Cb3 Fb3 Cc0 Fc0 Cc1 Fc1 Cc2 Fc2 Cc3 Fc3
   refine (A_ d1w9 (HTB.out _ hG)).mono ?_
   rintro e d1w10 ⟨rfl,gd1w10⟩
   replace Ba:=a_ gd1w10 Ba
   replace Bb:=a_ gd1w10 Bb
   replace Bc:=a_ gd1w10 Bc
   replace qa:=qa.kept gd1w10
   replace qb:=qb.kept gd1w10
   replace qc:=qc.kept gd1w10
   replace hG:=d_ hG gd1w10
   clear gd1w10
   obtain ⟨Ca0,Ca1,Ca2,Ca3,Fa0,Fa1,Fa2,Fa3⟩:=b_ Ba
   obtain ⟨Cb0,Cb1,Cb2,Cb3,Fb0,Fb1,Fb2,Fb3⟩:=b_ Bb
   obtain ⟨Cc0,Cc1,Cc2,Cc3,Fc0,Fc1,Fc2,Fc3⟩:=b_ Bc
   go_wp2_with fail
   clear Ca0 Fa0 Ca1 Fa1 Ca2 Fa2 Ca3 Fa3 Cb0 Fb0 Cb1 Fb1 Cb2 Fb2 Cb3 Fb3 Cc0 Fc0 Cc1 Fc1 Cc2 Fc2 Cc3 Fc3
   refine (aH_ d1w10 _ (n : Rat) 1 qc (by omega) lW.out.1 lW.out.2).mono ?_
   rintro e d1w11 ⟨s1,rfl,hs1,gd1w11⟩
   have HS1:=H_ hs1
   clear hs1
   replace Ba:=a_ gd1w11 Ba
   replace Bb:=a_ gd1w11 Bb
   replace Bc:=a_ gd1w11 Bc
   replace qa:=qa.kept gd1w11
   replace qb:=qb.kept gd1w11
   replace hG:=d_ hG gd1w11
   clear gd1w11
   obtain ⟨Ca0,Ca1,Ca2,Ca3,Fa0,Fa1,Fa2,Fa3⟩:=b_ Ba
   obtain ⟨Cb0,Cb1,Cb2,Cb3,Fb0,Fb1,Fb2,Fb3⟩:=b_ Bb
   obtain ⟨Cc0,Cc1,Cc2,Cc3,Fc0,Fc1,Fc2,Fc3⟩:=b_ Bc
   go_wp2_with fail
   clear Ca0 Fa0 Ca1 Fa1 Ca2 Fa2 Ca3 Fa3 Cb0 Fb0 Cb1 Fb1 Cb2 Fb2 Cb3 Fb3 Cc0 Fc0 Cc1 Fc1 Cc2 Fc2 Cc3 Fc3
   refine (ak_ d1w11 n HN.out.1 HN.out.2).mono ?_
   rintro e d1w12 ⟨v4,rfl,n4,gd1w12⟩
   replace Ba:=a_ gd1w12 Ba
   replace Bb:=a_ gd1w12 Bb
   replace Bc:=a_ gd1w12 Bc
   replace qa:=qa.kept gd1w12
   replace qb:=qb.kept gd1w12
   replace hG:=d_ hG gd1w12
   clear gd1w12
   obtain ⟨Ca0,Ca1,Ca2,Ca3,Fa0,Fa1,Fa2,Fa3⟩:=b_ Ba
   obtain ⟨Cb0,Cb1,Cb2,Cb3,Fb0,Fb1,Fb2,Fb3⟩:=b_ Bb
   obtain ⟨Cc0,Cc1,Cc2,Cc3,Fc0,Fc1,Fc2,Fc3⟩:=b_ Bc
   go_wp2_with fail
   clear Ca0 Fa0 Ca1 Fa1 Ca2 Fa2 Ca3 Fa3 Cb0 Fb0 Cb1 Fb1 Cb2 Fb2 Cb3 Fb3 Cc0 Fc0 Cc1 Fc1 Cc2 Fc2 Cc3 Fc3
   refine (ab_ d1w12 _ n 1 n4 (by omega) lN.out.1).mono ?_
   rintro e d1w13 ⟨s2,rfl,hs2,gd1w13⟩
   obtain rfl : s2 = s1:=aK_ (r:=(n : Rat)) (Or.inl ⟨rfl,hs2⟩) HS1.out
   clear hs2
   replace Ba:=a_ gd1w13 Ba
   replace Bb:=a_ gd1w13 Bb
   replace Bc:=a_ gd1w13 Bc
   replace qa:=qa.kept gd1w13
   replace qb:=qb.kept gd1w13
   replace hG:=d_ hG gd1w13
   clear gd1w13
   obtain ⟨Ca0,Ca1,Ca2,Ca3,Fa0,Fa1,Fa2,Fa3⟩:=b_ Ba
   obtain ⟨Cb0,Cb1,Cb2,Cb3,Fb0,Fb1,Fb2,Fb3⟩:=b_ Bb
   obtain ⟨Cc0,Cc1,Cc2,Cc3,Fc0,Fc1,Fc2,Fc3⟩:=b_ Bc
   go_wp2_with fail
   clear n4
   clear Ca0 Fa0 Ca1 Fa1 Ca2 Fa2 Ca3 Fa3 Cb0 Fb0 Cb1 Fb1 Cb2 Fb2 Cb3 Fb3 Cc0 Fc0 Cc1 Fc1 Cc2 Fc2 Cc3 Fc3
   refine (S_ d1w13 _ R 1 qa (by omega) HRB.out.1).mono ?_
   rintro e d1w14 ⟨rfl,gd1w14⟩
   rw [HRB.out.2.2]
   replace Ba:=a_ gd1w14 Ba
   replace Bb:=a_ gd1w14 Bb
   replace Bc:=a_ gd1w14 Bc
   replace qb:=qb.kept gd1w14
   replace hG:=d_ hG gd1w14
   clear gd1w14
   obtain ⟨Ca0,Ca1,Ca2,Ca3,Fa0,Fa1,Fa2,Fa3⟩:=b_ Ba
   obtain ⟨Cb0,Cb1,Cb2,Cb3,Fb0,Fb1,Fb2,Fb3⟩:=b_ Bb
   obtain ⟨Cc0,Cc1,Cc2,Cc3,Fc0,Fc1,Fc2,Fc3⟩:=b_ Bc
   go_wp2_with fail
   clear Ca0 Fa0 Ca1 Fa1 Ca2 Fa2 Ca3 Fa3 Cb0 Fb0 Cb1 Fb1 Cb2 Fb2 Cb3 Fb3 Cc0 Fc0 Cc1 Fc1 Cc2 Fc2 Cc3 Fc3
   refine (S_ d1w14 _ R 1 qb (by omega) HRB.out.1).mono ?_
   rintro e d1w15 ⟨rfl,gd1w15⟩
   rw [HRB.out.2.2]
   replace Ba:=a_ gd1w15 Ba
   replace Bb:=a_ gd1w15 Bb
   replace Bc:=a_ gd1w15 Bc
   replace hG:=d_ hG gd1w15
   clear gd1w15
   obtain ⟨Ca0,Ca1,Ca2,Ca3,Fa0,Fa1,Fa2,Fa3⟩:=b_ Ba
   obtain ⟨Cb0,Cb1,Cb2,Cb3,Fb0,Fb1,Fb2,Fb3⟩:=b_ Bb
   obtain ⟨Cc0,Cc1,Cc2,Cc3,Fc0,Fc1,Fc2,Fc3⟩:=b_ Bc
   go_wp2_with fail
   go_ret
   exact ⟨by first | rfl | simp,hG⟩
 · skip
   have HRB : Hid (R.num.natAbs < B ^ 1 ∧ R.den < B ^ 1):=⟨hR ▸ dV_ lN.out.1,hR ▸ cB_ lD.out.1 h0⟩
   have fd : (d == 0) = false:=beq_eq_false_iff_ne.2 h0
   have H0:=H_ h0
   clear h0 hR
   go_enter Tryz.func4,Tryz.ntmps4
   go_wp2_with fail
   refine (fB_ w n d HN.out.1 HN.out.2 HD.out.1 HD.out.2 (HTB.out _ hG)).mono ?_
   rintro e d0w1 ⟨_,rfl,⟨sa,xa,ba,sa',xa',ba',rfl,ha,ha'⟩,gd0w1⟩
   rw [if_neg H0.out]
   rw [HR.out] at ha ha'
   have qa : RatV d0w1 (.agg #[.slice sa xa.length xa.length,.bool ba,.slice sa' xa'.length xa'.length,.bool ba']) (R):=⟨sa,xa,ba,sa',xa',ba',rfl,ha,ha'⟩
   replace hG:=d_ hG gd0w1
   clear gd0w1
   clear ha ha'
   have gbd0w1:=(wg_ d0w1 (.cells #[.slice sa xa.length xa.length,.bool ba,.slice sa' xa'.length xa'.length,.bool ba'] 28) none)
   have Ba:=(f_ d0w1 (.cells #[.slice sa xa.length xa.length,.bool ba,.slice sa' xa'.length xa'.length,.bool ba'] 28) (d0w1.heap.size) rfl)
   have hzd0w1 : Hid (w.heap.size ≤ d0w1.heap.size):=H_ hG.size
   replace qa:=qa.kept gbd0w1
   replace hG:=d_ hG gbd0w1
   clear gbd0w1
   obtain ⟨Ca0,Ca1,Ca2,Ca3,Fa0,Fa1,Fa2,Fa3⟩:=b_ Ba
   go_wp2_with fail
   generalize (d0w1.alloc (.cells #[.slice sa xa.length xa.length,.bool ba,.slice sa' xa'.length xa'.length,.bool ba'] 28)) = d0w2 at *
   generalize d0w1.heap.size = ad0w1 at *
   replace hzd0w1:=hzd0w1.out
   clear Ca0 Fa0 Ca1 Fa1 Ca2 Fa2 Ca3 Fa3
   refine (ak_ d0w2 n HN.out.1 HN.out.2).mono ?_
   rintro e d0w3 ⟨v1,rfl,n1,gd0w3⟩
   replace Ba:=a_ gd0w3 Ba
   replace qa:=qa.kept gd0w3
   replace hG:=d_ hG gd0w3
   clear gd0w3
   obtain ⟨Ca0,Ca1,Ca2,Ca3,Fa0,Fa1,Fa2,Fa3⟩:=b_ Ba
   go_wp2_with fail
   clear Ca0 Fa0 Ca1 Fa1 Ca2 Fa2 Ca3 Fa3
   refine (ak_ d0w3 d HD.out.1 HD.out.2).mono ?_
   rintro e d0w4 ⟨v2,rfl,n2,gd0w4⟩
   replace Ba:=a_ gd0w4 Ba
   replace qa:=qa.kept gd0w4
   replace n1:=n1.kept gd0w4
   replace hG:=d_ hG gd0w4
   clear gd0w4
   obtain ⟨Ca0,Ca1,Ca2,Ca3,Fa0,Fa1,Fa2,Fa3⟩:=b_ Ba
   go_wp2_with fail
   clear Ca0 Fa0 Ca1 Fa1 Ca2 Fa2 Ca3 Fa3
   refine (db_ d0w4 _ _ n d 1 n1 n2 (by omega) lN.out.1 lD.out.1 (HTB.out _ hG)).mono ?_
   rintro e d0w5 ⟨_,rfl,⟨sb,xb,bb,sb',xb',bb',rfl,hb,hb'⟩,gd0w5⟩
   rw [if_neg H0.out]
   rw [HR.out] at hb hb'
   have qb : RatV d0w5 (.agg #[.slice sb xb.length xb.length,.bool bb,.slice sb' xb'.length xb'.length,.bool bb']) (R):=⟨sb,xb,bb,sb',xb',bb',rfl,hb,hb'⟩
   replace Ba:=a_ gd0w5 Ba
   replace qa:=qa.kept gd0w5
   replace hG:=d_ hG gd0w5
   clear gd0w5
   clear hb hb'
   obtain ⟨Ca0,Ca1,Ca2,Ca3,Fa0,Fa1,Fa2,Fa3⟩:=b_ Ba
   have gbd0w5:=(wg_ d0w5 (.cells #[.slice sb xb.length xb.length,.bool bb,.slice sb' xb'.length xb'.length,.bool bb'] 28) none)
   have Bb:=(f_ d0w5 (.cells #[.slice sb xb.length xb.length,.bool bb,.slice sb' xb'.length xb'.length,.bool bb'] 28) (d0w5.heap.size) rfl)
   have hzd0w5 : Hid (w.heap.size ≤ d0w5.heap.size):=H_ hG.size
   have hlad0w5 : Hid (ad0w1 < d0w5.heap.size):=H_ (Array.getElem?_eq_some_iff.1 Ba).1
   clear Ca0 Fa0 Ca1 Fa1 Ca2 Fa2 Ca3 Fa3
   replace Ba:=a_ gbd0w5 Ba
   replace qa:=qa.kept gbd0w5
   replace qb:=qb.kept gbd0w5
   replace hG:=d_ hG gbd0w5
   clear gbd0w5
   obtain ⟨Ca0,Ca1,Ca2,Ca3,Fa0,Fa1,Fa2,Fa3⟩:=b_ Ba
   obtain ⟨Cb0,Cb1,Cb2,Cb3,Fb0,Fb1,Fb2,Fb3⟩:=b_ Bb
   go_wp2_with fail
   clear n1
   clear n2
   generalize (d0w5.alloc (.cells #[.slice sb xb.length xb.length,.bool bb,.slice sb' xb'.length xb'.length,.bool bb'] 28)) = d0w6 at *
   generalize d0w5.heap.size = ad0w5 at *
   replace hzd0w5:=hzd0w5.out
   replace hlad0w5:=hlad0w5.out
   clear Ca0 Fa0 Ca1 Fa1 Ca2 Fa2 Ca3 Fa3 Cb0 Fb0 Cb1 Fb1 Cb2 Fb2 Cb3 Fb3
   refine (ak_ d0w6 n HN.out.1 HN.out.2).mono ?_
   rintro e d0w7 ⟨v3,rfl,n3,gd0w7⟩
   replace Ba:=a_ gd0w7 Ba
   replace Bb:=a_ gd0w7 Bb
   replace qa:=qa.kept gd0w7
   replace qb:=qb.kept gd0w7
   replace hG:=d_ hG gd0w7
   clear gd0w7
   obtain ⟨Ca0,Ca1,Ca2,Ca3,Fa0,Fa1,Fa2,Fa3⟩:=b_ Ba
   obtain ⟨Cb0,Cb1,Cb2,Cb3,Fb0,Fb1,Fb2,Fb3⟩:=b_ Bb
   go_wp2_with fail
   clear Ca0 Fa0 Ca1 Fa1 Ca2 Fa2 Ca3 Fa3 Cb0 Fb0 Cb1 Fb1 Cb2 Fb2 Cb3 Fb3
   refine (p_ d0w7 _ n 1 n3 (by omega) lN.out.1).mono ?_
   rintro e d0w8 ⟨_,rfl,⟨sc,xc,bc,sc',xc',bc',rfl,hc,hc'⟩,gd0w8⟩
   have qc : RatV d0w8 (.agg #[.slice sc xc.length xc.length,.bool bc,.slice sc' xc'.length xc'.length,.bool bc']) ((n : Rat)):=⟨sc,xc,bc,sc',xc',bc',rfl,hc,hc'⟩
   replace Ba:=a_ gd0w8 Ba
   replace Bb:=a_ gd0w8 Bb
   replace qa:=qa.kept gd0w8
   replace qb:=qb.kept gd0w8
   replace hG:=d_ hG gd0w8
   clear gd0w8
   clear hc hc'
   obtain ⟨Ca0,Ca1,Ca2,Ca3,Fa0,Fa1,Fa2,Fa3⟩:=b_ Ba
   obtain ⟨Cb0,Cb1,Cb2,Cb3,Fb0,Fb1,Fb2,Fb3⟩:=b_ Bb
   have gbd0w8:=(wg_ d0w8 (.cells #[.slice sc xc.length xc.length,.bool bc,.slice sc' xc'.length xc'.length,.bool bc'] 28) none)
   have Bc:=(f_ d0w8 (.cells #[.slice sc xc.length xc.length,.bool bc,.slice sc' xc'.length xc'.length,.bool bc'] 28) (d0w8.heap.size) rfl)
   have hzd0w8 : Hid (w.heap.size ≤ d0w8.heap.size):=H_ hG.size
   have hlad0w8 : Hid (ad0w1 < d0w8.heap.size):=H_ (Array.getElem?_eq_some_iff.1 Ba).1
   have hlbd0w8 : Hid (ad0w5 < d0w8.heap.size):=H_ (Array.getElem?_eq_some_iff.1 Bb).1
   clear Ca0 Fa0 Ca1 Fa1 Ca2 Fa2 Ca3 Fa3 Cb0 Fb0 Cb1 Fb1 Cb2 Fb2 Cb3 Fb3
   replace Ba:=a_ gbd0w8 Ba
   replace Bb:=a_ gbd0w8 Bb
   replace qa:=qa.kept gbd0w8
   replace qb:=qb.kept gbd0w8
   replace qc:=qc.kept gbd0w8
   replace hG:=d_ hG gbd0w8
   clear gbd0w8
   obtain ⟨Ca0,Ca1,Ca2,Ca3,Fa0,Fa1,Fa2,Fa3⟩:=b_ Ba
   obtain ⟨Cb0,Cb1,Cb2,Cb3,Fb0,Fb1,Fb2,Fb3⟩:=b_ Bb
   obtain ⟨Cc0,Cc1,Cc2,Cc3,Fc0,Fc1,Fc2,Fc3⟩:=b_ Bc
   go_wp2_with fail
   clear n3
   generalize (d0w8.alloc (.cells #[.slice sc xc.length xc.length,.bool bc,.slice sc' xc'.length xc'.length,.bool bc'] 28)) = d0w9 at *
   generalize d0w8.heap.size = ad0w8 at *
   replace hzd0w8:=hzd0w8.out
   replace hlad0w8:=hlad0w8.out
   replace hlbd0w8:=hlbd0w8.out
   clear Ca0 Fa0 Ca1 Fa1 Ca2 Fa2 Ca3 Fa3 Cb0 Fb0 Cb1 Fb1 Cb2 Fb2 Cb3 Fb3 Cc0 Fc0 Cc1 Fc1 Cc2 Fc2 Cc3 Fc3
   refine (A_ d0w9 (HTB.out _ hG)).mono ?_
   rintro e d0w10 ⟨rfl,gd0w10⟩
   replace Ba:=a_ gd0w10 Ba
   replace Bb:=a_ gd0w10 Bb
   replace Bc:=a_ gd0w10 Bc
   replace qa:=qa.kept gd0w10
   replace qb:=qb.kept gd0w10
   replace qc:=qc.kept gd0w10
   replace hG:=d_ hG gd0w10
   clear gd0w10
   obtain ⟨Ca0,Ca1,Ca2,Ca3,Fa0,Fa1,Fa2,Fa3⟩:=b_ Ba
   obtain ⟨Cb0,Cb1,Cb2,Cb3,Fb0,Fb1,Fb2,Fb3⟩:=b_ Bb
   obtain ⟨Cc0,Cc1,Cc2,Cc3,Fc0,Fc1,Fc2,Fc3⟩:=b_ Bc
   go_wp2_with fail
   clear Ca0 Fa0 Ca1 Fa1 Ca2 Fa2 Ca3 Fa3 Cb0 Fb0 Cb1 Fb1 Cb2 Fb2 Cb3 Fb3 Cc0 Fc0 Cc1 Fc1 Cc2 Fc2 Cc3 Fc3
   refine (aH_ d0w10 _ (n : Rat) 1 qc (by omega) lW.out.1 lW.out.2).mono ?_
   rintro e d0w11 ⟨s1,rfl,hs1,gd0w11⟩
   have HS1:=H_ hs1
   clear hs1
   replace Ba:=a_ gd0w11 Ba
   replace Bb:=a_ gd0w11 Bb
   replace Bc:=a_ gd0w11 Bc
   replace qa:=qa.kept gd0w11
   replace qb:=qb.kept gd0w11
   replace hG:=d_ hG gd0w11
   clear gd0w11
   obtain ⟨Ca0,Ca1,Ca2,Ca3,Fa0,Fa1,Fa2,Fa3⟩:=b_ Ba
   obtain ⟨Cb0,Cb1,Cb2,Cb3,Fb0,Fb1,Fb2,Fb3⟩:=b_ Bb
   obtain ⟨Cc0,Cc1,Cc2,Cc3,Fc0,Fc1,Fc2,Fc3⟩:=b_ Bc
   go_wp2_with fail
   clear Ca0 Fa0 Ca1 Fa1 Ca2 Fa2 Ca3 Fa3 Cb0 Fb0 Cb1 Fb1 Cb2 Fb2 Cb3 Fb3 Cc0 Fc0 Cc1 Fc1 Cc2 Fc2 Cc3 Fc3
   refine (ak_ d0w11 n HN.out.1 HN.out.2).mono ?_
   rintro e d0w12 ⟨v4,rfl,n4,gd0w12⟩
   replace Ba:=a_ gd0w12 Ba
   replace Bb:=a_ gd0w12 Bb
   replace Bc:=a_ gd0w12 Bc
   replace qa:=qa.kept gd0w12
   replace qb:=qb.kept gd0w12
   replace hG:=d_ hG gd0w12
   clear gd0w12
   obtain ⟨Ca0,Ca1,Ca2,Ca3,Fa0,Fa1,Fa2,Fa3⟩:=b_ Ba
   obtain ⟨Cb0,Cb1,Cb2,Cb3,Fb0,Fb1,Fb2,Fb3⟩:=b_ Bb
   obtain ⟨Cc0,Cc1,Cc2,Cc3,Fc0,Fc1,Fc2,Fc3⟩:=b_ Bc
   go_wp2_with fail
   clear Ca0 Fa0 Ca1 Fa1 Ca2 Fa2 Ca3 Fa3 Cb0 Fb0 Cb1 Fb1 Cb2 Fb2 Cb3 Fb3 Cc0 Fc0 Cc1 Fc1 Cc2 Fc2 Cc3 Fc3
   refine (ab_ d0w12 _ n 1 n4 (by omega) lN.out.1).mono ?_
   rintro e d0w13 ⟨s2,rfl,hs2,gd0w13⟩
   obtain rfl : s2 = s1:=aK_ (r:=(n : Rat)) (Or.inl ⟨rfl,hs2⟩) HS1.out
   clear hs2
   replace Ba:=a_ gd0w13 Ba
   replace Bb:=a_ gd0w13 Bb
   replace Bc:=a_ gd0w13 Bc
   replace qa:=qa.kept gd0w13
   replace qb:=qb.kept gd0w13
   replace hG:=d_ hG gd0w13
   clear gd0w13
   obtain ⟨Ca0,Ca1,Ca2,Ca3,Fa0,Fa1,Fa2,Fa3⟩:=b_ Ba
   obtain ⟨Cb0,Cb1,Cb2,Cb3,Fb0,Fb1,Fb2,Fb3⟩:=b_ Bb
   obtain ⟨Cc0,Cc1,Cc2,Cc3,Fc0,Fc1,Fc2,Fc3⟩:=b_ Bc
   go_wp2_with fail
   clear n4
   go_region_held3 (fun w'=>w'.cell? ⟨ad0w1,0,none⟩ = some (.slice sa xa.length xa.length) ∧ w'.cell? ⟨ad0w1,1,none⟩ = some (.bool ba) ∧ w'.cell? ⟨ad0w1,2,none⟩ = some (.slice sa' xa'.length xa'.length) ∧ w'.cell? ⟨ad0w1,3,none⟩ = some (.bool ba') ∧ w'.cell? ⟨ad0w5,0,none⟩ = some (.slice sb xb.length xb.length) ∧ w'.cell? ⟨ad0w5,1,none⟩ = some (.bool bb) ∧ w'.cell? ⟨ad0w5,2,none⟩ = some (.slice sb' xb'.length xb'.length) ∧ w'.cell? ⟨ad0w5,3,none⟩ = some (.bool bb'))
    (first | assumption | exact ⟨Ca0,Ca1,Ca2,Ca3,Cb0,Cb1,Cb2,Cb3⟩ | go_keep)
    (first
      | (go_at_call 27; (with_reducible refine (aq_ d0w13.drew n HN.out.1 HN.out.2).mono ?_); rintro e d0w14_1 ⟨v5,rfl,k5,gd0w14_1⟩; have hGd0w14_1:=o_ d0w13 gd0w14_1 rfl rfl rfl rfl; have hSd0w14_1:=(n_ (hGd0w14_1.cell Ca0 (by simp)) (n_ (hGd0w14_1.cell Ca1 (by simp)) (n_ (hGd0w14_1.cell Ca2 (by simp)) (n_ (hGd0w14_1.cell Ca3 (by simp)) (n_ (hGd0w14_1.cell Cb0 (by simp)) (n_ (hGd0w14_1.cell Cb1 (by simp)) (n_ (hGd0w14_1.cell Cb2 (by simp)) (hGd0w14_1.cell Cb3 (by simp))))))))); clear gd0w14_1)
      | (go_at_call 27; (with_reducible refine (aq_ d0w14_1 d HD.out.1 HD.out.2).mono ?_); rintro e d0w14_2 ⟨v6,rfl,k6,gd0w14_2⟩; have hGd0w14_2:=d_ hGd0w14_1 gd0w14_2; replace k5:=k5.kept gd0w14_2; have hSd0w14_2:=(n_ (hGd0w14_2.cell Ca0 (by simp)) (n_ (hGd0w14_2.cell Ca1 (by simp)) (n_ (hGd0w14_2.cell Ca2 (by simp)) (n_ (hGd0w14_2.cell Ca3 (by simp)) (n_ (hGd0w14_2.cell Cb0 (by simp)) (n_ (hGd0w14_2.cell Cb1 (by simp)) (n_ (hGd0w14_2.cell Cb2 (by simp)) (hGd0w14_2.cell Cb3 (by simp))))))))); clear gd0w14_2)
      | (go_at_call 26; (with_reducible refine (ck_ d0w14_2 _ _ n d 5 k5 k6 H0.out lN.out.2 lD.out.2).mono ?_); rintro e d0w14_3 ⟨v7,rfl,k7,gd0w14_3⟩; rw [HR.out] at k7; have hGd0w14_3:=d_ hGd0w14_2 gd0w14_3; replace k5:=k5.kept gd0w14_3; replace k6:=k6.kept gd0w14_3; have hSd0w14_3:=(n_ (hGd0w14_3.cell Ca0 (by simp)) (n_ (hGd0w14_3.cell Ca1 (by simp)) (n_ (hGd0w14_3.cell Ca2 (by simp)) (n_ (hGd0w14_3.cell Ca3 (by simp)) (n_ (hGd0w14_3.cell Cb0 (by simp)) (n_ (hGd0w14_3.cell Cb1 (by simp)) (n_ (hGd0w14_3.cell Cb2 (by simp)) (hGd0w14_3.cell Cb3 (by simp))))))))); clear gd0w14_3)
      | (go_at_call 16; (with_reducible refine (az_ d0w14_3 _ _ R 1 5 (qa.kept hGd0w14_3) k7 (by omega) (by omega) HRB.out.1 HRB.out.2).mono ?_); rintro e d0w14_4 ⟨rfl,gd0w14_4⟩; have hGd0w14_4:=d_ hGd0w14_3 gd0w14_4; replace k5:=k5.kept gd0w14_4; replace k6:=k6.kept gd0w14_4; replace k7:=k7.kept gd0w14_4; have hSd0w14_4:=(n_ (hGd0w14_4.cell Ca0 (by simp)) (n_ (hGd0w14_4.cell Ca1 (by simp)) (n_ (hGd0w14_4.cell Ca2 (by simp)) (n_ (hGd0w14_4.cell Ca3 (by simp)) (n_ (hGd0w14_4.cell Cb0 (by simp)) (n_ (hGd0w14_4.cell Cb1 (by simp)) (n_ (hGd0w14_4.cell Cb2 (by simp)) (hGd0w14_4.cell Cb3 (by simp))))))))); clear gd0w14_4)
      | (go_at_call 28; (with_reducible refine (D_ d0w14_4 _ _ R R 1 (qa.kept hGd0w14_4) (qb.kept hGd0w14_4) (by omega) HRB.out.1 HRB.out.2 HRB.out.1 HRB.out.2).mono ?_); rintro e d0w14_5 ⟨rfl,gd0w14_5⟩; rw [bG_ R]; have hGd0w14_5:=d_ hGd0w14_4 gd0w14_5; replace k5:=k5.kept gd0w14_5; replace k6:=k6.kept gd0w14_5; replace k7:=k7.kept gd0w14_5; have hSd0w14_5:=(n_ (hGd0w14_5.cell Ca0 (by simp)) (n_ (hGd0w14_5.cell Ca1 (by simp)) (n_ (hGd0w14_5.cell Ca2 (by simp)) (n_ (hGd0w14_5.cell Ca3 (by simp)) (n_ (hGd0w14_5.cell Cb0 (by simp)) (n_ (hGd0w14_5.cell Cb1 (by simp)) (n_ (hGd0w14_5.cell Cb2 (by simp)) (hGd0w14_5.cell Cb3 (by simp))))))))); clear gd0w14_5))
   replace Ba:=a_ hGd0w14_5 Ba
   replace Bb:=a_ hGd0w14_5 Bb
   replace Bc:=a_ hGd0w14_5 Bc
   replace hG:=d_ hG hGd0w14_5
   clear Ca0 Fa0 Ca1 Fa1 Ca2 Fa2 Ca3 Fa3 Cb0 Fb0 Cb1 Fb1 Cb2 Fb2 Cb3 Fb3 Cc0 Fc0 Cc1 Fc1 Cc2 Fc2 Cc3 Fc3
   obtain ⟨Ca0,Ca1,Ca2,Ca3,Fa0,Fa1,Fa2,Fa3⟩:=b_ Ba
   obtain ⟨Cb0,Cb1,Cb2,Cb3,Fb0,Fb1,Fb2,Fb3⟩:=b_ Bb
   obtain ⟨Cc0,Cc1,Cc2,Cc3,Fc0,Fc1,Fc2,Fc3⟩:=b_ Bc
   go_wp2_with fail
   go_ret
   exact ⟨by first | rfl | simp,hG⟩
end Go.Proofs.YtgbbdgioohaknaaGreatDoor
