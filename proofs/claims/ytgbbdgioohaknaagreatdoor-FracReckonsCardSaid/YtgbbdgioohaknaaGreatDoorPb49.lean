/- What the laws lean on, part 49. -/
import Derived.Deep.RegionHeld3
import Derived.Deep.CutRange
import Derived.Test.YtgbbdgioohaknaaGreatDoorPb15
import Derived.Test.YtgbbdgioohaknaaGreatDoorPb23
import Derived.Test.YtgbbdgioohaknaaGreatDoorPb24
import Derived.Test.YtgbbdgioohaknaaGreatDoorPb36
namespace Go.Proofs.YtgbbdgioohaknaaGreatDoor
open Go.RowKit Mat
set_option maxRecDepth 100000
set_option linter.unusedVariables false
set_option linter.unusedSimpArgs false
set_option maxHeartbeats 8000000 in
theorem jR_ (w : World) (va vb : Value) (a b : Nat) (ha : RefV w va a) (hb : RefV w vb b) (ba : a < D ^ 400000) (bb : b < D ^ 400000) :
    Calls Tryz.prog 59 #[va,vb] w (bJ_ w (Nat.gcd a b)):=by
 obtain ⟨E,hE⟩ : ∃ E,E = 400000:=⟨_,rfl⟩
 rw [← hE] at ba bb
 obtain ⟨sa,n,cx,xs,rfl,ha'⟩:=ha
 obtain ⟨sb,m,cy,ys,rfl,hb'⟩:=hb
 have na : RefV w (.agg #[.slice sa n cx]) a:=⟨sa,n,cx,xs,rfl,ha'⟩
 have nb : RefV w (.agg #[.slice sb m cy]) b:=⟨sb,m,cy,ys,rfl,hb'⟩
 have hgw0 : w.grownBy (((w.alloc (.cells #[.slice sa n cx] 34)).alloc (.cells #[.slice sb m cy] 34)).alloc (.cells #[.slice none 0 0] 34)) none:=l_ (l_ (wg_ _ _ _) _) _
 have hb3:=f_ ((w.alloc (.cells #[.slice sa n cx] 34)).alloc (.cells #[.slice sb m cy] 34)) (.cells #[.slice none 0 0] 34) (w.heap.size + 1 + 1) (by simp)
 have hb2:=a_ (wg_ _ (.cells #[.slice none 0 0] 34) none) (f_ (w.alloc (.cells #[.slice sa n cx] 34)) (.cells #[.slice sb m cy] 34) (w.heap.size + 1) (by simp))
 have hb1:=a_ (l_ (wg_ _ (.cells #[.slice sb m cy] 34) none) (.cells #[.slice none 0 0] 34)) (f_ w (.cells #[.slice sa n cx] 34) w.heap.size rfl)
 have B1 : Boxed _ w.heap.size a:=⟨_,_,_,hb1,na.kept hgw0⟩
 have B2 : Boxed _ (w.heap.size + 1) b:=⟨_,_,_,hb2,nb.kept hgw0⟩
 have HBA:=H_ ba
 have HBB:=H_ bb
 have HE:=H_ hE
 clear ha' hb' na nb hb1 hb2 ba bb hE
 go_enter Tryz.func59,Tryz.ntmps59
 go_wp2_with fail
 generalize (((w.alloc (.cells #[.slice sa n cx] 34)).alloc (.cells #[.slice sb m cy] 34)).alloc (.cells #[.slice none 0 0] 34)) = w0 at *
 go_loopg [5,6] b (fun gh u5 u6 wr=>∃ (x y : Nat),Hid (y ≤ gh) ∧ Boxed wr w.heap.size x ∧ Boxed wr (w.heap.size + 1) y ∧ Hid (Nat.gcd x y = Nat.gcd a b) ∧ Hid (x < D ^ E ∧ y < D ^ E) ∧ wr.heap[w.heap.size + 1 + 1]? = some (.cells #[.slice none 0 0] 34 (0,0)) ∧ w.grownBy wr none)
 case atStart=>exact ⟨a,b,Nat.le_refl _,B1,B2,rfl,⟨HBA.out,HBB.out⟩,hb3,hgw0⟩
 case round =>
  clear B1 B2 hb3 hgw0
  obtain ⟨x,y,hgh,hX,hY,hgc,hbd,hr,hG⟩:=hrel
  obtain ⟨sX,kX,cX,hbX,nX⟩:=hX
  obtain ⟨sY,kY,cY,hbY,nY⟩:=hY
  obtain ⟨cX1,fX1⟩:=j_ hbX
  obtain ⟨cY1,fY1⟩:=j_ hbY
  obtain ⟨cr,fr⟩:=j_ hr
  obtain ⟨sY',kY',cY',rs,eY,hyl,hyc,hyr,tys,dys,hyv⟩:=nY
  cases eY
  rcases Nat.eq_zero_or_pos kY with h0 | h0
  · subst h0
    have hy0 : y = 0:=by rw [List.length_eq_zero_iff.1 hyl] at hyv; simpa [val] using hyv.symm
    have hF : Hid (bJ_ w (Nat.gcd a b) (.returned (.agg #[.slice sX kX cX])) (wr.setCell ⟨w.heap.size + 1 + 1,0,none⟩ (.slice sX kX cX))):=by
     rw [← hgc.out,hy0,Nat.gcd_zero_right]
     exact lS_ hG hr (by decide) (by omega) nX _
    clear nX hyl hyv hgh hgc hbd
    go_wp2_with fail
    exact bodyPost_ret (v:=.agg #[.slice sX kX cX]) (by simp [results,Tryz.results59,go_sem,cr]) rfl hF.out
  · have f0 : decide ((0 : Int) < (kY : Int)) = true:=decide_eq_true (by omega)
    have hy0 : 0 < y:=by
     rw [← hyv]
     refine gg_ D bi_ rs ?_ tys
     intro e
     rw [e] at hyl; simp at hyl; omega
    have nY : RefV wr (.agg #[.slice sY kY cY]) y:=⟨sY,kY,cY,rs,rfl,hyl,hyc,hyr,tys,dys,hyv⟩
    have hxE : x < D ^ 400000:=by rw [← HE.out]; exact hbd.out.1
    have hyE : y < D ^ 400000:=by rw [← HE.out]; exact hbd.out.2
    have HX:=H_ hxE
    have HY:=H_ hyE
    have H0:=H_ hy0
    clear hxE hyE hy0 hyl hyv hyr tys dys hyc
    go_wp2_with fail
    refine (cl_ wr _ _ x y nX nY HX.out HY.out H0.out).mono ?_
    rintro e w5 ⟨v,u,rfl,⟨s5,k5,c5,z5,rfl,n5⟩,⟨s6,k6,c6,z6,rfl,n6⟩,g5⟩
    have hG6 : wr.grownBy ((w5.alloc (.cells #[.slice s5 k5 c5] 34)).alloc (.cells #[.slice s6 k6 c6] 34)) none:=l_ (l_ g5 _) _
    have hbX6:=a_ hG6 hbX
    have hbY6:=a_ hG6 hbY
    have hr6:=a_ hG6 hr
    have nY6:=nY.kept hG6
    have n66 : RefV ((w5.alloc (.cells #[.slice s5 k5 c5] 34)).alloc (.cells #[.slice s6 k6 c6] 34)) (.agg #[.slice s6 k6 c6]) (x % y):=RefV.kept ⟨s6,k6,c6,z6,rfl,n6⟩ (l_ (wg_ _ _ _) _)
    have hb66:=f_ (w5.alloc (.cells #[.slice s5 k5 c5] 34)) (.cells #[.slice s6 k6 c6] 34) (w5.heap.size + 1) (by simp)
    have hlo5 : w.heap.size + 1 + 1 < w5.heap.size:=by have h1:=(Array.getElem?_eq_some_iff.1 hr).1; have:=g5.size; omega
    obtain ⟨cX6,fX6⟩:=j_ hbX6
    obtain ⟨cY6,fY6⟩:=j_ hbY6
    obtain ⟨c66,f66⟩:=j_ hb66
    have hbX7:=aY_ hbX6 (.slice sY kY cY)
    have hbY7:=y_ (g:=w.heap.size) hbY6 (by omega) (.slice sY kY cY)
    have hb67:=y_ (g:=w.heap.size) hb66 (by omega) (.slice sY kY cY)
    have hr7:=y_ (g:=w.heap.size) hr6 (by omega) (.slice sY kY cY)
    have nY7:=nY6.set_other hbX6 (by decide) 0 (.slice sY kY cY)
    have n67:=n66.set_other hbX6 (by decide) 0 (.slice sY kY cY)
    obtain ⟨c67,f67⟩:=j_ hb67
    obtain ⟨cY7,fY7⟩:=j_ hbY7
    have hbX8:=y_ (g:=w.heap.size + 1) hbX7 (by omega) (.slice s6 k6 c6)
    have hbY8:=aY_ hbY7 (.slice s6 k6 c6)
    have hr8:=y_ (g:=w.heap.size + 1) hr7 (by omega) (.slice s6 k6 c6)
    have nY8:=nY7.set_other hbY7 (by decide) 0 (.slice s6 k6 c6)
    have n68:=n67.set_other hbY7 (by decide) 0 (.slice s6 k6 c6)
    have hG8:=s_ (s_ (d_ hG hG6) (q_ (h_ _ (some w.heap.size)) 0 (.slice sY kY cY)) (Nat.le_refl _)) (q_ (h_ _ (some (w.heap.size + 1))) 0 (.slice s6 k6 c6)) (by omega)
    have hgn : Hid (Nat.gcd y (x % y) = Nat.gcd a b):=by
     show _ = _
     rw [← hgc.out,Nat.gcd_comm x y,Nat.gcd_rec y x,Nat.gcd_comm]
    have hlt : Hid (x % y < gk):=by
     show _ < _
     exact Nat.lt_of_lt_of_le (Nat.mod_lt _ H0.out) hgh.out
    have hbn : Hid (y < D ^ E ∧ x % y < D ^ E):=⟨hbd.out.2,Nat.lt_of_le_of_lt (Nat.mod_le _ _) hbd.out.1⟩
    clear g5 n5 n6 hG6 nY6 n66 nY7 n67 hbX7 hr6 hr7 nX nY hgc hbd hgh hG
    go_wp2_with fail
    go_roundg (x % y)
    case measure=>exact hlt.out
    case rel=>exact ⟨y,x % y,Nat.le_refl _,⟨sY,kY,cY,hbX8,nY8⟩,⟨s6,k6,c6,hbY8,n68⟩,hgn,hbn,hr8,hG8⟩
theorem bY_ {x : Int} {G : Nat} (h : G ∣ x.natAbs) (hG : 0 < G) : (x / (G : Int)).natAbs = x.natAbs / G:=by
 obtain ⟨k,hk⟩:=Int.ofNat_dvd_left.2 h
 rw [hk,Int.mul_ediv_cancel_left _ (by omega),Int.natAbs_mul,Int.natAbs_natCast,Nat.mul_div_cancel_left _ hG]
theorem im_ {n d : Int} {r : Rat} (hd : 0 < d) (h : Rat.divInt n d = r) : r.num.natAbs = n.natAbs / Nat.gcd n.natAbs d.natAbs ∧ ((r.den : Nat) : Int).natAbs = d.natAbs / Nat.gcd n.natAbs d.natAbs ∧ r.num.sign = n.sign ∧ 0 < Nat.gcd n.natAbs d.natAbs:=by
 have hp : 0 < Nat.gcd n.natAbs d.natAbs:=Nat.gcd_pos_of_pos_right _ (by omega)
 have h1:=ej_ n d hd
 rw [h] at h1
 refine ⟨?_,?_,(ik_ hd h).symm,hp⟩
 · rw [h1.1]; exact bY_ (Nat.gcd_dvd_left _ _) hp
 · rw [h1.2]; exact bY_ (Nat.gcd_dvd_right _ _) hp
theorem kx_ {n d : Int} {r : Rat} {E : Nat} (hd : 0 < d) (h : Rat.divInt n d = r) (hn : n.natAbs < D ^ E) : r.num.natAbs < D ^ E:=by
 rw [(im_ hd h).1]; exact Nat.lt_of_le_of_lt (Nat.div_le_self _ _) hn
theorem kz_ {n d : Int} {r : Rat} {E : Nat} (hd : 0 < d) (h : Rat.divInt n d = r) (hn : d.natAbs < D ^ E) : ((r.den : Nat) : Int).natAbs < D ^ E:=by
 rw [(im_ hd h).2.1]; exact Nat.lt_of_le_of_lt (Nat.div_le_self _ _) hn
theorem dd_ {s : ByteArray} {z : Int} {E : Nat} (h : ar_ s z) (hz : z.natAbs < D ^ E) (hE : 1 ≤ E) : s.size ≤ 4 * E + 1:=by
 obtain ⟨l,hl,vl,el⟩:=h
 have h1:=me_ hl vl hz hE
 have h2:=congrArg List.length el
 rw [z_] at h2
 rw [h2]
 split
 · rw [List.length_cons]; omega
 · omega
set_option maxHeartbeats 16000000 in
theorem cQ_ (w : World) (va : Value) (r : Rat) (E : Nat) (Ha : RQ w va r E) (hE : 1 ≤ E ∧ E ≤ 200000) :
    Calls Tryz.prog 15 #[va] w (bR_ w r.num (r.den : Int)):=by
 have HE : Hid (1 ≤ E ∧ E ≤ 200000):=hE
 clear hE
 obtain ⟨ga,sa,la,ca,ga',sa',la',ca',na,da,rfl,ha,ha',ua⟩:=Ha
 obtain ⟨hG,Ba,Bq,Bp⟩:=en3_ w (.cells #[.int .i64 ga,.slice sa la ca,.int .i64 ga',.slice sa' la' ca'] 38) (.cells #[.int .i64 0,.slice none 0 0] 36) (.cells #[.int .i64 0,.slice none 0 0] 36)
 have oa : RQ w (.agg #[.int .i64 ga,.slice sa la ca,.int .i64 ga',.slice sa' la' ca']) r E:=⟨ga,sa,la,ca,ga',sa',la',ca',na,da,rfl,ha,ha',ua⟩
 have ya:=oa.kept hG
 have ra:=(show RIntV w (.agg #[.int .i64 ga,.slice sa la ca]) na from ha).kept hG
 have ra':=(show RIntV w (.agg #[.int .i64 ga',.slice sa' la' ca']) da from ha').kept hG
 clear ha ha'
 go_enter Tryz.func15,Tryz.ntmps15
 have ma:=ra.nat.1
 have HGA:=ra.nat.2
 have ma2:=ra'.nat.1
 obtain ⟨G9,hG9⟩ : ∃ G,Nat.gcd na.natAbs da.natAbs = G:=⟨_,rfl⟩
 have hl:=im_ ua.out.1 ua.out.2.1
 rw [hG9] at hl
 have HL : Hid (r.num.natAbs = na.natAbs / G9 ∧ ((r.den : Nat) : Int).natAbs = da.natAbs / G9 ∧ r.num.sign = ga ∧ 0 < G9 ∧ G9 < D ^ 400000):=⟨hl.1,hl.2.1,hl.2.2.1.trans HGA.out.symm,hl.2.2.2,by
  rw [← hG9]
  exact Nat.lt_of_le_of_lt (Nat.gcd_le_right _ (by have:=ua.out.1; omega)) (dp4 ua.out.2.2.2 (by have:=HE.out; omega))⟩
 have HSD : Hid (((r.den : Nat) : Int).sign = 1):=Int.sign_eq_one_of_pos (by have:=r.den_pos; omega)
 have HN4 : Hid (na.natAbs < D ^ 400000 ∧ da.natAbs < D ^ 400000):=⟨dp4 ua.out.2.2.1 (by have:=HE.out; omega),dp4 ua.out.2.2.2 (by have:=HE.out; omega)⟩
 have HG9:=H_ hG9
 clear hl hG9
 obtain ⟨Ca0,Ca1,Ca2,Ca3,Fa0,Fa1,Fa2,Fa3⟩:=b_ Ba
 obtain ⟨Cq0,Cq1,Fq0,Fq1⟩:=c_ Bq
 obtain ⟨Cp0,Cp1,Fp0,Fp1⟩:=c_ Bp
 go_wp2_with fail
 generalize (((w.alloc (.cells #[.int .i64 ga,.slice sa la ca,.int .i64 ga',.slice sa' la' ca'] 38)).alloc (.cells #[.int .i64 0,.slice none 0 0] 36)).alloc (.cells #[.int .i64 0,.slice none 0 0] 36)) = w0 at *
 clear Ca0 Fa0 Ca1 Fa1 Ca2 Fa2 Ca3 Fa3 Cq0 Fq0 Cq1 Fq1 Cp0 Fp0 Cp1 Fp1
 refine (jR_ w0 _ _ na.natAbs da.natAbs ma ma2 HN4.out.1 HN4.out.2).mono ?_
 rintro e w1 ⟨_,rfl,⟨sk,lk,ck,yk,rfl,hk⟩,gw1⟩
 rw [HG9.out] at hk
 have mk : RefV w1 (.agg #[.slice sk lk ck]) (G9):=⟨sk,lk,ck,yk,rfl,hk⟩
 replace Ba:=a_ gw1 Ba
 replace Bq:=a_ gw1 Bq
 replace Bp:=a_ gw1 Bp
 replace ma:=ma.kept gw1
 replace ma2:=ma2.kept gw1
 replace hG:=d_ hG gw1
 clear gw1
 clear hk
 obtain ⟨Ca0,Ca1,Ca2,Ca3,Fa0,Fa1,Fa2,Fa3⟩:=b_ Ba
 obtain ⟨Cq0,Cq1,Fq0,Fq1⟩:=c_ Bq
 obtain ⟨Cp0,Cp1,Fp0,Fp1⟩:=c_ Bp
 have gbw1:=(wg_ w1 (.cells #[.slice sk lk ck] 34) none)
 have Bk:=(f_ w1 (.cells #[.slice sk lk ck] 34) (w1.heap.size) rfl)
 have hzw1 : Hid (w.heap.size ≤ w1.heap.size):=H_ hG.size
 have hlaw1 : Hid (w.heap.size < w1.heap.size):=H_ (Array.getElem?_eq_some_iff.1 Ba).1
 have hlqw1 : Hid (w.heap.size + 1 < w1.heap.size):=H_ (Array.getElem?_eq_some_iff.1 Bq).1
 have hlpw1 : Hid (w.heap.size + 1 + 1 < w1.heap.size):=H_ (Array.getElem?_eq_some_iff.1 Bp).1
 clear Ca0 Fa0 Ca1 Fa1 Ca2 Fa2 Ca3 Fa3 Cq0 Fq0 Cq1 Fq1 Cp0 Fp0 Cp1 Fp1
 replace Ba:=a_ gbw1 Ba
 replace Bq:=a_ gbw1 Bq
 replace Bp:=a_ gbw1 Bp
 replace ma:=ma.kept gbw1
 replace ma2:=ma2.kept gbw1
 replace mk:=mk.kept gbw1
 replace hG:=d_ hG gbw1
 clear gbw1
 obtain ⟨Ca0,Ca1,Ca2,Ca3,Fa0,Fa1,Fa2,Fa3⟩:=b_ Ba
 obtain ⟨Cq0,Cq1,Fq0,Fq1⟩:=c_ Bq
 obtain ⟨Cp0,Cp1,Fp0,Fp1⟩:=c_ Bp
 obtain ⟨Ck0,Fk0⟩:=j_ Bk
 go_wp2_with fail
 generalize (w1.alloc (.cells #[.slice sk lk ck] 34)) = w2 at *
 generalize w1.heap.size = aw1 at *
 replace hzw1:=hzw1.out
 replace hlaw1:=hlaw1.out
 replace hlqw1:=hlqw1.out
 replace hlpw1:=hlpw1.out
 clear Ca0 Fa0 Ca1 Fa1 Ca2 Fa2 Ca3 Fa3 Cq0 Fq0 Cq1 Fq1 Cp0 Fp0 Cp1 Fp1 Ck0 Fk0
 refine (cl_ w2 _ _ na.natAbs G9 ma mk HN4.out.1 HL.out.2.2.2.2 HL.out.2.2.2.1).mono ?_
 rintro e w3 ⟨_,_,rfl,⟨se,le,ce,ye,rfl,he⟩,⟨sf,lf,cf,yf,rfl,hf⟩,gw3⟩
 rw [← HL.out.1] at he
 have me : RefV w3 (.agg #[.slice se le ce]) (r.num.natAbs):=⟨se,le,ce,ye,rfl,he⟩
 have mf : RefV w3 (.agg #[.slice sf lf cf]) (na.natAbs % G9):=⟨sf,lf,cf,yf,rfl,hf⟩
 replace Ba:=a_ gw3 Ba
 replace Bq:=a_ gw3 Bq
 replace Bp:=a_ gw3 Bp
 replace Bk:=a_ gw3 Bk
 replace ma2:=ma2.kept gw3
 replace mk:=mk.kept gw3
 replace hG:=d_ hG gw3
 clear gw3
 clear he
 clear hf
 obtain ⟨Ca0,Ca1,Ca2,Ca3,Fa0,Fa1,Fa2,Fa3⟩:=b_ Ba
 obtain ⟨Cq0,Cq1,Fq0,Fq1⟩:=c_ Bq
 obtain ⟨Cp0,Cp1,Fp0,Fp1⟩:=c_ Bp
 obtain ⟨Ck0,Fk0⟩:=j_ Bk
 have gbw3:=(l_ (wg_ w3 (.cells #[.slice se le ce] 34) none) (.cells #[.slice sf lf cf] 34))
 have Be:=a_ (wg_ _ (.cells #[.slice sf lf cf] 34) none) (f_ w3 (.cells #[.slice se le ce] 34) (w3.heap.size) rfl)
 have Bf:=(f_ (w3.alloc (.cells #[.slice se le ce] 34)) (.cells #[.slice sf lf cf] 34) (w3.heap.size + 1) (by simp))
 have hzw3 : Hid (w.heap.size ≤ w3.heap.size):=H_ hG.size
 have hlaw3 : Hid (w.heap.size < w3.heap.size):=H_ (Array.getElem?_eq_some_iff.1 Ba).1
 have hlqw3 : Hid (w.heap.size + 1 < w3.heap.size):=H_ (Array.getElem?_eq_some_iff.1 Bq).1
 have hlpw3 : Hid (w.heap.size + 1 + 1 < w3.heap.size):=H_ (Array.getElem?_eq_some_iff.1 Bp).1
 have hlkw3 : Hid (aw1 < w3.heap.size):=H_ (Array.getElem?_eq_some_iff.1 Bk).1
 clear Ca0 Fa0 Ca1 Fa1 Ca2 Fa2 Ca3 Fa3 Cq0 Fq0 Cq1 Fq1 Cp0 Fp0 Cp1 Fp1 Ck0 Fk0
 replace Ba:=a_ gbw3 Ba
 replace Bq:=a_ gbw3 Bq
 replace Bp:=a_ gbw3 Bp
 replace Bk:=a_ gbw3 Bk
 replace ma2:=ma2.kept gbw3
 replace mk:=mk.kept gbw3
 replace me:=me.kept gbw3
 replace hG:=d_ hG gbw3
 clear gbw3
 obtain ⟨Ca0,Ca1,Ca2,Ca3,Fa0,Fa1,Fa2,Fa3⟩:=b_ Ba
 obtain ⟨Cq0,Cq1,Fq0,Fq1⟩:=c_ Bq
 obtain ⟨Cp0,Cp1,Fp0,Fp1⟩:=c_ Bp
 obtain ⟨Ck0,Fk0⟩:=j_ Bk
 obtain ⟨Ce0,Fe0⟩:=j_ Be
 obtain ⟨Cf0,Ff0⟩:=j_ Bf
 go_wp2_with fail
 generalize ((w3.alloc (.cells #[.slice se le ce] 34)).alloc (.cells #[.slice sf lf cf] 34)) = w4 at *
 generalize w3.heap.size = aw3 at *
 replace hzw3:=hzw3.out
 replace hlaw3:=hlaw3.out
 replace hlqw3:=hlqw3.out
 replace hlpw3:=hlpw3.out
 replace hlkw3:=hlkw3.out
 clear Ca0 Fa0 Ca1 Fa1 Ca2 Fa2 Ca3 Fa3 Cq0 Fq0 Cq1 Fq1 Cp0 Fp0 Cp1 Fp1 Ck0 Fk0 Ce0 Fe0 Cf0 Ff0
 refine (cl_ w4 _ _ da.natAbs G9 ma2 mk HN4.out.2 HL.out.2.2.2.2 HL.out.2.2.2.1).mono ?_
 rintro e w5 ⟨_,_,rfl,⟨sh,lh,ch,yh,rfl,hh⟩,⟨si,li,ci,yi,rfl,hi⟩,gw5⟩
 rw [← HL.out.2.1] at hh
 have mh : RefV w5 (.agg #[.slice sh lh ch]) (((r.den : Nat) : Int).natAbs):=⟨sh,lh,ch,yh,rfl,hh⟩
 have mi : RefV w5 (.agg #[.slice si li ci]) (da.natAbs % G9):=⟨si,li,ci,yi,rfl,hi⟩
 replace Ba:=a_ gw5 Ba
 replace Bq:=a_ gw5 Bq
 replace Bp:=a_ gw5 Bp
 replace Bk:=a_ gw5 Bk
 replace Be:=a_ gw5 Be
 replace Bf:=a_ gw5 Bf
 replace me:=me.kept gw5
 replace hG:=d_ hG gw5
 clear gw5
 clear hh
 clear hi
 obtain ⟨Ca0,Ca1,Ca2,Ca3,Fa0,Fa1,Fa2,Fa3⟩:=b_ Ba
 obtain ⟨Cq0,Cq1,Fq0,Fq1⟩:=c_ Bq
 obtain ⟨Cp0,Cp1,Fp0,Fp1⟩:=c_ Bp
 obtain ⟨Ck0,Fk0⟩:=j_ Bk
 obtain ⟨Ce0,Fe0⟩:=j_ Be
 obtain ⟨Cf0,Ff0⟩:=j_ Bf
 have gbw5:=(l_ (wg_ w5 (.cells #[.slice sh lh ch] 34) none) (.cells #[.slice si li ci] 34))
 have Bh:=a_ (wg_ _ (.cells #[.slice si li ci] 34) none) (f_ w5 (.cells #[.slice sh lh ch] 34) (w5.heap.size) rfl)
 have Bi:=(f_ (w5.alloc (.cells #[.slice sh lh ch] 34)) (.cells #[.slice si li ci] 34) (w5.heap.size + 1) (by simp))
 have hzw5 : Hid (w.heap.size ≤ w5.heap.size):=H_ hG.size
 have hlaw5 : Hid (w.heap.size < w5.heap.size):=H_ (Array.getElem?_eq_some_iff.1 Ba).1
 have hlqw5 : Hid (w.heap.size + 1 < w5.heap.size):=H_ (Array.getElem?_eq_some_iff.1 Bq).1
 have hlpw5 : Hid (w.heap.size + 1 + 1 < w5.heap.size):=H_ (Array.getElem?_eq_some_iff.1 Bp).1
 have hlkw5 : Hid (aw1 < w5.heap.size):=H_ (Array.getElem?_eq_some_iff.1 Bk).1
 have hlew5 : Hid (aw3 < w5.heap.size):=H_ (Array.getElem?_eq_some_iff.1 Be).1
 have hlfw5 : Hid (aw3 + 1 < w5.heap.size):=H_ (Array.getElem?_eq_some_iff.1 Bf).1
 clear Ca0 Fa0 Ca1 Fa1 Ca2 Fa2 Ca3 Fa3 Cq0 Fq0 Cq1 Fq1 Cp0 Fp0 Cp1 Fp1 Ck0 Fk0 Ce0 Fe0 Cf0 Ff0
 replace Ba:=a_ gbw5 Ba
 replace Bq:=a_ gbw5 Bq
 replace Bp:=a_ gbw5 Bp
 replace Bk:=a_ gbw5 Bk
 replace Be:=a_ gbw5 Be
 replace Bf:=a_ gbw5 Bf
 replace me:=me.kept gbw5
 replace mh:=mh.kept gbw5
 replace hG:=d_ hG gbw5
 clear gbw5
 obtain ⟨Ca0,Ca1,Ca2,Ca3,Fa0,Fa1,Fa2,Fa3⟩:=b_ Ba
 obtain ⟨Cq0,Cq1,Fq0,Fq1⟩:=c_ Bq
 obtain ⟨Cp0,Cp1,Fp0,Fp1⟩:=c_ Bp
 obtain ⟨Ck0,Fk0⟩:=j_ Bk
 obtain ⟨Ce0,Fe0⟩:=j_ Be
 obtain ⟨Cf0,Ff0⟩:=j_ Bf
 obtain ⟨Ch0,Fh0⟩:=j_ Bh
 obtain ⟨Ci0,Fi0⟩:=j_ Bi
 go_wp2_with fail
 generalize ((w5.alloc (.cells #[.slice sh lh ch] 34)).alloc (.cells #[.slice si li ci] 34)) = w6 at *
 generalize w5.heap.size = aw5 at *
 replace hzw5:=hzw5.out
 replace hlaw5:=hlaw5.out
 replace hlqw5:=hlqw5.out
 replace hlpw5:=hlpw5.out
 replace hlkw5:=hlkw5.out
 replace hlew5:=hlew5.out
 replace hlfw5:=hlfw5.out
 go_region_held3 (fun w'=>w'.cell? ⟨w.heap.size,0,none⟩ = some (.int .i64 ga) ∧ w'.cell? ⟨w.heap.size,1,none⟩ = some (.slice sa la ca) ∧ w'.cell? ⟨w.heap.size,2,none⟩ = some (.int .i64 ga') ∧ w'.cell? ⟨w.heap.size,3,none⟩ = some (.slice sa' la' ca') ∧ w'.cell? ⟨aw3,0,none⟩ = some (.slice se le ce) ∧ w'.cell? ⟨aw5,0,none⟩ = some (.slice sh lh ch))
  (first | assumption | exact ⟨Ca0,Ca1,Ca2,Ca3,Ce0,Ch0⟩ | exact HSw7_20 | exact HSw7_21 | go_keep)
  (first
    | (go_at_call 57; (with_reducible refine (K_ w6.drew _ ga r.num.natAbs r.num (me.kept (k_ (h_ _ _))) rfl (Or.inr HL.out.2.2.1)).mono ?_); rintro e w7_1 ⟨_,rfl,⟨gt,st,lt,ct,rfl,ht,mt⟩,gw7_1⟩; have hGw7_1:=o_ w6 gw7_1 rfl rfl rfl rfl; have rt : RIntV w7_1 (.agg #[.int .i64 gt,.slice st lt ct]) (r.num):=⟨gt,st,lt,ct,rfl,ht,mt⟩; have hSw7_1:=(n_ (hGw7_1.cell Ca0 (by simp)) (n_ (hGw7_1.cell Ca1 (by simp)) (n_ (hGw7_1.cell Ca2 (by simp)) (n_ (hGw7_1.cell Ca3 (by simp)) (n_ (hGw7_1.cell Ce0 (by simp)) (hGw7_1.cell Ch0 (by simp))))))); clear gw7_1; clear mt)
    | (go_at_call 57; (with_reducible refine (K_ w7_1 _ 1 ((r.den : Nat) : Int).natAbs ((r.den : Nat) : Int) (mh.kept hGw7_1) rfl (Or.inr HSD.out)).mono ?_); rintro e w7_2 ⟨_,rfl,⟨gu9,su9,lu9,cu9,rfl,hu9,mu9⟩,gw7_2⟩; have hGw7_2:=d_ hGw7_1 gw7_2; replace rt:=rt.kept gw7_2; have ru9 : RIntV w7_2 (.agg #[.int .i64 gu9,.slice su9 lu9 cu9]) (((r.den : Nat) : Int)):=⟨gu9,su9,lu9,cu9,rfl,hu9,mu9⟩; have hSw7_2:=(n_ (hGw7_2.cell Ca0 (by simp)) (n_ (hGw7_2.cell Ca1 (by simp)) (n_ (hGw7_2.cell Ca2 (by simp)) (n_ (hGw7_2.cell Ca3 (by simp)) (n_ (hGw7_2.cell Ce0 (by simp)) (hGw7_2.cell Ch0 (by simp))))))); clear gw7_2; clear mu9; (obtain ⟨dq0,dq1,dq2,dq3⟩:=c_ (a_ hGw7_2 Bq)); have HSw7_20:=(n_ ((b_ (e_ (a_ hGw7_2 Ba) (show w.heap.size ≠ w.heap.size + 1 by omega) (.int .i64 gt) (.slice st lt ct))).1) (n_ ((b_ (e_ (a_ hGw7_2 Ba) (show w.heap.size ≠ w.heap.size + 1 by omega) (.int .i64 gt) (.slice st lt ct))).2.1) (n_ ((b_ (e_ (a_ hGw7_2 Ba) (show w.heap.size ≠ w.heap.size + 1 by omega) (.int .i64 gt) (.slice st lt ct))).2.2.1) (n_ ((b_ (e_ (a_ hGw7_2 Ba) (show w.heap.size ≠ w.heap.size + 1 by omega) (.int .i64 gt) (.slice st lt ct))).2.2.2.1) (n_ ((j_ (e_ (a_ hGw7_2 Be) (show aw3 ≠ w.heap.size + 1 by omega) (.int .i64 gt) (.slice st lt ct))).1) ((j_ (e_ (a_ hGw7_2 Bh) (show aw5 ≠ w.heap.size + 1 by omega) (.int .i64 gt) (.slice st lt ct))).1)))))); (obtain ⟨dp0,dp1,dp2,dp3⟩:=c_ (e_ (a_ hGw7_2 Bp) (show w.heap.size + 1 + 1 ≠ w.heap.size + 1 by omega) (.int .i64 gt) (.slice st lt ct))); have HSw7_21:=(n_ ((b_ (e_ (e_ (a_ hGw7_2 Ba) (show w.heap.size ≠ w.heap.size + 1 by omega) (.int .i64 gt) (.slice st lt ct)) (show w.heap.size ≠ w.heap.size + 1 + 1 by omega) (.int .i64 gu9) (.slice su9 lu9 cu9))).1) (n_ ((b_ (e_ (e_ (a_ hGw7_2 Ba) (show w.heap.size ≠ w.heap.size + 1 by omega) (.int .i64 gt) (.slice st lt ct)) (show w.heap.size ≠ w.heap.size + 1 + 1 by omega) (.int .i64 gu9) (.slice su9 lu9 cu9))).2.1) (n_ ((b_ (e_ (e_ (a_ hGw7_2 Ba) (show w.heap.size ≠ w.heap.size + 1 by omega) (.int .i64 gt) (.slice st lt ct)) (show w.heap.size ≠ w.heap.size + 1 + 1 by omega) (.int .i64 gu9) (.slice su9 lu9 cu9))).2.2.1) (n_ ((b_ (e_ (e_ (a_ hGw7_2 Ba) (show w.heap.size ≠ w.heap.size + 1 by omega) (.int .i64 gt) (.slice st lt ct)) (show w.heap.size ≠ w.heap.size + 1 + 1 by omega) (.int .i64 gu9) (.slice su9 lu9 cu9))).2.2.2.1) (n_ ((j_ (e_ (e_ (a_ hGw7_2 Be) (show aw3 ≠ w.heap.size + 1 by omega) (.int .i64 gt) (.slice st lt ct)) (show aw3 ≠ w.heap.size + 1 + 1 by omega) (.int .i64 gu9) (.slice su9 lu9 cu9))).1) ((j_ (e_ (e_ (a_ hGw7_2 Bh) (show aw5 ≠ w.heap.size + 1 by omega) (.int .i64 gt) (.slice st lt ct)) (show aw5 ≠ w.heap.size + 1 + 1 by omega) (.int .i64 gu9) (.slice su9 lu9 cu9))).1))))))))
 replace Bq:=a_ hGw7_2 Bq
 replace Bp:=a_ hGw7_2 Bp
 replace hG:=d_ hG hGw7_2
 clear Ca0 Fa0 Ca1 Fa1 Ca2 Fa2 Ca3 Fa3 Cq0 Fq0 Cq1 Fq1 Cp0 Fp0 Cp1 Fp1 Ck0 Fk0 Ce0 Fe0 Cf0 Ff0 Ch0 Fh0 Ci0 Fi0
 have hF : Hid (bR_ w r.num ((r.den : Nat) : Int) _ _):=cO_ hG Bq (show w7_2.heap[w.heap.size + 1 + 1]? = _ from Bp) (by omega) rt ru9
 obtain ⟨o0,o1,_,_⟩:=c_ (e_ (m_ Bq (.int .i64 gt) (.slice st lt ct)) (show w.heap.size + 1 ≠ w.heap.size + 1 + 1 by omega) (.int .i64 gu9) (.slice su9 lu9 cu9))
 obtain ⟨o2,o3,_,_⟩:=c_ (m_ (e_ Bp (show w.heap.size + 1 + 1 ≠ w.heap.size + 1 by omega) (.int .i64 gt) (.slice st lt ct)) (.int .i64 gu9) (.slice su9 lu9 cu9))
 clear ya ra ra' ma ma2 mk me mf mh mi rt ru9
 go_wp2_with fail
 exact bodyPost_ret (v:=.tuple #[.agg #[.int .i64 gt,.slice st lt ct],.agg #[.int .i64 gu9,.slice su9 lu9 cu9]]) (by simp [results,Tryz.results15,go_sem,o0,o1,o2,o3]) rfl hF.out
set_option maxHeartbeats 16000000 in
theorem hB_ (w : World) (va : Value) (r : Rat) (E : Nat) (Ha : RQ w va r E) (hE : 1 ≤ E ∧ E ≤ 200000) :
    Calls Tryz.prog 61 #[va] w (hj_ w r):=by
 have HE : Hid (1 ≤ E ∧ E ≤ 200000):=hE
 have hE2:=hE.2
 clear hE
 obtain ⟨n0,d0,hnd⟩ : ∃ n d : Int,0 < d ∧ Rat.divInt n d = r ∧ n.natAbs < D ^ E ∧ d.natAbs < D ^ E:=by
  obtain ⟨_,_,_,_,_,_,_,_,n,d,_,_,_,h⟩:=Ha
  exact ⟨n,d,h.out⟩
 have HB : Hid (r.num.natAbs < D ^ E ∧ ((r.den : Nat) : Int).natAbs < D ^ E ∧ r.num.natAbs < D ^ 1000000 ∧ ((r.den : Nat) : Int).natAbs < D ^ 1000000 ∧ 1 ≤ E):=⟨kx_ hnd.1 hnd.2.1 hnd.2.2.1,kz_ hnd.1 hnd.2.1 hnd.2.2.2,dp6 (kx_ hnd.1 hnd.2.1 hnd.2.2.1) (by omega),dp6 (kz_ hnd.1 hnd.2.1 hnd.2.2.2) (by omega),HE.out.1⟩
 have HL1 : Hid ((1 : Int).natAbs < D ^ 1000000):=H_ (jZ_ (show 1 < B by unfold B; omega))
 clear hnd
 have hc : (bt_ (r.den : Int) 1 = 0 ∧ Hid (r.den = 1)) ∨ (bt_ (r.den : Int) 1 = 1 ∧ Hid (r.den ≠ 1)):=by
  have hp:=r.den_pos
  by_cases h : r.den = 1
  · left; exact ⟨by rw [h]; rfl,h⟩
  · right; exact ⟨by unfold bt_; rw [if_neg (by omega),if_neg (by omega)],h⟩
 rcases hc with ⟨hc,H1⟩ | ⟨hc,H1⟩
 · skip
   have HC:=H_ hc
   clear hc
   obtain ⟨ga,sa,la,ca,ga',sa',la',ca',na,da,rfl,ha,ha',ua⟩:=Ha
   obtain ⟨hG,Ba⟩:=en1_ w (.cells #[.int .i64 ga,.slice sa la ca,.int .i64 ga',.slice sa' la' ca'] 38)
   have oa : RQ w (.agg #[.int .i64 ga,.slice sa la ca,.int .i64 ga',.slice sa' la' ca']) r E:=⟨ga,sa,la,ca,ga',sa',la',ca',na,da,rfl,ha,ha',ua⟩
   have ya:=oa.kept hG
   clear ha ha'
   go_enter Tryz.func61,Tryz.ntmps61
   obtain ⟨Ca0,Ca1,Ca2,Ca3,Fa0,Fa1,Fa2,Fa3⟩:=b_ Ba
   go_wp2_with fail
   generalize (w.alloc (.cells #[.int .i64 ga,.slice sa la ca,.int .i64 ga',.slice sa' la' ca'] 38)) = w0 at *
   clear Ca0 Fa0 Ca1 Fa1 Ca2 Fa2 Ca3 Fa3
   refine (cQ_ w0 _ r E ya HE.out).mono ?_
   rintro e t1w1 ⟨_,_,rfl,⟨gd,sd,ld,cd,rfl,hd,md⟩,⟨ge,se,le,ce,rfl,he,me⟩,gt1w1⟩
   have rd : RIntV t1w1 (.agg #[.int .i64 gd,.slice sd ld cd]) (r.num):=⟨gd,sd,ld,cd,rfl,hd,md⟩
   have re : RIntV t1w1 (.agg #[.int .i64 ge,.slice se le ce]) ((r.den : Int)):=⟨ge,se,le,ce,rfl,he,me⟩
   replace Ba:=a_ gt1w1 Ba
   replace hG:=d_ hG gt1w1
   clear gt1w1
   clear md
   clear me
   obtain ⟨Ca0,Ca1,Ca2,Ca3,Fa0,Fa1,Fa2,Fa3⟩:=b_ Ba
   have gbt1w1:=(l_ (wg_ t1w1 (.cells #[.int .i64 gd,.slice sd ld cd] 36) none) (.cells #[.int .i64 ge,.slice se le ce] 36))
   have Bd:=a_ (wg_ _ (.cells #[.int .i64 ge,.slice se le ce] 36) none) (f_ t1w1 (.cells #[.int .i64 gd,.slice sd ld cd] 36) (t1w1.heap.size) rfl)
   have Be:=(f_ (t1w1.alloc (.cells #[.int .i64 gd,.slice sd ld cd] 36)) (.cells #[.int .i64 ge,.slice se le ce] 36) (t1w1.heap.size + 1) (by simp))
   have hzt1w1 : Hid (w.heap.size ≤ t1w1.heap.size):=H_ hG.size
   have hlat1w1 : Hid (w.heap.size < t1w1.heap.size):=H_ (Array.getElem?_eq_some_iff.1 Ba).1
   clear Ca0 Fa0 Ca1 Fa1 Ca2 Fa2 Ca3 Fa3
   replace Ba:=a_ gbt1w1 Ba
   replace rd:=rd.kept gbt1w1
   replace re:=re.kept gbt1w1
   replace hG:=d_ hG gbt1w1
   clear gbt1w1
   obtain ⟨Ca0,Ca1,Ca2,Ca3,Fa0,Fa1,Fa2,Fa3⟩:=b_ Ba
   obtain ⟨Cd0,Cd1,Fd0,Fd1⟩:=c_ Bd
   obtain ⟨Ce0,Ce1,Fe0,Fe1⟩:=c_ Be
   go_wp2_with fail
   generalize ((t1w1.alloc (.cells #[.int .i64 gd,.slice sd ld cd] 36)).alloc (.cells #[.int .i64 ge,.slice se le ce] 36)) = t1w2 at *
   generalize t1w1.heap.size = at1w1 at *
   replace hzt1w1:=hzt1w1.out
   replace hlat1w1:=hlat1w1.out
   clear Ca0 Fa0 Ca1 Fa1 Ca2 Fa2 Ca3 Fa3 Cd0 Fd0 Cd1 Fd1 Ce0 Fe0 Ce1 Fe1
   refine (aD_ t1w2 _ r.num rd HB.out.2.2.1).mono ?_
   rintro e t1w3 ⟨s,rfl,hs,gt1w3⟩
   have HS:=H_ hs
   have hz:=dd_ hs HB.out.1 HB.out.2.2.2.2
   clear hs
   replace Ba:=a_ gt1w3 Ba
   replace Bd:=a_ gt1w3 Bd
   replace Be:=a_ gt1w3 Be
   replace re:=re.kept gt1w3
   replace hG:=d_ hG gt1w3
   clear gt1w3
   obtain ⟨Ca0,Ca1,Ca2,Ca3,Fa0,Fa1,Fa2,Fa3⟩:=b_ Ba
   obtain ⟨Cd0,Cd1,Fd0,Fd1⟩:=c_ Bd
   obtain ⟨Ce0,Ce1,Fe0,Fe1⟩:=c_ Be
   go_wp2_with fail
   go_region_held3 (fun w'=>w'.cell? ⟨at1w1 + 1,0,none⟩ = some (.int .i64 ge) ∧ w'.cell? ⟨at1w1 + 1,1,none⟩ = some (.slice se le ce))
    (first | assumption | exact ⟨Ce0,Ce1⟩ | go_keep)
    (first
      | (go_at_call 27; (with_reducible refine (aq_ t1w3.drew 1 (by omega) (by omega)).mono ?_); rintro e t1w4_1 ⟨v1,rfl,k1,gt1w4_1⟩; have hGt1w4_1:=o_ t1w3 gt1w4_1 rfl rfl rfl rfl; have hSt1w4_1:=(n_ (hGt1w4_1.cell Ce0 (by simp)) (hGt1w4_1.cell Ce1 (by simp))); clear gt1w4_1)
      | (go_at_call 80; (with_reducible refine (bW_ t1w4_1 _ _ (r.den : Int) 1 (re.kept hGt1w4_1) k1 HB.out.2.2.2.1 HL1.out).mono ?_); rintro e t1w4_2 ⟨rfl,gt1w4_2⟩; rw [HC.out]; have hGt1w4_2:=d_ hGt1w4_1 gt1w4_2; replace k1:=k1.kept gt1w4_2; have hSt1w4_2:=(n_ (hGt1w4_2.cell Ce0 (by simp)) (hGt1w4_2.cell Ce1 (by simp))); clear gt1w4_2))
   replace Ba:=a_ hGt1w4_2 Ba
   replace Bd:=a_ hGt1w4_2 Bd
   replace Be:=a_ hGt1w4_2 Be
   replace hG:=d_ hG hGt1w4_2
   clear Ca0 Fa0 Ca1 Fa1 Ca2 Fa2 Ca3 Fa3 Cd0 Fd0 Cd1 Fd1 Ce0 Fe0 Ce1 Fe1
   obtain ⟨Ca0,Ca1,Ca2,Ca3,Fa0,Fa1,Fa2,Fa3⟩:=b_ Ba
   obtain ⟨Cd0,Cd1,Fd0,Fd1⟩:=c_ Bd
   obtain ⟨Ce0,Ce1,Fe0,Fe1⟩:=c_ Be
   go_wp2_with fail
   go_ret
   exact ⟨_,rfl,Or.inl ⟨H1.out,HS.out⟩,hG⟩
 · skip
   have HC:=H_ hc
   clear hc
   obtain ⟨ga,sa,la,ca,ga',sa',la',ca',na,da,rfl,ha,ha',ua⟩:=Ha
   obtain ⟨hG,Ba⟩:=en1_ w (.cells #[.int .i64 ga,.slice sa la ca,.int .i64 ga',.slice sa' la' ca'] 38)
   have oa : RQ w (.agg #[.int .i64 ga,.slice sa la ca,.int .i64 ga',.slice sa' la' ca']) r E:=⟨ga,sa,la,ca,ga',sa',la',ca',na,da,rfl,ha,ha',ua⟩
   have ya:=oa.kept hG
   clear ha ha'
   go_enter Tryz.func61,Tryz.ntmps61
   obtain ⟨Ca0,Ca1,Ca2,Ca3,Fa0,Fa1,Fa2,Fa3⟩:=b_ Ba
   go_wp2_with fail
   generalize (w.alloc (.cells #[.int .i64 ga,.slice sa la ca,.int .i64 ga',.slice sa' la' ca'] 38)) = w0 at *
   clear Ca0 Fa0 Ca1 Fa1 Ca2 Fa2 Ca3 Fa3
   refine (cQ_ w0 _ r E ya HE.out).mono ?_
   rintro e t0w1 ⟨_,_,rfl,⟨gd,sd,ld,cd,rfl,hd,md⟩,⟨ge,se,le,ce,rfl,he,me⟩,gt0w1⟩
   have rd : RIntV t0w1 (.agg #[.int .i64 gd,.slice sd ld cd]) (r.num):=⟨gd,sd,ld,cd,rfl,hd,md⟩
   have re : RIntV t0w1 (.agg #[.int .i64 ge,.slice se le ce]) ((r.den : Int)):=⟨ge,se,le,ce,rfl,he,me⟩
   replace Ba:=a_ gt0w1 Ba
   replace hG:=d_ hG gt0w1
   clear gt0w1
   clear md
   clear me
   obtain ⟨Ca0,Ca1,Ca2,Ca3,Fa0,Fa1,Fa2,Fa3⟩:=b_ Ba
   have gbt0w1:=(l_ (wg_ t0w1 (.cells #[.int .i64 gd,.slice sd ld cd] 36) none) (.cells #[.int .i64 ge,.slice se le ce] 36))
   have Bd:=a_ (wg_ _ (.cells #[.int .i64 ge,.slice se le ce] 36) none) (f_ t0w1 (.cells #[.int .i64 gd,.slice sd ld cd] 36) (t0w1.heap.size) rfl)
   have Be:=(f_ (t0w1.alloc (.cells #[.int .i64 gd,.slice sd ld cd] 36)) (.cells #[.int .i64 ge,.slice se le ce] 36) (t0w1.heap.size + 1) (by simp))
   have hzt0w1 : Hid (w.heap.size ≤ t0w1.heap.size):=H_ hG.size
   have hlat0w1 : Hid (w.heap.size < t0w1.heap.size):=H_ (Array.getElem?_eq_some_iff.1 Ba).1
   clear Ca0 Fa0 Ca1 Fa1 Ca2 Fa2 Ca3 Fa3
   replace Ba:=a_ gbt0w1 Ba
   replace rd:=rd.kept gbt0w1
   replace re:=re.kept gbt0w1
   replace hG:=d_ hG gbt0w1
   clear gbt0w1
   obtain ⟨Ca0,Ca1,Ca2,Ca3,Fa0,Fa1,Fa2,Fa3⟩:=b_ Ba
   obtain ⟨Cd0,Cd1,Fd0,Fd1⟩:=c_ Bd
   obtain ⟨Ce0,Ce1,Fe0,Fe1⟩:=c_ Be
   go_wp2_with fail
   generalize ((t0w1.alloc (.cells #[.int .i64 gd,.slice sd ld cd] 36)).alloc (.cells #[.int .i64 ge,.slice se le ce] 36)) = t0w2 at *
   generalize t0w1.heap.size = at0w1 at *
   replace hzt0w1:=hzt0w1.out
   replace hlat0w1:=hlat0w1.out
   clear Ca0 Fa0 Ca1 Fa1 Ca2 Fa2 Ca3 Fa3 Cd0 Fd0 Cd1 Fd1 Ce0 Fe0 Ce1 Fe1
   refine (aD_ t0w2 _ r.num rd HB.out.2.2.1).mono ?_
   rintro e t0w3 ⟨s,rfl,hs,gt0w3⟩
   have HS:=H_ hs
   have hz:=dd_ hs HB.out.1 HB.out.2.2.2.2
   clear hs
   replace Ba:=a_ gt0w3 Ba
   replace Bd:=a_ gt0w3 Bd
   replace Be:=a_ gt0w3 Be
   replace re:=re.kept gt0w3
   replace hG:=d_ hG gt0w3
   clear gt0w3
   obtain ⟨Ca0,Ca1,Ca2,Ca3,Fa0,Fa1,Fa2,Fa3⟩:=b_ Ba
   obtain ⟨Cd0,Cd1,Fd0,Fd1⟩:=c_ Bd
   obtain ⟨Ce0,Ce1,Fe0,Fe1⟩:=c_ Be
   go_wp2_with fail
   go_region_held3 (fun w'=>w'.cell? ⟨at0w1 + 1,0,none⟩ = some (.int .i64 ge) ∧ w'.cell? ⟨at0w1 + 1,1,none⟩ = some (.slice se le ce))
    (first | assumption | exact ⟨Ce0,Ce1⟩ | go_keep)
    (first
      | (go_at_call 27; (with_reducible refine (aq_ t0w3.drew 1 (by omega) (by omega)).mono ?_); rintro e t0w4_1 ⟨v1,rfl,k1,gt0w4_1⟩; have hGt0w4_1:=o_ t0w3 gt0w4_1 rfl rfl rfl rfl; have hSt0w4_1:=(n_ (hGt0w4_1.cell Ce0 (by simp)) (hGt0w4_1.cell Ce1 (by simp))); clear gt0w4_1)
      | (go_at_call 80; (with_reducible refine (bW_ t0w4_1 _ _ (r.den : Int) 1 (re.kept hGt0w4_1) k1 HB.out.2.2.2.1 HL1.out).mono ?_); rintro e t0w4_2 ⟨rfl,gt0w4_2⟩; rw [HC.out]; have hGt0w4_2:=d_ hGt0w4_1 gt0w4_2; replace k1:=k1.kept gt0w4_2; have hSt0w4_2:=(n_ (hGt0w4_2.cell Ce0 (by simp)) (hGt0w4_2.cell Ce1 (by simp))); clear gt0w4_2))
   replace Ba:=a_ hGt0w4_2 Ba
   replace Bd:=a_ hGt0w4_2 Bd
   replace Be:=a_ hGt0w4_2 Be
   replace re:=re.kept hGt0w4_2
   replace hG:=d_ hG hGt0w4_2
   clear Ca0 Fa0 Ca1 Fa1 Ca2 Fa2 Ca3 Fa3 Cd0 Fd0 Cd1 Fd1 Ce0 Fe0 Ce1 Fe1
   obtain ⟨Ca0,Ca1,Ca2,Ca3,Fa0,Fa1,Fa2,Fa3⟩:=b_ Ba
   obtain ⟨Cd0,Cd1,Fd0,Fd1⟩:=c_ Bd
   obtain ⟨Ce0,Ce1,Fe0,Fe1⟩:=c_ Be
   go_wp2_with fail
   clear Ca0 Fa0 Ca1 Fa1 Ca2 Fa2 Ca3 Fa3 Cd0 Fd0 Cd1 Fd1 Ce0 Fe0 Ce1 Fe1
   refine (aD_ t0w4_2 _ (r.den : Int) re HB.out.2.2.2.1).mono ?_
   rintro e t0w5 ⟨t,rfl,ht,gt0w5⟩
   have HT:=H_ ht
   have hy:=dd_ ht HB.out.2.1 HB.out.2.2.2.2
   have hxx : (({ data:=#[47] } : ByteArray).size) = 1:=rfl
   clear ht
   replace Ba:=a_ gt0w5 Ba
   replace Bd:=a_ gt0w5 Bd
   replace Be:=a_ gt0w5 Be
   replace hG:=d_ hG gt0w5
   clear gt0w5
   obtain ⟨Ca0,Ca1,Ca2,Ca3,Fa0,Fa1,Fa2,Fa3⟩:=b_ Ba
   obtain ⟨Cd0,Cd1,Fd0,Fd1⟩:=c_ Bd
   obtain ⟨Ce0,Ce1,Fe0,Fe1⟩:=c_ Be
   go_wp2_with fail
   go_ret
   exact ⟨_,rfl,Or.inr ⟨H1.out,_,_,HS.out,HT.out,by first | rfl | simp⟩,hG⟩
end Go.Proofs.YtgbbdgioohaknaaGreatDoor
