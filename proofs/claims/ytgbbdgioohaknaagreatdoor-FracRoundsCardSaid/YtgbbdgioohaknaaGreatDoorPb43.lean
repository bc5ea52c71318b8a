/- What the laws lean on, part 43. -/
import Derived.Deep.RegionHeld3
import Derived.Test.YtgbbdgioohaknaaGreatDoorPb23
import Derived.Test.YtgbbdgioohaknaaGreatDoorPb24
import Derived.Test.YtgbbdgioohaknaaGreatDoorPb25
import Derived.Test.YtgbbdgioohaknaaGreatDoorPb39
namespace Go.Proofs.YtgbbdgioohaknaaGreatDoor
open Go.RowKit Mat
set_option maxRecDepth 100000
set_option linter.unusedVariables false
set_option linter.unusedSimpArgs false
theorem dy_ {n d : Int} (hd : 0 < d) : (Rat.divInt n d).floor = n / d:=by
 have h0 : d ≠ 0:=by omega
 obtain ⟨r,hr⟩ : ∃ r,Rat.divInt n d = r:=⟨_,rfl⟩
 have hp:=r.den_pos
 have h:=(Rat.divInt_eq_divInt_iff h0 (show ((r.den : Nat) : Int) ≠ 0 by omega)).1 (hr.trans (bk_ r).symm)
 rw [hr,Rat.floor_def,← Int.mul_ediv_mul_of_pos_left n d (show (0 : Int) < (r.den : Int) by omega),h,Int.mul_comm d,Int.mul_ediv_mul_of_pos_left _ _ hd]
theorem lI_ {a : Nat} (h : a < D ^ 400000) : a < D ^ 1000000:=by
 obtain ⟨E,hE⟩ : ∃ E,E = 1000000:=⟨_,rfl⟩
 obtain ⟨M,hM⟩ : ∃ M,M = 400000:=⟨_,rfl⟩
 rw [← hE]; rw [← hM] at h
 exact Nat.lt_of_lt_of_le h (Nat.pow_le_pow_right bi_ (by omega))
theorem dn_ {x y : Int} (k r : Nat) (hr : r < y.natAbs) (h : (¬ x < 0 ∧ y.natAbs * k + r = x.natAbs) ∨ (x < 0 ∧ y.natAbs * k = x.natAbs + r)) :
    (x / y).natAbs = k ∧ (k = 0 ∨ (x / y).sign = (x * y).sign) ∧ (x % y) = (r : Int):=by
 have hf:=fT_ (x:=x) (y:=y) (za:=decide (x < 0)) (zb:=decide (y < 0)) (by simp) (by simp) k r hr h
 obtain ⟨e1,e2⟩:=hf
 refine ⟨?_,?_,e2.symm⟩
 · rw [← e1]; split <;> omega
 · rcases Nat.eq_zero_or_pos k with h0 | h0
   · exact Or.inl h0
   · right
     have hk : 0 < y.natAbs * k:=Nat.mul_pos (by omega) h0
     rw [← e1,Int.sign_mul]
     rcases bl_ x with ⟨h1,g1⟩ | ⟨h1,g1⟩ | ⟨h1,g1⟩
     · rcases bl_ y with ⟨h2,g2⟩ | ⟨h2,g2⟩ | ⟨h2,g2⟩
       · rw [g1,g2,decide_eq_true h1,decide_eq_true h2,if_neg (by decide)]; exact Int.sign_eq_one_of_pos (by omega)
       · omega
       · rw [g1,g2,decide_eq_true h1,decide_eq_false (by omega),if_pos (by decide)]; exact Int.sign_eq_neg_one_of_neg (by omega)
     · omega
     · rcases bl_ y with ⟨h2,g2⟩ | ⟨h2,g2⟩ | ⟨h2,g2⟩
       · rw [g1,g2,decide_eq_false (show ¬ x < 0 by omega),decide_eq_true h2,if_pos (by decide)]; exact Int.sign_eq_neg_one_of_neg (by omega)
       · omega
       · rw [g1,g2,decide_eq_false (show ¬ x < 0 by omega),decide_eq_false (show ¬ y < 0 by omega),if_neg (by decide)]; exact Int.sign_eq_one_of_pos (by omega)
set_option maxHeartbeats 16000000 in
theorem U_ (w : World) (va vb : Value) (x y : Int) (Ha : RIntV w va x) (Hb : RIntV w vb y) (h0 : y ≠ 0) (la' : x.natAbs < D ^ 400000) (lb' : y.natAbs < D ^ 400000) :
    Calls Tryz.prog 84 #[va,vb] w (bR_ w (x / y) (x % y)):=by
 have Hla:=H_ la'
 have Hlb:=H_ lb'
 obtain ⟨P,hP⟩ : ∃ P,(x * y).sign = P:=⟨_,rfl⟩
 have hC : 0 < y.natAbs:=by omega
 have hdm:=Nat.div_add_mod x.natAbs y.natAbs
 have hml:=Nat.mod_lt x.natAbs hC
 have HLQ : Hid (x.natAbs / y.natAbs < D ^ 1000000):=H_ (Nat.lt_of_le_of_lt (Nat.div_le_self x.natAbs y.natAbs) (lI_ la'))
 have HLB : Hid (y.natAbs < D ^ 1000000):=H_ (lI_ lb')
 have HL1 : Hid (1 < D ^ 1000000):=H_ (jZ_ (show 1 < B by unfold B; omega))
 clear la' lb'
 obtain ⟨q,hq⟩ : ∃ q,x.natAbs / y.natAbs = q:=⟨_,rfl⟩
 obtain ⟨r,hr⟩ : ∃ r,x.natAbs % y.natAbs = r:=⟨_,rfl⟩
 rw [hq] at hdm HLQ
 rw [hr] at hdm hml
 obtain ⟨X,hX⟩ : ∃ X,x / y = X:=⟨_,rfl⟩
 obtain ⟨Y,hY⟩ : ∃ Y,x % y = Y:=⟨_,rfl⟩
 have key : (¬ x < 0 ∧ Hid (X.natAbs = q ∧ (q = 0 ∨ X.sign = P) ∧ Y = (r : Int))) ∨ (x < 0 ∧ r = 0 ∧ Hid (X.natAbs = q ∧ (q = 0 ∨ X.sign = P) ∧ Y = (r : Int))) ∨ (x < 0 ∧ 0 < r ∧ Hid (X.natAbs = q + 1 ∧ (q + 1 = 0 ∨ X.sign = P) ∧ Y = ((y.natAbs - r : Nat) : Int))):=by
  rw [← hX,← hY,← hP]
  by_cases h : x < 0
  · right
    rcases Nat.eq_zero_or_pos r with h1 | h1
    · left; exact ⟨h,h1,dn_ q r hml (Or.inr ⟨h,by omega⟩)⟩
    · right; exact ⟨h,h1,dn_ (q + 1) (y.natAbs - r) (by omega) (Or.inr ⟨h,by rw [Nat.mul_succ]; omega⟩)⟩
  · left; exact ⟨h,dn_ q r hml (Or.inl ⟨h,hdm⟩)⟩
 have HQ:=H_ hq
 have HR:=H_ hr
 have HC:=H_ hC
 have HM:=H_ hml
 rw [hX,hY]
 have HPW : Hid (IntKind.i64.wrap (x.sign * y.sign) = P):=by
  show _ = _
  rw [← Int.sign_mul,hP,IntKind.wrap_i64]; have:=dR_ (x * y); rw [hP] at this; omega
 clear hq hr hC hdm hml hX hY hP h0
 obtain ⟨ga,sa,la,ca,rfl,ha,ma⟩:=Ha
 obtain ⟨gb,sb,lb,cb,rfl,hb,mb⟩:=Hb
 obtain ⟨hG,Ba,Bb,Bq,Br⟩:=en4_ w (.cells #[.int .i64 ga,.slice sa la ca] 36) (.cells #[.int .i64 gb,.slice sb lb cb] 36) (.cells #[.int .i64 0,.slice none 0 0] 36) (.cells #[.int .i64 0,.slice none 0 0] 36)
 have oa : RIntV w (.agg #[.int .i64 ga,.slice sa la ca]) (x):=⟨ga,sa,la,ca,rfl,ha,ma⟩
 have ra:=oa.kept hG
 have ma':=(show RefV w (.agg #[.slice sa la ca]) (x).natAbs from ma).kept hG
 have ob : RIntV w (.agg #[.int .i64 gb,.slice sb lb cb]) (y):=⟨gb,sb,lb,cb,rfl,hb,mb⟩
 have rb:=ob.kept hG
 have mb':=(show RefV w (.agg #[.slice sb lb cb]) (y).natAbs from mb).kept hG
 clear ma
 clear mb
 have hw : IntKind.i64.wrap (ga * gb) = P:=by rw [ha.out,hb.out]; exact HPW.out
 have hsx:=bl_ x
 rw [← ha.out] at hsx
 rcases key with ⟨hn,hz⟩ | ⟨hn,hr0,hz⟩ | ⟨hn,hr0,hz⟩
 · skip
   have f1 : decide (0 ≤ ga) = true:=decide_eq_true (by rcases hsx with ⟨h,e⟩ | ⟨h,e⟩ | ⟨h,e⟩ <;> omega)
   clear hsx hn
   go_enter Tryz.func84,Tryz.ntmps84
   obtain ⟨Ca0,Ca1,Fa0,Fa1⟩:=c_ Ba
   obtain ⟨Cb0,Cb1,Fb0,Fb1⟩:=c_ Bb
   obtain ⟨Cq0,Cq1,Fq0,Fq1⟩:=c_ Bq
   obtain ⟨Cr0,Cr1,Fr0,Fr1⟩:=c_ Br
   go_wp2_with fail
   generalize ((((w.alloc (.cells #[.int .i64 ga,.slice sa la ca] 36)).alloc (.cells #[.int .i64 gb,.slice sb lb cb] 36)).alloc (.cells #[.int .i64 0,.slice none 0 0] 36)).alloc (.cells #[.int .i64 0,.slice none 0 0] 36)) = w0 at *
   clear Ca0 Fa0 Ca1 Fa1 Cb0 Fb0 Cb1 Fb1 Cq0 Fq0 Cq1 Fq1 Cr0 Fr0 Cr1 Fr1
   refine (cl_ w0 _ _ x.natAbs y.natAbs ma' mb' Hla.out Hlb.out HC.out).mono ?_
   rw [HQ.out,HR.out]
   rintro e f0w1 ⟨_,_,rfl,⟨su,lu,cu,yu,rfl,hu⟩,⟨sv,lv,cv,yv,rfl,hv⟩,gf0w1⟩
   have mu : RefV f0w1 (.agg #[.slice su lu cu]) (q):=⟨su,lu,cu,yu,rfl,hu⟩
   have mv : RefV f0w1 (.agg #[.slice sv lv cv]) (r):=⟨sv,lv,cv,yv,rfl,hv⟩
   replace Ba:=a_ gf0w1 Ba
   replace Bb:=a_ gf0w1 Bb
   replace Bq:=a_ gf0w1 Bq
   replace Br:=a_ gf0w1 Br
   replace hG:=d_ hG gf0w1
   clear gf0w1
   clear hu
   clear hv
   obtain ⟨Ca0,Ca1,Fa0,Fa1⟩:=c_ Ba
   obtain ⟨Cb0,Cb1,Fb0,Fb1⟩:=c_ Bb
   obtain ⟨Cq0,Cq1,Fq0,Fq1⟩:=c_ Bq
   obtain ⟨Cr0,Cr1,Fr0,Fr1⟩:=c_ Br
   have gbf0w1:=(l_ (wg_ f0w1 (.cells #[.slice su lu cu] 34) none) (.cells #[.slice sv lv cv] 34))
   have Bu:=a_ (wg_ _ (.cells #[.slice sv lv cv] 34) none) (f_ f0w1 (.cells #[.slice su lu cu] 34) (f0w1.heap.size) rfl)
   have Bv:=(f_ (f0w1.alloc (.cells #[.slice su lu cu] 34)) (.cells #[.slice sv lv cv] 34) (f0w1.heap.size + 1) (by simp))
   have hzf0w1 : Hid (w.heap.size ≤ f0w1.heap.size):=H_ hG.size
   have hlaf0w1 : Hid (w.heap.size < f0w1.heap.size):=H_ (Array.getElem?_eq_some_iff.1 Ba).1
   have hlbf0w1 : Hid (w.heap.size + 1 < f0w1.heap.size):=H_ (Array.getElem?_eq_some_iff.1 Bb).1
   have hlqf0w1 : Hid (w.heap.size + 1 + 1 < f0w1.heap.size):=H_ (Array.getElem?_eq_some_iff.1 Bq).1
   have hlrf0w1 : Hid (w.heap.size + 1 + 1 + 1 < f0w1.heap.size):=H_ (Array.getElem?_eq_some_iff.1 Br).1
   clear Ca0 Fa0 Ca1 Fa1 Cb0 Fb0 Cb1 Fb1 Cq0 Fq0 Cq1 Fq1 Cr0 Fr0 Cr1 Fr1
   replace Ba:=a_ gbf0w1 Ba
   replace Bb:=a_ gbf0w1 Bb
   replace Bq:=a_ gbf0w1 Bq
   replace Br:=a_ gbf0w1 Br
   replace mu:=mu.kept gbf0w1
   replace mv:=mv.kept gbf0w1
   replace hG:=d_ hG gbf0w1
   clear gbf0w1
   obtain ⟨Ca0,Ca1,Fa0,Fa1⟩:=c_ Ba
   obtain ⟨Cb0,Cb1,Fb0,Fb1⟩:=c_ Bb
   obtain ⟨Cq0,Cq1,Fq0,Fq1⟩:=c_ Bq
   obtain ⟨Cr0,Cr1,Fr0,Fr1⟩:=c_ Br
   obtain ⟨Cu0,Fu0⟩:=j_ Bu
   obtain ⟨Cv0,Fv0⟩:=j_ Bv
   go_wp2_with fail
   generalize ((f0w1.alloc (.cells #[.slice su lu cu] 34)).alloc (.cells #[.slice sv lv cv] 34)) = f0w2 at *
   generalize f0w1.heap.size = af0w1 at *
   replace hzf0w1:=hzf0w1.out
   replace hlaf0w1:=hlaf0w1.out
   replace hlbf0w1:=hlbf0w1.out
   replace hlqf0w1:=hlqf0w1.out
   replace hlrf0w1:=hlrf0w1.out
   go_region_held3 (fun w'=>w'.cell? ⟨w.heap.size,0,none⟩ = some (.int .i64 ga) ∧ w'.cell? ⟨w.heap.size,1,none⟩ = some (.slice sa la ca) ∧ w'.cell? ⟨w.heap.size + 1,0,none⟩ = some (.int .i64 gb) ∧ w'.cell? ⟨w.heap.size + 1,1,none⟩ = some (.slice sb lb cb) ∧ w'.cell? ⟨af0w1,0,none⟩ = some (.slice su lu cu) ∧ w'.cell? ⟨af0w1 + 1,0,none⟩ = some (.slice sv lv cv))
    (first | assumption | exact ⟨Ca0,Ca1,Cb0,Cb1,Cu0,Cv0⟩ | exact HSf0w3_20 | exact HSf0w3_21 | go_keep)
    (first
      | (go_at_call 57; (with_reducible refine (K_ f0w2.drew _ P q X (mu.kept (k_ (h_ _ _))) hz.out.1 hz.out.2.1).mono ?_); rintro e f0w3_1 ⟨_,rfl,⟨gd,sd,ld,cd,rfl,hd,md⟩,gf0w3_1⟩; have hGf0w3_1:=o_ f0w2 gf0w3_1 rfl rfl rfl rfl; have rd : RIntV f0w3_1 (.agg #[.int .i64 gd,.slice sd ld cd]) (X):=⟨gd,sd,ld,cd,rfl,hd,md⟩; have hSf0w3_1:=(n_ (hGf0w3_1.cell Ca0 (by simp)) (n_ (hGf0w3_1.cell Ca1 (by simp)) (n_ (hGf0w3_1.cell Cb0 (by simp)) (n_ (hGf0w3_1.cell Cb1 (by simp)) (n_ (hGf0w3_1.cell Cu0 (by simp)) (hGf0w3_1.cell Cv0 (by simp))))))); clear gf0w3_1; clear md)
      | (go_at_call 57; (with_reducible refine (K_ f0w3_1 _ 1 r Y (mv.kept hGf0w3_1) (by rw [hz.out.2.2]; omega) (by rw [hz.out.2.2]; exact cL_ r)).mono ?_); rintro e f0w3_2 ⟨_,rfl,⟨gf,sf,lf,cf,rfl,hf,mf⟩,gf0w3_2⟩; have hGf0w3_2:=d_ hGf0w3_1 gf0w3_2; replace rd:=rd.kept gf0w3_2; have rf : RIntV f0w3_2 (.agg #[.int .i64 gf,.slice sf lf cf]) (Y):=⟨gf,sf,lf,cf,rfl,hf,mf⟩; have hSf0w3_2:=(n_ (hGf0w3_2.cell Ca0 (by simp)) (n_ (hGf0w3_2.cell Ca1 (by simp)) (n_ (hGf0w3_2.cell Cb0 (by simp)) (n_ (hGf0w3_2.cell Cb1 (by simp)) (n_ (hGf0w3_2.cell Cu0 (by simp)) (hGf0w3_2.cell Cv0 (by simp))))))); clear gf0w3_2; clear mf; (obtain ⟨dq0,dq1,dq2,dq3⟩:=c_ (a_ hGf0w3_2 Bq)); have HSf0w3_20:=(n_ ((c_ (e_ (a_ hGf0w3_2 Ba) (show w.heap.size ≠ w.heap.size + 1 + 1 by omega) (.int .i64 gd) (.slice sd ld cd))).1) (n_ ((c_ (e_ (a_ hGf0w3_2 Ba) (show w.heap.size ≠ w.heap.size + 1 + 1 by omega) (.int .i64 gd) (.slice sd ld cd))).2.1) (n_ ((c_ (e_ (a_ hGf0w3_2 Bb) (show w.heap.size + 1 ≠ w.heap.size + 1 + 1 by omega) (.int .i64 gd) (.slice sd ld cd))).1) (n_ ((c_ (e_ (a_ hGf0w3_2 Bb) (show w.heap.size + 1 ≠ w.heap.size + 1 + 1 by omega) (.int .i64 gd) (.slice sd ld cd))).2.1) (n_ ((j_ (e_ (a_ hGf0w3_2 Bu) (show af0w1 ≠ w.heap.size + 1 + 1 by omega) (.int .i64 gd) (.slice sd ld cd))).1) ((j_ (e_ (a_ hGf0w3_2 Bv) (show af0w1 + 1 ≠ w.heap.size + 1 + 1 by omega) (.int .i64 gd) (.slice sd ld cd))).1)))))); (obtain ⟨dr0,dr1,dr2,dr3⟩:=c_ (e_ (a_ hGf0w3_2 Br) (show w.heap.size + 1 + 1 + 1 ≠ w.heap.size + 1 + 1 by omega) (.int .i64 gd) (.slice sd ld cd))); have HSf0w3_21:=(n_ ((c_ (e_ (e_ (a_ hGf0w3_2 Ba) (show w.heap.size ≠ w.heap.size + 1 + 1 by omega) (.int .i64 gd) (.slice sd ld cd)) (show w.heap.size ≠ w.heap.size + 1 + 1 + 1 by omega) (.int .i64 gf) (.slice sf lf cf))).1) (n_ ((c_ (e_ (e_ (a_ hGf0w3_2 Ba) (show w.heap.size ≠ w.heap.size + 1 + 1 by omega) (.int .i64 gd) (.slice sd ld cd)) (show w.heap.size ≠ w.heap.size + 1 + 1 + 1 by omega) (.int .i64 gf) (.slice sf lf cf))).2.1) (n_ ((c_ (e_ (e_ (a_ hGf0w3_2 Bb) (show w.heap.size + 1 ≠ w.heap.size + 1 + 1 by omega) (.int .i64 gd) (.slice sd ld cd)) (show w.heap.size + 1 ≠ w.heap.size + 1 + 1 + 1 by omega) (.int .i64 gf) (.slice sf lf cf))).1) (n_ ((c_ (e_ (e_ (a_ hGf0w3_2 Bb) (show w.heap.size + 1 ≠ w.heap.size + 1 + 1 by omega) (.int .i64 gd) (.slice sd ld cd)) (show w.heap.size + 1 ≠ w.heap.size + 1 + 1 + 1 by omega) (.int .i64 gf) (.slice sf lf cf))).2.1) (n_ ((j_ (e_ (e_ (a_ hGf0w3_2 Bu) (show af0w1 ≠ w.heap.size + 1 + 1 by omega) (.int .i64 gd) (.slice sd ld cd)) (show af0w1 ≠ w.heap.size + 1 + 1 + 1 by omega) (.int .i64 gf) (.slice sf lf cf))).1) ((j_ (e_ (e_ (a_ hGf0w3_2 Bv) (show af0w1 + 1 ≠ w.heap.size + 1 + 1 by omega) (.int .i64 gd) (.slice sd ld cd)) (show af0w1 + 1 ≠ w.heap.size + 1 + 1 + 1 by omega) (.int .i64 gf) (.slice sf lf cf))).1))))))))
   replace Bq:=a_ hGf0w3_2 Bq
   replace Br:=a_ hGf0w3_2 Br
   replace hG:=d_ hG hGf0w3_2
   clear Ca0 Fa0 Ca1 Fa1 Cb0 Fb0 Cb1 Fb1 Cq0 Fq0 Cq1 Fq1 Cr0 Fr0 Cr1 Fr1 Cu0 Fu0 Cv0 Fv0
   have hF : Hid (bR_ w (X) (Y) _ _):=cO_ hG Bq Br (by omega) rd rf
   obtain ⟨o0,o1,o2,o3⟩:=aE_ Bq Br (.int .i64 gd) (.slice sd ld cd) (.int .i64 gf) (.slice sf lf cf)
   clear ra ma' rb mb' mu mv rd rf
   go_wp2_with fail
   exact bodyPost_ret (v:=.tuple #[.agg #[.int .i64 gd,.slice sd ld cd],.agg #[.int .i64 gf,.slice sf lf cf]]) (by simp [results,Tryz.results84,go_sem,o0,o1,o2,o3]) rfl hF.out
 · skip
   have f1 : decide (0 ≤ ga) = false:=decide_eq_false (by rcases hsx with ⟨h,e⟩ | ⟨h,e⟩ | ⟨h,e⟩ <;> omega)
   clear hsx hn
   go_enter Tryz.func84,Tryz.ntmps84
   obtain ⟨Ca0,Ca1,Fa0,Fa1⟩:=c_ Ba
   obtain ⟨Cb0,Cb1,Fb0,Fb1⟩:=c_ Bb
   obtain ⟨Cq0,Cq1,Fq0,Fq1⟩:=c_ Bq
   obtain ⟨Cr0,Cr1,Fr0,Fr1⟩:=c_ Br
   go_wp2_with fail
   have HR0:=H_ hr0
   clear hr0
   generalize ((((w.alloc (.cells #[.int .i64 ga,.slice sa la ca] 36)).alloc (.cells #[.int .i64 gb,.slice sb lb cb] 36)).alloc (.cells #[.int .i64 0,.slice none 0 0] 36)).alloc (.cells #[.int .i64 0,.slice none 0 0] 36)) = w0 at *
   clear Ca0 Fa0 Ca1 Fa1 Cb0 Fb0 Cb1 Fb1 Cq0 Fq0 Cq1 Fq1 Cr0 Fr0 Cr1 Fr1
   refine (cl_ w0 _ _ x.natAbs y.natAbs ma' mb' Hla.out Hlb.out HC.out).mono ?_
   rw [HQ.out,HR.out]
   rintro e f1w1 ⟨_,_,rfl,⟨su,lu,cu,yu,rfl,hu⟩,⟨sv,lv,cv,yv,rfl,hv⟩,gf1w1⟩
   have mu : RefV f1w1 (.agg #[.slice su lu cu]) (q):=⟨su,lu,cu,yu,rfl,hu⟩
   have mv : RefV f1w1 (.agg #[.slice sv lv cv]) (r):=⟨sv,lv,cv,yv,rfl,hv⟩
   replace Ba:=a_ gf1w1 Ba
   replace Bb:=a_ gf1w1 Bb
   replace Bq:=a_ gf1w1 Bq
   replace Br:=a_ gf1w1 Br
   replace hG:=d_ hG gf1w1
   clear gf1w1
   clear hu
   clear hv
   obtain ⟨Ca0,Ca1,Fa0,Fa1⟩:=c_ Ba
   obtain ⟨Cb0,Cb1,Fb0,Fb1⟩:=c_ Bb
   obtain ⟨Cq0,Cq1,Fq0,Fq1⟩:=c_ Bq
   obtain ⟨Cr0,Cr1,Fr0,Fr1⟩:=c_ Br
   obtain rfl : lv = 0:=(eI_ mv).1 HR0.out
   have gbf1w1:=(l_ (wg_ f1w1 (.cells #[.slice su lu cu] 34) none) (.cells #[.slice sv 0 cv] 34))
   have Bu:=a_ (wg_ _ (.cells #[.slice sv 0 cv] 34) none) (f_ f1w1 (.cells #[.slice su lu cu] 34) (f1w1.heap.size) rfl)
   have Bv:=(f_ (f1w1.alloc (.cells #[.slice su lu cu] 34)) (.cells #[.slice sv 0 cv] 34) (f1w1.heap.size + 1) (by simp))
   have hzf1w1 : Hid (w.heap.size ≤ f1w1.heap.size):=H_ hG.size
   have hlaf1w1 : Hid (w.heap.size < f1w1.heap.size):=H_ (Array.getElem?_eq_some_iff.1 Ba).1
   have hlbf1w1 : Hid (w.heap.size + 1 < f1w1.heap.size):=H_ (Array.getElem?_eq_some_iff.1 Bb).1
   have hlqf1w1 : Hid (w.heap.size + 1 + 1 < f1w1.heap.size):=H_ (Array.getElem?_eq_some_iff.1 Bq).1
   have hlrf1w1 : Hid (w.heap.size + 1 + 1 + 1 < f1w1.heap.size):=H_ (Array.getElem?_eq_some_iff.1 Br).1
   clear Ca0 Fa0 Ca1 Fa1 Cb0 Fb0 Cb1 Fb1 Cq0 Fq0 Cq1 Fq1 Cr0 Fr0 Cr1 Fr1
   replace Ba:=a_ gbf1w1 Ba
   replace Bb:=a_ gbf1w1 Bb
   replace Bq:=a_ gbf1w1 Bq
   replace Br:=a_ gbf1w1 Br
   replace mu:=mu.kept gbf1w1
   replace mv:=mv.kept gbf1w1
   replace hG:=d_ hG gbf1w1
   clear gbf1w1
   obtain ⟨Ca0,Ca1,Fa0,Fa1⟩:=c_ Ba
   obtain ⟨Cb0,Cb1,Fb0,Fb1⟩:=c_ Bb
   obtain ⟨Cq0,Cq1,Fq0,Fq1⟩:=c_ Bq
   obtain ⟨Cr0,Cr1,Fr0,Fr1⟩:=c_ Br
   obtain ⟨Cu0,Fu0⟩:=j_ Bu
   obtain ⟨Cv0,Fv0⟩:=j_ Bv
   go_wp2_with fail
   generalize ((f1w1.alloc (.cells #[.slice su lu cu] 34)).alloc (.cells #[.slice sv 0 cv] 34)) = f1w2 at *
   generalize f1w1.heap.size = af1w1 at *
   replace hzf1w1:=hzf1w1.out
   replace hlaf1w1:=hlaf1w1.out
   replace hlbf1w1:=hlbf1w1.out
   replace hlqf1w1:=hlqf1w1.out
   replace hlrf1w1:=hlrf1w1.out
   go_region_held3 (fun w'=>w'.cell? ⟨w.heap.size,0,none⟩ = some (.int .i64 ga) ∧ w'.cell? ⟨w.heap.size,1,none⟩ = some (.slice sa la ca) ∧ w'.cell? ⟨w.heap.size + 1,0,none⟩ = some (.int .i64 gb) ∧ w'.cell? ⟨w.heap.size + 1,1,none⟩ = some (.slice sb lb cb) ∧ w'.cell? ⟨af1w1,0,none⟩ = some (.slice su lu cu) ∧ w'.cell? ⟨af1w1 + 1,0,none⟩ = some (.slice sv 0 cv))
    (first | assumption | exact ⟨Ca0,Ca1,Cb0,Cb1,Cu0,Cv0⟩ | exact HSf1w3_20 | exact HSf1w3_21 | go_keep)
    (first
      | (go_at_call 57; (with_reducible refine (K_ f1w2.drew _ P q X (mu.kept (k_ (h_ _ _))) hz.out.1 hz.out.2.1).mono ?_); rintro e f1w3_1 ⟨_,rfl,⟨gd,sd,ld,cd,rfl,hd,md⟩,gf1w3_1⟩; have hGf1w3_1:=o_ f1w2 gf1w3_1 rfl rfl rfl rfl; have rd : RIntV f1w3_1 (.agg #[.int .i64 gd,.slice sd ld cd]) (X):=⟨gd,sd,ld,cd,rfl,hd,md⟩; have hSf1w3_1:=(n_ (hGf1w3_1.cell Ca0 (by simp)) (n_ (hGf1w3_1.cell Ca1 (by simp)) (n_ (hGf1w3_1.cell Cb0 (by simp)) (n_ (hGf1w3_1.cell Cb1 (by simp)) (n_ (hGf1w3_1.cell Cu0 (by simp)) (hGf1w3_1.cell Cv0 (by simp))))))); clear gf1w3_1; clear md)
      | (go_at_call 57; (with_reducible refine (K_ f1w3_1 _ 1 r Y (mv.kept hGf1w3_1) (by rw [hz.out.2.2]; omega) (by rw [hz.out.2.2]; exact cL_ r)).mono ?_); rintro e f1w3_2 ⟨_,rfl,⟨gf,sf,lf,cf,rfl,hf,mf⟩,gf1w3_2⟩; have hGf1w3_2:=d_ hGf1w3_1 gf1w3_2; replace rd:=rd.kept gf1w3_2; have rf : RIntV f1w3_2 (.agg #[.int .i64 gf,.slice sf lf cf]) (Y):=⟨gf,sf,lf,cf,rfl,hf,mf⟩; have hSf1w3_2:=(n_ (hGf1w3_2.cell Ca0 (by simp)) (n_ (hGf1w3_2.cell Ca1 (by simp)) (n_ (hGf1w3_2.cell Cb0 (by simp)) (n_ (hGf1w3_2.cell Cb1 (by simp)) (n_ (hGf1w3_2.cell Cu0 (by simp)) (hGf1w3_2.cell Cv0 (by simp))))))); clear gf1w3_2; clear mf; (obtain ⟨dq0,dq1,dq2,dq3⟩:=c_ (a_ hGf1w3_2 Bq)); have HSf1w3_20:=(n_ ((c_ (e_ (a_ hGf1w3_2 Ba) (show w.heap.size ≠ w.heap.size + 1 + 1 by omega) (.int .i64 gd) (.slice sd ld cd))).1) (n_ ((c_ (e_ (a_ hGf1w3_2 Ba) (show w.heap.size ≠ w.heap.size + 1 + 1 by omega) (.int .i64 gd) (.slice sd ld cd))).2.1) (n_ ((c_ (e_ (a_ hGf1w3_2 Bb) (show w.heap.size + 1 ≠ w.heap.size + 1 + 1 by omega) (.int .i64 gd) (.slice sd ld cd))).1) (n_ ((c_ (e_ (a_ hGf1w3_2 Bb) (show w.heap.size + 1 ≠ w.heap.size + 1 + 1 by omega) (.int .i64 gd) (.slice sd ld cd))).2.1) (n_ ((j_ (e_ (a_ hGf1w3_2 Bu) (show af1w1 ≠ w.heap.size + 1 + 1 by omega) (.int .i64 gd) (.slice sd ld cd))).1) ((j_ (e_ (a_ hGf1w3_2 Bv) (show af1w1 + 1 ≠ w.heap.size + 1 + 1 by omega) (.int .i64 gd) (.slice sd ld cd))).1)))))); (obtain ⟨dr0,dr1,dr2,dr3⟩:=c_ (e_ (a_ hGf1w3_2 Br) (show w.heap.size + 1 + 1 + 1 ≠ w.heap.size + 1 + 1 by omega) (.int .i64 gd) (.slice sd ld cd))); have HSf1w3_21:=(n_ ((c_ (e_ (e_ (a_ hGf1w3_2 Ba) (show w.heap.size ≠ w.heap.size + 1 + 1 by omega) (.int .i64 gd) (.slice sd ld cd)) (show w.heap.size ≠ w.heap.size + 1 + 1 + 1 by omega) (.int .i64 gf) (.slice sf lf cf))).1) (n_ ((c_ (e_ (e_ (a_ hGf1w3_2 Ba) (show w.heap.size ≠ w.heap.size + 1 + 1 by omega) (.int .i64 gd) (.slice sd ld cd)) (show w.heap.size ≠ w.heap.size + 1 + 1 + 1 by omega) (.int .i64 gf) (.slice sf lf cf))).2.1) (n_ ((c_ (e_ (e_ (a_ hGf1w3_2 Bb) (show w.heap.size + 1 ≠ w.heap.size + 1 + 1 by omega) (.int .i64 gd) (.slice sd ld cd)) (show w.heap.size + 1 ≠ w.heap.size + 1 + 1 + 1 by omega) (.int .i64 gf) (.slice sf lf cf))).1) (n_ ((c_ (e_ (e_ (a_ hGf1w3_2 Bb) (show w.heap.size + 1 ≠ w.heap.size + 1 + 1 by omega) (.int .i64 gd) (.slice sd ld cd)) (show w.heap.size + 1 ≠ w.heap.size + 1 + 1 + 1 by omega) (.int .i64 gf) (.slice sf lf cf))).2.1) (n_ ((j_ (e_ (e_ (a_ hGf1w3_2 Bu) (show af1w1 ≠ w.heap.size + 1 + 1 by omega) (.int .i64 gd) (.slice sd ld cd)) (show af1w1 ≠ w.heap.size + 1 + 1 + 1 by omega) (.int .i64 gf) (.slice sf lf cf))).1) ((j_ (e_ (e_ (a_ hGf1w3_2 Bv) (show af1w1 + 1 ≠ w.heap.size + 1 + 1 by omega) (.int .i64 gd) (.slice sd ld cd)) (show af1w1 + 1 ≠ w.heap.size + 1 + 1 + 1 by omega) (.int .i64 gf) (.slice sf lf cf))).1))))))))
   replace Bq:=a_ hGf1w3_2 Bq
   replace Br:=a_ hGf1w3_2 Br
   replace hG:=d_ hG hGf1w3_2
   clear Ca0 Fa0 Ca1 Fa1 Cb0 Fb0 Cb1 Fb1 Cq0 Fq0 Cq1 Fq1 Cr0 Fr0 Cr1 Fr1 Cu0 Fu0 Cv0 Fv0
   have hF : Hid (bR_ w (X) (Y) _ _):=cO_ hG Bq Br (by omega) rd rf
   obtain ⟨o0,o1,o2,o3⟩:=aE_ Bq Br (.int .i64 gd) (.slice sd ld cd) (.int .i64 gf) (.slice sf lf cf)
   clear ra ma' rb mb' mu mv rd rf
   go_wp2_with fail
   exact bodyPost_ret (v:=.tuple #[.agg #[.int .i64 gd,.slice sd ld cd],.agg #[.int .i64 gf,.slice sf lf cf]]) (by simp [results,Tryz.results84,go_sem,o0,o1,o2,o3]) rfl hF.out
 · skip
   have f1 : decide (0 ≤ ga) = false:=decide_eq_false (by rcases hsx with ⟨h,e⟩ | ⟨h,e⟩ | ⟨h,e⟩ <;> omega)
   clear hsx hn
   go_enter Tryz.func84,Tryz.ntmps84
   obtain ⟨Ca0,Ca1,Fa0,Fa1⟩:=c_ Ba
   obtain ⟨Cb0,Cb1,Fb0,Fb1⟩:=c_ Bb
   obtain ⟨Cq0,Cq1,Fq0,Fq1⟩:=c_ Bq
   obtain ⟨Cr0,Cr1,Fr0,Fr1⟩:=c_ Br
   go_wp2_with fail
   have HR0:=H_ hr0
   clear hr0
   generalize ((((w.alloc (.cells #[.int .i64 ga,.slice sa la ca] 36)).alloc (.cells #[.int .i64 gb,.slice sb lb cb] 36)).alloc (.cells #[.int .i64 0,.slice none 0 0] 36)).alloc (.cells #[.int .i64 0,.slice none 0 0] 36)) = w0 at *
   clear Ca0 Fa0 Ca1 Fa1 Cb0 Fb0 Cb1 Fb1 Cq0 Fq0 Cq1 Fq1 Cr0 Fr0 Cr1 Fr1
   refine (cl_ w0 _ _ x.natAbs y.natAbs ma' mb' Hla.out Hlb.out HC.out).mono ?_
   rw [HQ.out,HR.out]
   rintro e f2w1 ⟨_,_,rfl,⟨su,lu,cu,yu,rfl,hu⟩,⟨sv,lv,cv,yv,rfl,hv⟩,gf2w1⟩
   have mu : RefV f2w1 (.agg #[.slice su lu cu]) (q):=⟨su,lu,cu,yu,rfl,hu⟩
   have mv : RefV f2w1 (.agg #[.slice sv lv cv]) (r):=⟨sv,lv,cv,yv,rfl,hv⟩
   replace Ba:=a_ gf2w1 Ba
   replace Bb:=a_ gf2w1 Bb
   replace Bq:=a_ gf2w1 Bq
   replace Br:=a_ gf2w1 Br
   replace mb':=mb'.kept gf2w1
   replace hG:=d_ hG gf2w1
   clear gf2w1
   clear hu
   clear hv
   obtain ⟨Ca0,Ca1,Fa0,Fa1⟩:=c_ Ba
   obtain ⟨Cb0,Cb1,Fb0,Fb1⟩:=c_ Bb
   obtain ⟨Cq0,Cq1,Fq0,Fq1⟩:=c_ Bq
   obtain ⟨Cr0,Cr1,Fr0,Fr1⟩:=c_ Br
   have f2 : ((lv : Int) == 0) = false:=beq_eq_false_iff_ne.2 (by have:=(eI_ mv).2 HR0.out; omega)
   have gbf2w1:=(l_ (wg_ f2w1 (.cells #[.slice su lu cu] 34) none) (.cells #[.slice sv lv cv] 34))
   have Bu:=a_ (wg_ _ (.cells #[.slice sv lv cv] 34) none) (f_ f2w1 (.cells #[.slice su lu cu] 34) (f2w1.heap.size) rfl)
   have Bv:=(f_ (f2w1.alloc (.cells #[.slice su lu cu] 34)) (.cells #[.slice sv lv cv] 34) (f2w1.heap.size + 1) (by simp))
   have hzf2w1 : Hid (w.heap.size ≤ f2w1.heap.size):=H_ hG.size
   have hlaf2w1 : Hid (w.heap.size < f2w1.heap.size):=H_ (Array.getElem?_eq_some_iff.1 Ba).1
   have hlbf2w1 : Hid (w.heap.size + 1 < f2w1.heap.size):=H_ (Array.getElem?_eq_some_iff.1 Bb).1
   have hlqf2w1 : Hid (w.heap.size + 1 + 1 < f2w1.heap.size):=H_ (Array.getElem?_eq_some_iff.1 Bq).1
   have hlrf2w1 : Hid (w.heap.size + 1 + 1 + 1 < f2w1.heap.size):=H_ (Array.getElem?_eq_some_iff.1 Br).1
   clear Ca0 Fa0 Ca1 Fa1 Cb0 Fb0 Cb1 Fb1 Cq0 Fq0 Cq1 Fq1 Cr0 Fr0 Cr1 Fr1
   replace Ba:=a_ gbf2w1 Ba
   replace Bb:=a_ gbf2w1 Bb
   replace Bq:=a_ gbf2w1 Bq
   replace Br:=a_ gbf2w1 Br
   replace mb':=mb'.kept gbf2w1
   replace mu:=mu.kept gbf2w1
   replace mv:=mv.kept gbf2w1
   replace hG:=d_ hG gbf2w1
   clear gbf2w1
   obtain ⟨Ca0,Ca1,Fa0,Fa1⟩:=c_ Ba
   obtain ⟨Cb0,Cb1,Fb0,Fb1⟩:=c_ Bb
   obtain ⟨Cq0,Cq1,Fq0,Fq1⟩:=c_ Bq
   obtain ⟨Cr0,Cr1,Fr0,Fr1⟩:=c_ Br
   obtain ⟨Cu0,Fu0⟩:=j_ Bu
   obtain ⟨Cv0,Fv0⟩:=j_ Bv
   go_wp2_with fail
   generalize ((f2w1.alloc (.cells #[.slice su lu cu] 34)).alloc (.cells #[.slice sv lv cv] 34)) = f2w2 at *
   generalize f2w1.heap.size = af2w1 at *
   replace hzf2w1:=hzf2w1.out
   replace hlaf2w1:=hlaf2w1.out
   replace hlbf2w1:=hlbf2w1.out
   replace hlqf2w1:=hlqf2w1.out
   replace hlrf2w1:=hlrf2w1.out
   go_region_held3 (fun w'=>w'.cell? ⟨w.heap.size,0,none⟩ = some (.int .i64 ga) ∧ w'.cell? ⟨w.heap.size,1,none⟩ = some (.slice sa la ca) ∧ w'.cell? ⟨w.heap.size + 1,0,none⟩ = some (.int .i64 gb) ∧ w'.cell? ⟨w.heap.size + 1,1,none⟩ = some (.slice sb lb cb) ∧ w'.cell? ⟨af2w1,0,none⟩ = some (.slice su lu cu) ∧ w'.cell? ⟨af2w1 + 1,0,none⟩ = some (.slice sv lv cv))
    (first | assumption | exact ⟨Ca0,Ca1,Cb0,Cb1,Cu0,Cv0⟩ | exact HSf2w3_50 | exact HSf2w3_51 | go_keep)
    (first
      | (go_at_call 74; (with_reducible refine (lA_ f2w2.drew).mono ?_); rintro e f2w3_1 ⟨vo,rfl,mo,gf2w3_1⟩; have hGf2w3_1:=o_ f2w2 gf2w3_1 rfl rfl rfl rfl; have hSf2w3_1:=(n_ (hGf2w3_1.cell Ca0 (by simp)) (n_ (hGf2w3_1.cell Ca1 (by simp)) (n_ (hGf2w3_1.cell Cb0 (by simp)) (n_ (hGf2w3_1.cell Cb1 (by simp)) (n_ (hGf2w3_1.cell Cu0 (by simp)) (hGf2w3_1.cell Cv0 (by simp))))))); clear gf2w3_1)
      | (go_at_call 73; (with_reducible refine (fg_ f2w3_1 _ _ q 1 (mu.kept hGf2w3_1) mo HLQ.out HL1.out).mono ?_); rintro e f2w3_2 ⟨vp,rfl,mp,gf2w3_2⟩; have hGf2w3_2:=d_ hGf2w3_1 gf2w3_2; replace mo:=mo.kept gf2w3_2; have hSf2w3_2:=(n_ (hGf2w3_2.cell Ca0 (by simp)) (n_ (hGf2w3_2.cell Ca1 (by simp)) (n_ (hGf2w3_2.cell Cb0 (by simp)) (n_ (hGf2w3_2.cell Cb1 (by simp)) (n_ (hGf2w3_2.cell Cu0 (by simp)) (hGf2w3_2.cell Cv0 (by simp))))))); clear gf2w3_2)
      | (go_at_call 57; (with_reducible refine (K_ f2w3_2 _ P (q + 1) X mp hz.out.1 hz.out.2.1).mono ?_); rintro e f2w3_3 ⟨_,rfl,⟨gd,sd,ld,cd,rfl,hd,md⟩,gf2w3_3⟩; have hGf2w3_3:=d_ hGf2w3_2 gf2w3_3; replace mo:=mo.kept gf2w3_3; replace mp:=mp.kept gf2w3_3; have rd : RIntV f2w3_3 (.agg #[.int .i64 gd,.slice sd ld cd]) (X):=⟨gd,sd,ld,cd,rfl,hd,md⟩; have hSf2w3_3:=(n_ (hGf2w3_3.cell Ca0 (by simp)) (n_ (hGf2w3_3.cell Ca1 (by simp)) (n_ (hGf2w3_3.cell Cb0 (by simp)) (n_ (hGf2w3_3.cell Cb1 (by simp)) (n_ (hGf2w3_3.cell Cu0 (by simp)) (hGf2w3_3.cell Cv0 (by simp))))))); clear gf2w3_3; clear md)
      | (go_at_call 100; (with_reducible refine (cR_ f2w3_3 _ _ y.natAbs r (mb'.kept hGf2w3_3) (mv.kept hGf2w3_3) (Nat.le_of_lt HM.out) HLB.out).mono ?_); rintro e f2w3_4 ⟨vl,rfl,ml,gf2w3_4⟩; have hGf2w3_4:=d_ hGf2w3_3 gf2w3_4; replace mo:=mo.kept gf2w3_4; replace mp:=mp.kept gf2w3_4; replace rd:=rd.kept gf2w3_4; have hSf2w3_4:=(n_ (hGf2w3_4.cell Ca0 (by simp)) (n_ (hGf2w3_4.cell Ca1 (by simp)) (n_ (hGf2w3_4.cell Cb0 (by simp)) (n_ (hGf2w3_4.cell Cb1 (by simp)) (n_ (hGf2w3_4.cell Cu0 (by simp)) (hGf2w3_4.cell Cv0 (by simp))))))); clear gf2w3_4)
      | (go_at_call 57; (with_reducible refine (K_ f2w3_4 _ 1 (y.natAbs - r) Y ml (by rw [hz.out.2.2]; omega) (by rw [hz.out.2.2]; exact cL_ _)).mono ?_); rintro e f2w3_5 ⟨_,rfl,⟨gf,sf,lf,cf,rfl,hf,mf⟩,gf2w3_5⟩; have hGf2w3_5:=d_ hGf2w3_4 gf2w3_5; replace mo:=mo.kept gf2w3_5; replace mp:=mp.kept gf2w3_5; replace rd:=rd.kept gf2w3_5; replace ml:=ml.kept gf2w3_5; have rf : RIntV f2w3_5 (.agg #[.int .i64 gf,.slice sf lf cf]) (Y):=⟨gf,sf,lf,cf,rfl,hf,mf⟩; have hSf2w3_5:=(n_ (hGf2w3_5.cell Ca0 (by simp)) (n_ (hGf2w3_5.cell Ca1 (by simp)) (n_ (hGf2w3_5.cell Cb0 (by simp)) (n_ (hGf2w3_5.cell Cb1 (by simp)) (n_ (hGf2w3_5.cell Cu0 (by simp)) (hGf2w3_5.cell Cv0 (by simp))))))); clear gf2w3_5; clear mf; (obtain ⟨dq0,dq1,dq2,dq3⟩:=c_ (a_ hGf2w3_5 Bq)); have HSf2w3_50:=(n_ ((c_ (e_ (a_ hGf2w3_5 Ba) (show w.heap.size ≠ w.heap.size + 1 + 1 by omega) (.int .i64 gd) (.slice sd ld cd))).1) (n_ ((c_ (e_ (a_ hGf2w3_5 Ba) (show w.heap.size ≠ w.heap.size + 1 + 1 by omega) (.int .i64 gd) (.slice sd ld cd))).2.1) (n_ ((c_ (e_ (a_ hGf2w3_5 Bb) (show w.heap.size + 1 ≠ w.heap.size + 1 + 1 by omega) (.int .i64 gd) (.slice sd ld cd))).1) (n_ ((c_ (e_ (a_ hGf2w3_5 Bb) (show w.heap.size + 1 ≠ w.heap.size + 1 + 1 by omega) (.int .i64 gd) (.slice sd ld cd))).2.1) (n_ ((j_ (e_ (a_ hGf2w3_5 Bu) (show af2w1 ≠ w.heap.size + 1 + 1 by omega) (.int .i64 gd) (.slice sd ld cd))).1) ((j_ (e_ (a_ hGf2w3_5 Bv) (show af2w1 + 1 ≠ w.heap.size + 1 + 1 by omega) (.int .i64 gd) (.slice sd ld cd))).1)))))); (obtain ⟨dr0,dr1,dr2,dr3⟩:=c_ (e_ (a_ hGf2w3_5 Br) (show w.heap.size + 1 + 1 + 1 ≠ w.heap.size + 1 + 1 by omega) (.int .i64 gd) (.slice sd ld cd))); have HSf2w3_51:=(n_ ((c_ (e_ (e_ (a_ hGf2w3_5 Ba) (show w.heap.size ≠ w.heap.size + 1 + 1 by omega) (.int .i64 gd) (.slice sd ld cd)) (show w.heap.size ≠ w.heap.size + 1 + 1 + 1 by omega) (.int .i64 gf) (.slice sf lf cf))).1) (n_ ((c_ (e_ (e_ (a_ hGf2w3_5 Ba) (show w.heap.size ≠ w.heap.size + 1 + 1 by omega) (.int .i64 gd) (.slice sd ld cd)) (show w.heap.size ≠ w.heap.size + 1 + 1 + 1 by omega) (.int .i64 gf) (.slice sf lf cf))).2.1) (n_ ((c_ (e_ (e_ (a_ hGf2w3_5 Bb) (show w.heap.size + 1 ≠ w.heap.size + 1 + 1 by omega) (.int .i64 gd) (.slice sd ld cd)) (show w.heap.size + 1 ≠ w.heap.size + 1 + 1 + 1 by omega) (.int .i64 gf) (.slice sf lf cf))).1) (n_ ((c_ (e_ (e_ (a_ hGf2w3_5 Bb) (show w.heap.size + 1 ≠ w.heap.size + 1 + 1 by omega) (.int .i64 gd) (.slice sd ld cd)) (show w.heap.size + 1 ≠ w.heap.size + 1 + 1 + 1 by omega) (.int .i64 gf) (.slice sf lf cf))).2.1) (n_ ((j_ (e_ (e_ (a_ hGf2w3_5 Bu) (show af2w1 ≠ w.heap.size + 1 + 1 by omega) (.int .i64 gd) (.slice sd ld cd)) (show af2w1 ≠ w.heap.size + 1 + 1 + 1 by omega) (.int .i64 gf) (.slice sf lf cf))).1) ((j_ (e_ (e_ (a_ hGf2w3_5 Bv) (show af2w1 + 1 ≠ w.heap.size + 1 + 1 by omega) (.int .i64 gd) (.slice sd ld cd)) (show af2w1 + 1 ≠ w.heap.size + 1 + 1 + 1 by omega) (.int .i64 gf) (.slice sf lf cf))).1))))))))
   replace Bq:=a_ hGf2w3_5 Bq
   replace Br:=a_ hGf2w3_5 Br
   replace hG:=d_ hG hGf2w3_5
   clear Ca0 Fa0 Ca1 Fa1 Cb0 Fb0 Cb1 Fb1 Cq0 Fq0 Cq1 Fq1 Cr0 Fr0 Cr1 Fr1 Cu0 Fu0 Cv0 Fv0
   have hF : Hid (bR_ w (X) (Y) _ _):=cO_ hG Bq Br (by omega) rd rf
   obtain ⟨o0,o1,o2,o3⟩:=aE_ Bq Br (.int .i64 gd) (.slice sd ld cd) (.int .i64 gf) (.slice sf lf cf)
   clear ra ma' rb mb' mu mv mo mp rd ml rf
   go_wp2_with fail
   exact bodyPost_ret (v:=.tuple #[.agg #[.int .i64 gd,.slice sd ld cd],.agg #[.int .i64 gf,.slice sf lf cf]]) (by simp [results,Tryz.results84,go_sem,o0,o1,o2,o3]) rfl hF.out
end Go.Proofs.YtgbbdgioohaknaaGreatDoor
