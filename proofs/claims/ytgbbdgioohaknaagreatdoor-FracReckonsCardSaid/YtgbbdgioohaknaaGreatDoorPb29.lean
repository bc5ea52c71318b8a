/- What the laws lean on, part 29. -/
import Derived.Deep.RegionHeld3
import Derived.Test.YtgbbdgioohaknaaGreatDoorPb23
import Derived.Test.YtgbbdgioohaknaaGreatDoorPb24
import Derived.Test.YtgbbdgioohaknaaGreatDoorPb33
namespace Go.Proofs.YtgbbdgioohaknaaGreatDoor
open Go.RowKit Mat
set_option maxRecDepth 100000
set_option linter.unusedVariables false
set_option linter.unusedSimpArgs false
theorem is_ {x y : Int} (h : x.sign = y.sign) : (x + y).natAbs = x.natAbs + y.natAbs ∧ (x + y).sign = x.sign:=by
 rcases bl_ x with ⟨h1,e1⟩ | ⟨h1,e1⟩ | ⟨h1,e1⟩ <;> rcases bl_ y with ⟨h2,e2⟩ | ⟨h2,e2⟩ | ⟨h2,e2⟩ <;> rcases bl_ (x + y) with ⟨h3,e3⟩ | ⟨h3,e3⟩ | ⟨h3,e3⟩ <;> omega
theorem gm_ {x y : Int} (h : x.sign ≠ y.sign) (h0 : x ≠ 0) (h9 : y ≠ 0) (hle : y.natAbs ≤ x.natAbs) : (x + y).natAbs = x.natAbs - y.natAbs ∧ (x.natAbs - y.natAbs = 0 ∨ (x + y).sign = x.sign):=by
 rcases bl_ x with ⟨h1,e1⟩ | ⟨h1,e1⟩ | ⟨h1,e1⟩ <;> rcases bl_ y with ⟨h2,e2⟩ | ⟨h2,e2⟩ | ⟨h2,e2⟩ <;> rcases bl_ (x + y) with ⟨h3,e3⟩ | ⟨h3,e3⟩ | ⟨h3,e3⟩ <;> omega
set_option maxHeartbeats 8000000 in
theorem aM_ (w : World) (va vb : Value) (x y : Int) (Ha : RIntV w va x) (Hb : RIntV w vb y) (la' : x.natAbs < D ^ 1000000) (lb' : y.natAbs < D ^ 1000000) :
    Calls Tryz.prog 78 #[va,vb] w (Z_ w (x * y)):=by
 have Hla:=H_ la'
 have Hlb:=H_ lb'
 clear la' lb'
 obtain ⟨ga,sa,la,ca,rfl,ha,ma⟩:=Ha
 obtain ⟨gb,sb,lb,cb,rfl,hb,mb⟩:=Hb
 obtain ⟨hG,Ba,Bb,Bq⟩:=en3_ w (.cells #[.int .i64 ga,.slice sa la ca] 36) (.cells #[.int .i64 gb,.slice sb lb cb] 36) (.cells #[.int .i64 0,.slice none 0 0] 36)
 have oa : RIntV w (.agg #[.int .i64 ga,.slice sa la ca]) (x):=⟨ga,sa,la,ca,rfl,ha,ma⟩
 have ra:=oa.kept hG
 have ma':=(show RefV w (.agg #[.slice sa la ca]) (x).natAbs from ma).kept hG
 have ob : RIntV w (.agg #[.int .i64 gb,.slice sb lb cb]) (y):=⟨gb,sb,lb,cb,rfl,hb,mb⟩
 have rb:=ob.kept hG
 have mb':=(show RefV w (.agg #[.slice sb lb cb]) (y).natAbs from mb).kept hG
 clear ma
 clear mb
 go_enter Tryz.func78,Tryz.ntmps78
 obtain ⟨P,hP⟩ : ∃ P,(x * y).sign = P:=⟨_,rfl⟩
 have HP : Hid ((x * y).sign = P):=hP
 have HN : Hid ((x * y).natAbs = x.natAbs * y.natAbs):=Int.natAbs_mul x y
 have hw : IntKind.i64.wrap (ga * gb) = P:=by
  rw [ha.out,hb.out,← Int.sign_mul,hP,IntKind.wrap_i64]
  have:=dR_ (x * y); rw [hP] at this; omega
 clear hP
 obtain ⟨Ca0,Ca1,Fa0,Fa1⟩:=c_ Ba
 obtain ⟨Cb0,Cb1,Fb0,Fb1⟩:=c_ Bb
 obtain ⟨Cq0,Cq1,Fq0,Fq1⟩:=c_ Bq
 go_wp2_with fail
 generalize (((w.alloc (.cells #[.int .i64 ga,.slice sa la ca] 36)).alloc (.cells #[.int .i64 gb,.slice sb lb cb] 36)).alloc (.cells #[.int .i64 0,.slice none 0 0] 36)) = w0 at *
 go_region_held3 (fun w'=>w'.cell? ⟨w.heap.size,0,none⟩ = some (.int .i64 ga) ∧ w'.cell? ⟨w.heap.size,1,none⟩ = some (.slice sa la ca) ∧ w'.cell? ⟨w.heap.size + 1,0,none⟩ = some (.int .i64 gb) ∧ w'.cell? ⟨w.heap.size + 1,1,none⟩ = some (.slice sb lb cb))
  (first | assumption | exact ⟨Ca0,Ca1,Cb0,Cb1⟩ | exact HSw1_20 | go_keep)
  (first
    | (go_at_call 111; (with_reducible refine (gS_ w0.drew _ _ x.natAbs y.natAbs (ma'.kept (k_ (h_ _ _))) (mb'.kept (k_ (h_ _ _))) Hla.out Hlb.out).mono ?_); rintro e w1_1 ⟨vp,rfl,mp,gw1_1⟩; have hGw1_1:=o_ w0 gw1_1 rfl rfl rfl rfl; have hSw1_1:=(n_ (hGw1_1.cell Ca0 (by simp)) (n_ (hGw1_1.cell Ca1 (by simp)) (n_ (hGw1_1.cell Cb0 (by simp)) (hGw1_1.cell Cb1 (by simp))))); clear gw1_1)
    | (go_at_call 57; (with_reducible refine (K_ w1_1 _ P (x.natAbs * y.natAbs) (x * y) mp HN.out (Or.inr HP.out)).mono ?_); rintro e w1_2 ⟨_,rfl,⟨gd,sd,ld,cd,rfl,hd,md⟩,gw1_2⟩; have hGw1_2:=d_ hGw1_1 gw1_2; replace mp:=mp.kept gw1_2; have rd : RIntV w1_2 (.agg #[.int .i64 gd,.slice sd ld cd]) (x * y):=⟨gd,sd,ld,cd,rfl,hd,md⟩; have hSw1_2:=(n_ (hGw1_2.cell Ca0 (by simp)) (n_ (hGw1_2.cell Ca1 (by simp)) (n_ (hGw1_2.cell Cb0 (by simp)) (hGw1_2.cell Cb1 (by simp))))); clear gw1_2; clear md; (obtain ⟨dq0,dq1,dq2,dq3⟩:=c_ (a_ hGw1_2 Bq)); have HSw1_20:=(n_ ((c_ (e_ (a_ hGw1_2 Ba) (show w.heap.size ≠ w.heap.size + 1 + 1 by omega) (.int .i64 gd) (.slice sd ld cd))).1) (n_ ((c_ (e_ (a_ hGw1_2 Ba) (show w.heap.size ≠ w.heap.size + 1 + 1 by omega) (.int .i64 gd) (.slice sd ld cd))).2.1) (n_ ((c_ (e_ (a_ hGw1_2 Bb) (show w.heap.size + 1 ≠ w.heap.size + 1 + 1 by omega) (.int .i64 gd) (.slice sd ld cd))).1) ((c_ (e_ (a_ hGw1_2 Bb) (show w.heap.size + 1 ≠ w.heap.size + 1 + 1 by omega) (.int .i64 gd) (.slice sd ld cd))).2.1))))))
 replace Bq:=a_ hGw1_2 Bq
 replace hG:=d_ hG hGw1_2
 clear Ca0 Fa0 Ca1 Fa1 Cb0 Fb0 Cb1 Fb1 Cq0 Fq0 Cq1 Fq1
 obtain ⟨k90,k91,k92,k93⟩:=c_ Bq
 obtain ⟨q90,q91,q92,q93⟩:=c_ (m_ Bq (.int .i64 gd) (.slice sd ld cd))
 have hF : Hid (Z_ w (x * y) (.returned (.agg #[.int .i64 gd,.slice sd ld cd])) ((w1_2.setCell ⟨w.heap.size + 1 + 1,0,none⟩ (.int .i64 gd)).setCell ⟨w.heap.size + 1 + 1,1,none⟩ (.slice sd ld cd))):=au_ hG Bq (by omega) rd
 clear ra ma' rb mb' mp rd
 go_wp2_with fail
 exact bodyPost_ret (v:=.agg #[.int .i64 gd,.slice sd ld cd]) (by simp [results,Tryz.results78,go_sem,q90,q91]) rfl hF.out
set_option maxHeartbeats 8000000 in
theorem bX_ (w : World) (va vb : Value) (x y : Int) (Ha : RIntV w va x) (Hb : RIntV w vb y) (la' : x.natAbs < D ^ 1000000) (lb' : y.natAbs < D ^ 1000000) :
    Calls Tryz.prog 81 #[va,vb] w (Z_ w (x + y)):=by
 have Hla:=H_ la'
 have Hlb:=H_ lb'
 clear la' lb'
 obtain ⟨ga,sa,la,ca,rfl,ha,ma⟩:=Ha
 obtain ⟨gb,sb,lb,cb,rfl,hb,mb⟩:=Hb
 obtain ⟨hG,Ba,Bb,Bq⟩:=en3_ w (.cells #[.int .i64 ga,.slice sa la ca] 36) (.cells #[.int .i64 gb,.slice sb lb cb] 36) (.cells #[.int .i64 0,.slice none 0 0] 36)
 have oa : RIntV w (.agg #[.int .i64 ga,.slice sa la ca]) (x):=⟨ga,sa,la,ca,rfl,ha,ma⟩
 have ra:=oa.kept hG
 have ma':=(show RefV w (.agg #[.slice sa la ca]) (x).natAbs from ma).kept hG
 have ob : RIntV w (.agg #[.int .i64 gb,.slice sb lb cb]) (y):=⟨gb,sb,lb,cb,rfl,hb,mb⟩
 have rb:=ob.kept hG
 have mb':=(show RefV w (.agg #[.slice sb lb cb]) (y).natAbs from mb).kept hG
 clear ma
 clear mb
 go_enter Tryz.func81,Tryz.ntmps81
 obtain ⟨z,hz⟩ : ∃ z,x + y = z:=⟨_,rfl⟩
 obtain ⟨cc,hcc⟩ : ∃ cc,W_ x.natAbs y.natAbs = cc:=⟨_,rfl⟩
 have HCC:=H_ hcc
 have key : ((ga == 0) = true ∧ Hid (z = y)) ∨ ((ga == 0) = false ∧ (gb == 0) = true ∧ Hid (z = x)) ∨ ((ga == 0) = false ∧ (gb == 0) = false ∧ (ga == gb) = true ∧ Hid (z.natAbs = x.natAbs + y.natAbs ∧ z.sign = ga)) ∨ ((ga == 0) = false ∧ (gb == 0) = false ∧ (ga == gb) = false ∧ decide (0 ≤ cc) = true ∧ y.natAbs ≤ x.natAbs ∧ Hid (z.natAbs = x.natAbs - y.natAbs ∧ (x.natAbs - y.natAbs = 0 ∨ z.sign = ga))) ∨ ((ga == 0) = false ∧ (gb == 0) = false ∧ (ga == gb) = false ∧ decide (0 ≤ cc) = false ∧ x.natAbs ≤ y.natAbs ∧ Hid (z.natAbs = y.natAbs - x.natAbs ∧ (y.natAbs - x.natAbs = 0 ∨ z.sign = gb))):=by
  have ea:=ha.out
  have eb:=hb.out
  by_cases h1 : x = 0
  · left; subst h1; exact ⟨by rw [ea]; rfl,by show z = y; omega⟩
  · right
    have na : (ga == 0) = false:=beq_eq_false_iff_ne.2 (by rw [ea]; intro h; exact h1 (Int.sign_eq_zero_iff_zero.1 h))
    by_cases h2 : y = 0
    · left; subst h2; exact ⟨na,by rw [eb]; rfl,by show z = x; omega⟩
    · right
      have nb : (gb == 0) = false:=beq_eq_false_iff_ne.2 (by rw [eb]; intro h; exact h2 (Int.sign_eq_zero_iff_zero.1 h))
      by_cases h3 : x.sign = y.sign
      · left; exact ⟨na,nb,beq_iff_eq.2 (by rw [ea,eb,h3]),by rw [ea,← hz]; exact is_ h3⟩
      · right
        have nc : (ga == gb) = false:=beq_eq_false_iff_ne.2 (by rw [ea,eb]; exact h3)
        rcases Nat.lt_trichotomy x.natAbs y.natAbs with h4 | h4 | h4
        · right; exact ⟨na,nb,nc,decide_eq_false (by rw [← hcc,bb_ h4]; omega),by omega,by rw [eb,← hz,Int.add_comm]; exact gm_ (Ne.symm h3) h2 h1 (by omega)⟩
        · left; exact ⟨na,nb,nc,decide_eq_true (by rw [← hcc,bI_ h4]; omega),by omega,by rw [ea,← hz]; exact gm_ h3 h1 h2 (by omega)⟩
        · left; exact ⟨na,nb,nc,decide_eq_true (by rw [← hcc,bc_ h4]; omega),by omega,by rw [ea,← hz]; exact gm_ h3 h1 h2 (by omega)⟩
 rw [hz]
 clear hz hcc
 rcases key with ⟨f1,hz⟩ | ⟨f1,f2,hz⟩ | ⟨f1,f2,f3,hz⟩ | ⟨f1,f2,f3,f4,hle,hz⟩ | ⟨f1,f2,f3,f4,hle,hz⟩
 · skip
   obtain ⟨Ca0,Ca1,Fa0,Fa1⟩:=c_ Ba
   obtain ⟨Cb0,Cb1,Fb0,Fb1⟩:=c_ Bb
   obtain ⟨Cq0,Cq1,Fq0,Fq1⟩:=c_ Bq
   obtain rfl : z = y:=hz.out
   have hG' : w.grownBy (((w.alloc (.cells #[.int .i64 ga,.slice sa la ca] 36)).alloc (.cells #[.int .i64 gb,.slice sb lb cb] 36)).alloc (.cells #[.int .i64 gb,.slice sb lb cb] 36)) none:=(l_ (l_ (wg_ _ _ _) _) _)
   have hF : Hid (Z_ w (z) (.returned (.agg #[.int .i64 gb,.slice sb lb cb])) (((w.alloc (.cells #[.int .i64 ga,.slice sa la ca] 36)).alloc (.cells #[.int .i64 gb,.slice sb lb cb] 36)).alloc (.cells #[.int .i64 gb,.slice sb lb cb] 36))):=⟨_,rfl,ob.kept hG',hG'⟩
   clear hG' ra ma' rb mb'
   go_wp2_with fail
   exact bodyPost_ret (v:=.agg #[.int .i64 gb,.slice sb lb cb]) (by simp [results,Tryz.results81,go_sem]) rfl hF.out
 · skip
   obtain ⟨Ca0,Ca1,Fa0,Fa1⟩:=c_ Ba
   obtain ⟨Cb0,Cb1,Fb0,Fb1⟩:=c_ Bb
   obtain ⟨Cq0,Cq1,Fq0,Fq1⟩:=c_ Bq
   obtain rfl : z = x:=hz.out
   have hG' : w.grownBy (((w.alloc (.cells #[.int .i64 ga,.slice sa la ca] 36)).alloc (.cells #[.int .i64 gb,.slice sb lb cb] 36)).alloc (.cells #[.int .i64 ga,.slice sa la ca] 36)) none:=(l_ (l_ (wg_ _ _ _) _) _)
   have hF : Hid (Z_ w (z) (.returned (.agg #[.int .i64 ga,.slice sa la ca])) (((w.alloc (.cells #[.int .i64 ga,.slice sa la ca] 36)).alloc (.cells #[.int .i64 gb,.slice sb lb cb] 36)).alloc (.cells #[.int .i64 ga,.slice sa la ca] 36))):=⟨_,rfl,oa.kept hG',hG'⟩
   clear hG' ra ma' rb mb'
   go_wp2_with fail
   exact bodyPost_ret (v:=.agg #[.int .i64 ga,.slice sa la ca]) (by simp [results,Tryz.results81,go_sem]) rfl hF.out
 · skip
   obtain ⟨Ca0,Ca1,Fa0,Fa1⟩:=c_ Ba
   obtain ⟨Cb0,Cb1,Fb0,Fb1⟩:=c_ Bb
   obtain ⟨Cq0,Cq1,Fq0,Fq1⟩:=c_ Bq
   go_wp2_with fail
   generalize (((w.alloc (.cells #[.int .i64 ga,.slice sa la ca] 36)).alloc (.cells #[.int .i64 gb,.slice sb lb cb] 36)).alloc (.cells #[.int .i64 0,.slice none 0 0] 36)) = w0 at *
   go_region_held3 (fun w'=>w'.cell? ⟨w.heap.size,0,none⟩ = some (.int .i64 ga) ∧ w'.cell? ⟨w.heap.size,1,none⟩ = some (.slice sa la ca) ∧ w'.cell? ⟨w.heap.size + 1,0,none⟩ = some (.int .i64 gb) ∧ w'.cell? ⟨w.heap.size + 1,1,none⟩ = some (.slice sb lb cb))
    (first | assumption | exact ⟨Ca0,Ca1,Cb0,Cb1⟩ | exact HSw1_20 | go_keep)
    (first
      | (go_at_call 73; (with_reducible refine (fg_ w0.drew _ _ x.natAbs y.natAbs (ma'.kept (k_ (h_ _ _))) (mb'.kept (k_ (h_ _ _))) Hla.out Hlb.out).mono ?_); rintro e w1_1 ⟨vp,rfl,mp,gw1_1⟩; have hGw1_1:=o_ w0 gw1_1 rfl rfl rfl rfl; have hSw1_1:=(n_ (hGw1_1.cell Ca0 (by simp)) (n_ (hGw1_1.cell Ca1 (by simp)) (n_ (hGw1_1.cell Cb0 (by simp)) (hGw1_1.cell Cb1 (by simp))))); clear gw1_1)
      | (go_at_call 57; (with_reducible refine (K_ w1_1 _ ga (x.natAbs + y.natAbs) z mp hz.out.1 (Or.inr hz.out.2)).mono ?_); rintro e w1_2 ⟨_,rfl,⟨gd,sd,ld,cd,rfl,hd,md⟩,gw1_2⟩; have hGw1_2:=d_ hGw1_1 gw1_2; replace mp:=mp.kept gw1_2; have rd : RIntV w1_2 (.agg #[.int .i64 gd,.slice sd ld cd]) (z):=⟨gd,sd,ld,cd,rfl,hd,md⟩; have hSw1_2:=(n_ (hGw1_2.cell Ca0 (by simp)) (n_ (hGw1_2.cell Ca1 (by simp)) (n_ (hGw1_2.cell Cb0 (by simp)) (hGw1_2.cell Cb1 (by simp))))); clear gw1_2; clear md; (obtain ⟨dq0,dq1,dq2,dq3⟩:=c_ (a_ hGw1_2 Bq)); have HSw1_20:=(n_ ((c_ (e_ (a_ hGw1_2 Ba) (show w.heap.size ≠ w.heap.size + 1 + 1 by omega) (.int .i64 gd) (.slice sd ld cd))).1) (n_ ((c_ (e_ (a_ hGw1_2 Ba) (show w.heap.size ≠ w.heap.size + 1 + 1 by omega) (.int .i64 gd) (.slice sd ld cd))).2.1) (n_ ((c_ (e_ (a_ hGw1_2 Bb) (show w.heap.size + 1 ≠ w.heap.size + 1 + 1 by omega) (.int .i64 gd) (.slice sd ld cd))).1) ((c_ (e_ (a_ hGw1_2 Bb) (show w.heap.size + 1 ≠ w.heap.size + 1 + 1 by omega) (.int .i64 gd) (.slice sd ld cd))).2.1))))))
   replace Bq:=a_ hGw1_2 Bq
   replace hG:=d_ hG hGw1_2
   clear Ca0 Fa0 Ca1 Fa1 Cb0 Fb0 Cb1 Fb1 Cq0 Fq0 Cq1 Fq1
   obtain ⟨k90,k91,k92,k93⟩:=c_ Bq
   obtain ⟨q90,q91,q92,q93⟩:=c_ (m_ Bq (.int .i64 gd) (.slice sd ld cd))
   have hF : Hid (Z_ w (z) (.returned (.agg #[.int .i64 gd,.slice sd ld cd])) ((w1_2.setCell ⟨w.heap.size + 1 + 1,0,none⟩ (.int .i64 gd)).setCell ⟨w.heap.size + 1 + 1,1,none⟩ (.slice sd ld cd))):=au_ hG Bq (by omega) rd
   clear ra ma' rb mb' mp rd
   go_wp2_with fail
   exact bodyPost_ret (v:=.agg #[.int .i64 gd,.slice sd ld cd]) (by simp [results,Tryz.results81,go_sem,q90,q91]) rfl hF.out
 · skip
   obtain ⟨Ca0,Ca1,Fa0,Fa1⟩:=c_ Ba
   obtain ⟨Cb0,Cb1,Fb0,Fb1⟩:=c_ Bb
   obtain ⟨Cq0,Cq1,Fq0,Fq1⟩:=c_ Bq
   have HLE:=H_ hle
   clear hle
   go_wp2_with fail
   generalize (((w.alloc (.cells #[.int .i64 ga,.slice sa la ca] 36)).alloc (.cells #[.int .i64 gb,.slice sb lb cb] 36)).alloc (.cells #[.int .i64 0,.slice none 0 0] 36)) = w0 at *
   clear Ca0 Fa0 Ca1 Fa1 Cb0 Fb0 Cb1 Fb1 Cq0 Fq0 Cq1 Fq1
   refine (cS_ w0 _ _ x.natAbs y.natAbs ma' mb' Hla.out Hlb.out).mono ?_
   rintro e w1 ⟨rfl,gw1⟩
   rw [HCC.out]
   replace Ba:=a_ gw1 Ba
   replace Bb:=a_ gw1 Bb
   replace Bq:=a_ gw1 Bq
   replace ma':=ma'.kept gw1
   replace mb':=mb'.kept gw1
   replace hG:=d_ hG gw1
   clear gw1
   obtain ⟨Ca0,Ca1,Fa0,Fa1⟩:=c_ Ba
   obtain ⟨Cb0,Cb1,Fb0,Fb1⟩:=c_ Bb
   obtain ⟨Cq0,Cq1,Fq0,Fq1⟩:=c_ Bq
   go_wp2_with fail
   go_region_held3 (fun w'=>w'.cell? ⟨w.heap.size,0,none⟩ = some (.int .i64 ga) ∧ w'.cell? ⟨w.heap.size,1,none⟩ = some (.slice sa la ca) ∧ w'.cell? ⟨w.heap.size + 1,0,none⟩ = some (.int .i64 gb) ∧ w'.cell? ⟨w.heap.size + 1,1,none⟩ = some (.slice sb lb cb))
    (first | assumption | exact ⟨Ca0,Ca1,Cb0,Cb1⟩ | exact HSw2_20 | go_keep)
    (first
      | (go_at_call 100; (with_reducible refine (cR_ w1.drew _ _ x.natAbs y.natAbs (ma'.kept (k_ (h_ _ _))) (mb'.kept (k_ (h_ _ _))) HLE.out Hla.out).mono ?_); rintro e w2_1 ⟨vp,rfl,mp,gw2_1⟩; have hGw2_1:=o_ w1 gw2_1 rfl rfl rfl rfl; have hSw2_1:=(n_ (hGw2_1.cell Ca0 (by simp)) (n_ (hGw2_1.cell Ca1 (by simp)) (n_ (hGw2_1.cell Cb0 (by simp)) (hGw2_1.cell Cb1 (by simp))))); clear gw2_1)
      | (go_at_call 57; (with_reducible refine (K_ w2_1 _ ga (x.natAbs - y.natAbs) z mp hz.out.1 hz.out.2).mono ?_); rintro e w2_2 ⟨_,rfl,⟨gd,sd,ld,cd,rfl,hd,md⟩,gw2_2⟩; have hGw2_2:=d_ hGw2_1 gw2_2; replace mp:=mp.kept gw2_2; have rd : RIntV w2_2 (.agg #[.int .i64 gd,.slice sd ld cd]) (z):=⟨gd,sd,ld,cd,rfl,hd,md⟩; have hSw2_2:=(n_ (hGw2_2.cell Ca0 (by simp)) (n_ (hGw2_2.cell Ca1 (by simp)) (n_ (hGw2_2.cell Cb0 (by simp)) (hGw2_2.cell Cb1 (by simp))))); clear gw2_2; clear md; (obtain ⟨dq0,dq1,dq2,dq3⟩:=c_ (a_ hGw2_2 Bq)); have HSw2_20:=(n_ ((c_ (e_ (a_ hGw2_2 Ba) (show w.heap.size ≠ w.heap.size + 1 + 1 by omega) (.int .i64 gd) (.slice sd ld cd))).1) (n_ ((c_ (e_ (a_ hGw2_2 Ba) (show w.heap.size ≠ w.heap.size + 1 + 1 by omega) (.int .i64 gd) (.slice sd ld cd))).2.1) (n_ ((c_ (e_ (a_ hGw2_2 Bb) (show w.heap.size + 1 ≠ w.heap.size + 1 + 1 by omega) (.int .i64 gd) (.slice sd ld cd))).1) ((c_ (e_ (a_ hGw2_2 Bb) (show w.heap.size + 1 ≠ w.heap.size + 1 + 1 by omega) (.int .i64 gd) (.slice sd ld cd))).2.1))))))
   replace Bq:=a_ hGw2_2 Bq
   replace hG:=d_ hG hGw2_2
   clear Ca0 Fa0 Ca1 Fa1 Cb0 Fb0 Cb1 Fb1 Cq0 Fq0 Cq1 Fq1
   obtain ⟨k90,k91,k92,k93⟩:=c_ Bq
   obtain ⟨q90,q91,q92,q93⟩:=c_ (m_ Bq (.int .i64 gd) (.slice sd ld cd))
   have hF : Hid (Z_ w (z) (.returned (.agg #[.int .i64 gd,.slice sd ld cd])) ((w2_2.setCell ⟨w.heap.size + 1 + 1,0,none⟩ (.int .i64 gd)).setCell ⟨w.heap.size + 1 + 1,1,none⟩ (.slice sd ld cd))):=au_ hG Bq (by omega) rd
   clear ra ma' rb mb' mp rd
   go_wp2_with fail
   exact bodyPost_ret (v:=.agg #[.int .i64 gd,.slice sd ld cd]) (by simp [results,Tryz.results81,go_sem,q90,q91]) rfl hF.out
 · skip
   obtain ⟨Ca0,Ca1,Fa0,Fa1⟩:=c_ Ba
   obtain ⟨Cb0,Cb1,Fb0,Fb1⟩:=c_ Bb
   obtain ⟨Cq0,Cq1,Fq0,Fq1⟩:=c_ Bq
   have HLE:=H_ hle
   clear hle
   go_wp2_with fail
   generalize (((w.alloc (.cells #[.int .i64 ga,.slice sa la ca] 36)).alloc (.cells #[.int .i64 gb,.slice sb lb cb] 36)).alloc (.cells #[.int .i64 0,.slice none 0 0] 36)) = w0 at *
   clear Ca0 Fa0 Ca1 Fa1 Cb0 Fb0 Cb1 Fb1 Cq0 Fq0 Cq1 Fq1
   refine (cS_ w0 _ _ x.natAbs y.natAbs ma' mb' Hla.out Hlb.out).mono ?_
   rintro e w1 ⟨rfl,gw1⟩
   rw [HCC.out]
   replace Ba:=a_ gw1 Ba
   replace Bb:=a_ gw1 Bb
   replace Bq:=a_ gw1 Bq
   replace ma':=ma'.kept gw1
   replace mb':=mb'.kept gw1
   replace hG:=d_ hG gw1
   clear gw1
   obtain ⟨Ca0,Ca1,Fa0,Fa1⟩:=c_ Ba
   obtain ⟨Cb0,Cb1,Fb0,Fb1⟩:=c_ Bb
   obtain ⟨Cq0,Cq1,Fq0,Fq1⟩:=c_ Bq
   go_wp2_with fail
   go_region_held3 (fun w'=>w'.cell? ⟨w.heap.size,0,none⟩ = some (.int .i64 ga) ∧ w'.cell? ⟨w.heap.size,1,none⟩ = some (.slice sa la ca) ∧ w'.cell? ⟨w.heap.size + 1,0,none⟩ = some (.int .i64 gb) ∧ w'.cell? ⟨w.heap.size + 1,1,none⟩ = some (.slice sb lb cb))
    (first | assumption | exact ⟨Ca0,Ca1,Cb0,Cb1⟩ | exact HSw2_20 | go_keep)
    (first
      | (go_at_call 100; (with_reducible refine (cR_ w1.drew _ _ y.natAbs x.natAbs (mb'.kept (k_ (h_ _ _))) (ma'.kept (k_ (h_ _ _))) HLE.out Hlb.out).mono ?_); rintro e w2_1 ⟨vp,rfl,mp,gw2_1⟩; have hGw2_1:=o_ w1 gw2_1 rfl rfl rfl rfl; have hSw2_1:=(n_ (hGw2_1.cell Ca0 (by simp)) (n_ (hGw2_1.cell Ca1 (by simp)) (n_ (hGw2_1.cell Cb0 (by simp)) (hGw2_1.cell Cb1 (by simp))))); clear gw2_1)
      | (go_at_call 57; (with_reducible refine (K_ w2_1 _ gb (y.natAbs - x.natAbs) z mp hz.out.1 hz.out.2).mono ?_); rintro e w2_2 ⟨_,rfl,⟨gd,sd,ld,cd,rfl,hd,md⟩,gw2_2⟩; have hGw2_2:=d_ hGw2_1 gw2_2; replace mp:=mp.kept gw2_2; have rd : RIntV w2_2 (.agg #[.int .i64 gd,.slice sd ld cd]) (z):=⟨gd,sd,ld,cd,rfl,hd,md⟩; have hSw2_2:=(n_ (hGw2_2.cell Ca0 (by simp)) (n_ (hGw2_2.cell Ca1 (by simp)) (n_ (hGw2_2.cell Cb0 (by simp)) (hGw2_2.cell Cb1 (by simp))))); clear gw2_2; clear md; (obtain ⟨dq0,dq1,dq2,dq3⟩:=c_ (a_ hGw2_2 Bq)); have HSw2_20:=(n_ ((c_ (e_ (a_ hGw2_2 Ba) (show w.heap.size ≠ w.heap.size + 1 + 1 by omega) (.int .i64 gd) (.slice sd ld cd))).1) (n_ ((c_ (e_ (a_ hGw2_2 Ba) (show w.heap.size ≠ w.heap.size + 1 + 1 by omega) (.int .i64 gd) (.slice sd ld cd))).2.1) (n_ ((c_ (e_ (a_ hGw2_2 Bb) (show w.heap.size + 1 ≠ w.heap.size + 1 + 1 by omega) (.int .i64 gd) (.slice sd ld cd))).1) ((c_ (e_ (a_ hGw2_2 Bb) (show w.heap.size + 1 ≠ w.heap.size + 1 + 1 by omega) (.int .i64 gd) (.slice sd ld cd))).2.1))))))
   replace Bq:=a_ hGw2_2 Bq
   replace hG:=d_ hG hGw2_2
   clear Ca0 Fa0 Ca1 Fa1 Cb0 Fb0 Cb1 Fb1 Cq0 Fq0 Cq1 Fq1
   obtain ⟨k90,k91,k92,k93⟩:=c_ Bq
   obtain ⟨q90,q91,q92,q93⟩:=c_ (m_ Bq (.int .i64 gd) (.slice sd ld cd))
   have hF : Hid (Z_ w (z) (.returned (.agg #[.int .i64 gd,.slice sd ld cd])) ((w2_2.setCell ⟨w.heap.size + 1 + 1,0,none⟩ (.int .i64 gd)).setCell ⟨w.heap.size + 1 + 1,1,none⟩ (.slice sd ld cd))):=au_ hG Bq (by omega) rd
   clear ra ma' rb mb' mp rd
   go_wp2_with fail
   exact bodyPost_ret (v:=.agg #[.int .i64 gd,.slice sd ld cd]) (by simp [results,Tryz.results81,go_sem,q90,q91]) rfl hF.out
theorem gj_ {n m d e : Int} (hd : 0 < d) (he : 0 < e) : bT_ (Rat.divInt n d) (Rat.divInt m e) = bt_ (n * e) (m * d):=by
 rw [aA_,Rat.divInt_sub_divInt _ _ (by omega) (by omega),bD_ (Int.mul_pos hd he),eW_]
theorem bp_ {x y : Int} {E F : Nat} (hx : x.natAbs < D ^ E) (hy : y.natAbs < D ^ F) : (x * y).natAbs < D ^ (E + F):=by
 rw [Int.natAbs_mul,Nat.pow_add]; exact Nat.mul_lt_mul'' hx hy
theorem gB_ {x y : Int} {E : Nat} (hx : x.natAbs < D ^ E) (hy : y.natAbs < D ^ E) : (x + y).natAbs < D ^ (E + 1):=by
 have h1:=Int.natAbs_add_le x y
 rw [Nat.pow_succ]
 have h2 : D ^ E * 2 ≤ D ^ E * D:=Nat.mul_le_mul_left _ (by unfold D; omega)
 omega
theorem kA_ {n d m e : Int} {r t : Rat} (hd : 0 < d) (he : 0 < e) (h1 : Rat.divInt n d = r) (h2 : Rat.divInt m e = t) : Rat.divInt (n * e + m * d) (d * e) = r + t:=by
 rw [← h1,← h2,Rat.divInt_add_divInt _ _ (by omega) (by omega)]
theorem kX_ {n d m : Int} {r t : Rat} (hd : 0 < d) (h1 : Rat.divInt n d = r) (h2 : Rat.divInt m d = t) : Rat.divInt (n + m) d = r + t:=by
 rw [← kA_ hd hd h1 h2,← Int.add_mul,Rat.divInt_mul_right (by omega)]
theorem lx_ {n d : Int} {r : Rat} (h1 : Rat.divInt n d = r) : Rat.divInt (-n) d = -r:=by rw [← h1,Rat.neg_divInt]
set_option maxHeartbeats 16000000 in
theorem dY_ (w : World) (va vb : Value) (r t : Rat) (E M : Nat) (Ha : RQ w va r E) (Hb : RQ w vb t M) (hE : E + M ≤ 300000) :
    Calls Tryz.prog 41 #[va,vb] w (mf_ w (bT_ r t)):=by
 have HE : Hid (E + M ≤ 300000):=hE
 clear hE
 obtain ⟨ga,sa,la,ca,ga',sa',la',ca',na,da,rfl,ha,ha',ua⟩:=Ha
 obtain ⟨gb,sb,lb,cb,gb',sb',lb',cb',nb,db,rfl,hb,hb',ub⟩:=Hb
 obtain ⟨hG,Ba,Bb⟩:=en2_ w (.cells #[.int .i64 ga,.slice sa la ca,.int .i64 ga',.slice sa' la' ca'] 38) (.cells #[.int .i64 gb,.slice sb lb cb,.int .i64 gb',.slice sb' lb' cb'] 38)
 have oa : RQ w (.agg #[.int .i64 ga,.slice sa la ca,.int .i64 ga',.slice sa' la' ca']) r E:=⟨ga,sa,la,ca,ga',sa',la',ca',na,da,rfl,ha,ha',ua⟩
 have ya:=oa.kept hG
 have ra:=(show RIntV w (.agg #[.int .i64 ga,.slice sa la ca]) na from ha).kept hG
 have ra':=(show RIntV w (.agg #[.int .i64 ga',.slice sa' la' ca']) da from ha').kept hG
 have ob : RQ w (.agg #[.int .i64 gb,.slice sb lb cb,.int .i64 gb',.slice sb' lb' cb']) t M:=⟨gb,sb,lb,cb,gb',sb',lb',cb',nb,db,rfl,hb,hb',ub⟩
 have yb:=ob.kept hG
 have rb:=(show RIntV w (.agg #[.int .i64 gb,.slice sb lb cb]) nb from hb).kept hG
 have rb':=(show RIntV w (.agg #[.int .i64 gb',.slice sb' lb' cb']) db from hb').kept hG
 clear ha ha'
 clear hb hb'
 go_enter Tryz.func41,Tryz.ntmps41
 have HC : Hid (bt_ (na * db) (nb * da) = bT_ r t):=by show _ = _; rw [← ua.out.2.1,← ub.out.2.1,gj_ ua.out.1 ub.out.1]
 obtain ⟨Ca0,Ca1,Ca2,Ca3,Fa0,Fa1,Fa2,Fa3⟩:=b_ Ba
 obtain ⟨Cb0,Cb1,Cb2,Cb3,Fb0,Fb1,Fb2,Fb3⟩:=b_ Bb
 go_wp2_with fail
 generalize ((w.alloc (.cells #[.int .i64 ga,.slice sa la ca,.int .i64 ga',.slice sa' la' ca'] 38)).alloc (.cells #[.int .i64 gb,.slice sb lb cb,.int .i64 gb',.slice sb' lb' cb'] 38)) = w0 at *
 go_region_held3 (fun w'=>w'.cell? ⟨w.heap.size,0,none⟩ = some (.int .i64 ga) ∧ w'.cell? ⟨w.heap.size,1,none⟩ = some (.slice sa la ca) ∧ w'.cell? ⟨w.heap.size,2,none⟩ = some (.int .i64 ga') ∧ w'.cell? ⟨w.heap.size,3,none⟩ = some (.slice sa' la' ca') ∧ w'.cell? ⟨w.heap.size + 1,0,none⟩ = some (.int .i64 gb) ∧ w'.cell? ⟨w.heap.size + 1,1,none⟩ = some (.slice sb lb cb) ∧ w'.cell? ⟨w.heap.size + 1,2,none⟩ = some (.int .i64 gb') ∧ w'.cell? ⟨w.heap.size + 1,3,none⟩ = some (.slice sb' lb' cb'))
  (first | assumption | exact ⟨Ca0,Ca1,Ca2,Ca3,Cb0,Cb1,Cb2,Cb3⟩ | go_keep)
  (first
    | (go_at_call 78; (with_reducible refine (aM_ w0.drew _ _ na db (ra.kept (k_ (h_ _ _))) (rb'.kept (k_ (h_ _ _))) (dp6 ua.out.2.2.1 (by have:=HE.out; omega)) (dp6 ub.out.2.2.2 (by have:=HE.out; omega))).mono ?_); rintro e w1_1 ⟨vk1,rfl,k1,gw1_1⟩; have hGw1_1:=o_ w0 gw1_1 rfl rfl rfl rfl; have hSw1_1:=(n_ (hGw1_1.cell Ca0 (by simp)) (n_ (hGw1_1.cell Ca1 (by simp)) (n_ (hGw1_1.cell Ca2 (by simp)) (n_ (hGw1_1.cell Ca3 (by simp)) (n_ (hGw1_1.cell Cb0 (by simp)) (n_ (hGw1_1.cell Cb1 (by simp)) (n_ (hGw1_1.cell Cb2 (by simp)) (hGw1_1.cell Cb3 (by simp))))))))); clear gw1_1)
    | (go_at_call 78; (with_reducible refine (aM_ w1_1 _ _ nb da (rb.kept hGw1_1) (ra'.kept hGw1_1) (dp6 ub.out.2.2.1 (by have:=HE.out; omega)) (dp6 ua.out.2.2.2 (by have:=HE.out; omega))).mono ?_); rintro e w1_2 ⟨vk2,rfl,k2,gw1_2⟩; have hGw1_2:=d_ hGw1_1 gw1_2; replace k1:=k1.kept gw1_2; have hSw1_2:=(n_ (hGw1_2.cell Ca0 (by simp)) (n_ (hGw1_2.cell Ca1 (by simp)) (n_ (hGw1_2.cell Ca2 (by simp)) (n_ (hGw1_2.cell Ca3 (by simp)) (n_ (hGw1_2.cell Cb0 (by simp)) (n_ (hGw1_2.cell Cb1 (by simp)) (n_ (hGw1_2.cell Cb2 (by simp)) (hGw1_2.cell Cb3 (by simp))))))))); clear gw1_2)
    | (go_at_call 80; (with_reducible refine (bW_ w1_2 _ _ (na * db) (nb * da) k1 k2 (dp6 (bp_ ua.out.2.2.1 ub.out.2.2.2) (by have:=HE.out; omega)) (dp6 (bp_ ub.out.2.2.1 ua.out.2.2.2) (by have:=HE.out; omega))).mono ?_); rintro e w1_3 ⟨rfl,gw1_3⟩; rw [HC.out]; have hGw1_3:=d_ hGw1_2 gw1_3; replace k1:=k1.kept gw1_3; replace k2:=k2.kept gw1_3; have hSw1_3:=(n_ (hGw1_3.cell Ca0 (by simp)) (n_ (hGw1_3.cell Ca1 (by simp)) (n_ (hGw1_3.cell Ca2 (by simp)) (n_ (hGw1_3.cell Ca3 (by simp)) (n_ (hGw1_3.cell Cb0 (by simp)) (n_ (hGw1_3.cell Cb1 (by simp)) (n_ (hGw1_3.cell Cb2 (by simp)) (hGw1_3.cell Cb3 (by simp))))))))); clear gw1_3))
 replace Ba:=a_ hGw1_3 Ba
 replace Bb:=a_ hGw1_3 Bb
 replace hG:=d_ hG hGw1_3
 clear Ca0 Fa0 Ca1 Fa1 Ca2 Fa2 Ca3 Fa3 Cb0 Fb0 Cb1 Fb1 Cb2 Fb2 Cb3 Fb3
 obtain ⟨Ca0,Ca1,Ca2,Ca3,Fa0,Fa1,Fa2,Fa3⟩:=b_ Ba
 obtain ⟨Cb0,Cb1,Cb2,Cb3,Fb0,Fb1,Fb2,Fb3⟩:=b_ Bb
 go_wp2_with fail
 go_ret
 exact ⟨rfl,hG⟩
set_option maxHeartbeats 16000000 in
theorem dW_ (w : World) (va : Value) (r : Rat) (E : Nat) (Ha : RQ w va r E) (hE : E ≤ 300000) :
    Calls Tryz.prog 40 #[va] w (cg_ w (-r) E):=by
 have HE : Hid (E ≤ 300000):=hE
 clear hE
 obtain ⟨ga,sa,la,ca,ga',sa',la',ca',na,da,rfl,ha,ha',ua⟩:=Ha
 obtain ⟨hG,Ba,Bq⟩:=en2_ w (.cells #[.int .i64 ga,.slice sa la ca,.int .i64 ga',.slice sa' la' ca'] 38) (.cells #[.int .i64 0,.slice none 0 0,.int .i64 0,.slice none 0 0] 38)
 have oa : RQ w (.agg #[.int .i64 ga,.slice sa la ca,.int .i64 ga',.slice sa' la' ca']) r E:=⟨ga,sa,la,ca,ga',sa',la',ca',na,da,rfl,ha,ha',ua⟩
 have ya:=oa.kept hG
 have ra:=(show RIntV w (.agg #[.int .i64 ga,.slice sa la ca]) na from ha).kept hG
 have ra':=(show RIntV w (.agg #[.int .i64 ga',.slice sa' la' ca']) da from ha').kept hG
 clear ha ha'
 go_enter Tryz.func40,Tryz.ntmps40
 obtain ⟨Ca0,Ca1,Ca2,Ca3,Fa0,Fa1,Fa2,Fa3⟩:=b_ Ba
 obtain ⟨Cq0,Cq1,Cq2,Cq3,Fq0,Fq1,Fq2,Fq3⟩:=b_ Bq
 go_wp2_with fail
 generalize ((w.alloc (.cells #[.int .i64 ga,.slice sa la ca,.int .i64 ga',.slice sa' la' ca'] 38)).alloc (.cells #[.int .i64 0,.slice none 0 0,.int .i64 0,.slice none 0 0] 38)) = w0 at *
 go_region_held3 (fun w'=>w'.cell? ⟨w.heap.size,0,none⟩ = some (.int .i64 ga) ∧ w'.cell? ⟨w.heap.size,1,none⟩ = some (.slice sa la ca) ∧ w'.cell? ⟨w.heap.size,2,none⟩ = some (.int .i64 ga') ∧ w'.cell? ⟨w.heap.size,3,none⟩ = some (.slice sa' la' ca'))
  (first | assumption | exact ⟨Ca0,Ca1,Ca2,Ca3⟩ | exact HSw1_10 | go_keep)
  (first
    | (go_at_call 72; (with_reducible refine (ff_ w0.drew _ na (ra.kept (k_ (h_ _ _)))).mono ?_); rintro e w1_1 ⟨_,rfl,⟨gd,sd,ld,cd,rfl,hd,md⟩,gw1_1⟩; have hGw1_1:=o_ w0 gw1_1 rfl rfl rfl rfl; have rd : RIntV w1_1 (.agg #[.int .i64 gd,.slice sd ld cd]) (-na):=⟨gd,sd,ld,cd,rfl,hd,md⟩; have hSw1_1:=(n_ (hGw1_1.cell Ca0 (by simp)) (n_ (hGw1_1.cell Ca1 (by simp)) (n_ (hGw1_1.cell Ca2 (by simp)) (hGw1_1.cell Ca3 (by simp))))); clear gw1_1; clear md; (obtain ⟨dq0,dq1,dq2,dq3,dq4,dq5,dq6,dq7⟩:=b_ (a_ hGw1_1 Bq)); have HSw1_10:=(n_ ((b_ (i_ (a_ hGw1_1 Ba) (show w.heap.size ≠ w.heap.size + 1 by omega) (.int .i64 gd) (.slice sd ld cd) (.int .i64 ga') (.slice sa' la' ca'))).1) (n_ ((b_ (i_ (a_ hGw1_1 Ba) (show w.heap.size ≠ w.heap.size + 1 by omega) (.int .i64 gd) (.slice sd ld cd) (.int .i64 ga') (.slice sa' la' ca'))).2.1) (n_ ((b_ (i_ (a_ hGw1_1 Ba) (show w.heap.size ≠ w.heap.size + 1 by omega) (.int .i64 gd) (.slice sd ld cd) (.int .i64 ga') (.slice sa' la' ca'))).2.2.1) ((b_ (i_ (a_ hGw1_1 Ba) (show w.heap.size ≠ w.heap.size + 1 by omega) (.int .i64 gd) (.slice sd ld cd) (.int .i64 ga') (.slice sa' la' ca'))).2.2.2.1))))))
 replace Bq:=a_ hGw1_1 Bq
 replace ra':=ra'.kept hGw1_1
 replace hG:=d_ hG hGw1_1
 clear Ca0 Fa0 Ca1 Fa1 Ca2 Fa2 Ca3 Fa3 Cq0 Fq0 Cq1 Fq1 Cq2 Fq2 Cq3 Fq3
 have yd : RQ w1_1 (.agg #[.int .i64 gd,.slice sd ld cd,.int .i64 ga',.slice sa' la' ca']) (-r) E:=RQ.of rd ra' ua.out.1 (lx_ ua.out.2.1) (gy_ ua.out.2.2.1) ua.out.2.2.2
 obtain ⟨k90,k91,k92,k93,k94,k95,k96,k97⟩:=b_ Bq
 obtain ⟨q90,q91,q92,q93,q94,q95,q96,q97⟩:=b_ (r_ Bq (.int .i64 gd) (.slice sd ld cd) (.int .i64 ga') (.slice sa' la' ca'))
 have hF : Hid (cg_ w (-r) E (.returned (.agg #[.int .i64 gd,.slice sd ld cd,.int .i64 ga',.slice sa' la' ca'])) ((((w1_1.setCell ⟨w.heap.size + 1,0,none⟩ (.int .i64 gd)).setCell ⟨w.heap.size + 1,1,none⟩ (.slice sd ld cd)).setCell ⟨w.heap.size + 1,2,none⟩ (.int .i64 ga')).setCell ⟨w.heap.size + 1,3,none⟩ (.slice sa' la' ca'))):=dw_ hG Bq (by omega) yd
 clear ya ra ra' rd yd
 go_wp2_with fail
 exact bodyPost_ret (v:=.agg #[.int .i64 gd,.slice sd ld cd,.int .i64 ga',.slice sa' la' ca']) (by simp [results,Tryz.results40,go_sem,q90,q91,q92,q93]) rfl hF.out
set_option maxHeartbeats 16000000 in
theorem dZ_ (w : World) (va vb : Value) (r t : Rat) (E M : Nat) (Ha : RQ w va r E) (Hb : RQ w vb t M) (hE : E + M ≤ 300000) :
    Calls Tryz.prog 34 #[va,vb] w (cg_ w (r + t) (E + M + 1)):=by
 have HE : Hid (E + M ≤ 300000):=hE
 clear hE
 obtain ⟨ga,sa,la,ca,ga',sa',la',ca',na,da,rfl,ha,ha',ua⟩:=Ha
 obtain ⟨gb,sb,lb,cb,gb',sb',lb',cb',nb,db,rfl,hb,hb',ub⟩:=Hb
 obtain ⟨hG,Ba,Bb,Bq⟩:=en3_ w (.cells #[.int .i64 ga,.slice sa la ca,.int .i64 ga',.slice sa' la' ca'] 38) (.cells #[.int .i64 gb,.slice sb lb cb,.int .i64 gb',.slice sb' lb' cb'] 38) (.cells #[.int .i64 0,.slice none 0 0,.int .i64 0,.slice none 0 0] 38)
 have oa : RQ w (.agg #[.int .i64 ga,.slice sa la ca,.int .i64 ga',.slice sa' la' ca']) r E:=⟨ga,sa,la,ca,ga',sa',la',ca',na,da,rfl,ha,ha',ua⟩
 have ya:=oa.kept hG
 have ra:=(show RIntV w (.agg #[.int .i64 ga,.slice sa la ca]) na from ha).kept hG
 have ra':=(show RIntV w (.agg #[.int .i64 ga',.slice sa' la' ca']) da from ha').kept hG
 have ob : RQ w (.agg #[.int .i64 gb,.slice sb lb cb,.int .i64 gb',.slice sb' lb' cb']) t M:=⟨gb,sb,lb,cb,gb',sb',lb',cb',nb,db,rfl,hb,hb',ub⟩
 have yb:=ob.kept hG
 have rb:=(show RIntV w (.agg #[.int .i64 gb,.slice sb lb cb]) nb from hb).kept hG
 have rb':=(show RIntV w (.agg #[.int .i64 gb',.slice sb' lb' cb']) db from hb').kept hG
 clear ha ha'
 clear hb hb'
 go_enter Tryz.func34,Tryz.ntmps34
 have hc : (bt_ da db = 0 ∧ Hid (da = db)) ∨ ∃ k,bt_ da db = k ∧ (k == 0) = false:=by
  by_cases h : da = db
  · left; exact ⟨by unfold bt_; rw [if_neg (by omega),if_pos h],h⟩
  · right; refine ⟨_,rfl,?_⟩
    unfold bt_
    split <;> first | decide | (rw [if_neg h]; decide)
 rcases hc with ⟨hk,HD⟩ | ⟨k,hk,fk⟩
 · skip
   have HK:=H_ hk
   clear hk
   obtain ⟨Ca0,Ca1,Ca2,Ca3,Fa0,Fa1,Fa2,Fa3⟩:=b_ Ba
   obtain ⟨Cb0,Cb1,Cb2,Cb3,Fb0,Fb1,Fb2,Fb3⟩:=b_ Bb
   obtain ⟨Cq0,Cq1,Cq2,Cq3,Fq0,Fq1,Fq2,Fq3⟩:=b_ Bq
   go_wp2_with fail
   generalize (((w.alloc (.cells #[.int .i64 ga,.slice sa la ca,.int .i64 ga',.slice sa' la' ca'] 38)).alloc (.cells #[.int .i64 gb,.slice sb lb cb,.int .i64 gb',.slice sb' lb' cb'] 38)).alloc (.cells #[.int .i64 0,.slice none 0 0,.int .i64 0,.slice none 0 0] 38)) = w0 at *
   clear Ca0 Fa0 Ca1 Fa1 Ca2 Fa2 Ca3 Fa3 Cb0 Fb0 Cb1 Fb1 Cb2 Fb2 Cb3 Fb3 Cq0 Fq0 Cq1 Fq1 Cq2 Fq2 Cq3 Fq3
   refine (bW_ w0 _ _ da db ra' rb' (dp6 ua.out.2.2.2 (by have:=HE.out; omega)) (dp6 ub.out.2.2.2 (by have:=HE.out; omega))).mono ?_
   rintro e a1w1 ⟨rfl,ga1w1⟩
   rw [HK.out]
   replace Ba:=a_ ga1w1 Ba
   replace Bb:=a_ ga1w1 Bb
   replace Bq:=a_ ga1w1 Bq
   replace ra:=ra.kept ga1w1
   replace ra':=ra'.kept ga1w1
   replace rb:=rb.kept ga1w1
   replace hG:=d_ hG ga1w1
   clear ga1w1
   obtain ⟨Ca0,Ca1,Ca2,Ca3,Fa0,Fa1,Fa2,Fa3⟩:=b_ Ba
   obtain ⟨Cb0,Cb1,Cb2,Cb3,Fb0,Fb1,Fb2,Fb3⟩:=b_ Bb
   obtain ⟨Cq0,Cq1,Cq2,Cq3,Fq0,Fq1,Fq2,Fq3⟩:=b_ Bq
   go_wp2_with fail
   go_region_held3 (fun w'=>w'.cell? ⟨w.heap.size,0,none⟩ = some (.int .i64 ga) ∧ w'.cell? ⟨w.heap.size,1,none⟩ = some (.slice sa la ca) ∧ w'.cell? ⟨w.heap.size,2,none⟩ = some (.int .i64 ga') ∧ w'.cell? ⟨w.heap.size,3,none⟩ = some (.slice sa' la' ca') ∧ w'.cell? ⟨w.heap.size + 1,0,none⟩ = some (.int .i64 gb) ∧ w'.cell? ⟨w.heap.size + 1,1,none⟩ = some (.slice sb lb cb) ∧ w'.cell? ⟨w.heap.size + 1,2,none⟩ = some (.int .i64 gb') ∧ w'.cell? ⟨w.heap.size + 1,3,none⟩ = some (.slice sb' lb' cb'))
    (first | assumption | exact ⟨Ca0,Ca1,Ca2,Ca3,Cb0,Cb1,Cb2,Cb3⟩ | exact HSa1w2_10 | go_keep)
    (first
      | (go_at_call 81; (with_reducible refine (bX_ a1w1.drew _ _ na nb (ra.kept (k_ (h_ _ _))) (rb.kept (k_ (h_ _ _))) (dp6 ua.out.2.2.1 (by have:=HE.out; omega)) (dp6 ub.out.2.2.1 (by have:=HE.out; omega))).mono ?_); rintro e a1w2_1 ⟨_,rfl,⟨gd,sd,ld,cd,rfl,hd,md⟩,ga1w2_1⟩; have hGa1w2_1:=o_ a1w1 ga1w2_1 rfl rfl rfl rfl; have rd : RIntV a1w2_1 (.agg #[.int .i64 gd,.slice sd ld cd]) (na + nb):=⟨gd,sd,ld,cd,rfl,hd,md⟩; have hSa1w2_1:=(n_ (hGa1w2_1.cell Ca0 (by simp)) (n_ (hGa1w2_1.cell Ca1 (by simp)) (n_ (hGa1w2_1.cell Ca2 (by simp)) (n_ (hGa1w2_1.cell Ca3 (by simp)) (n_ (hGa1w2_1.cell Cb0 (by simp)) (n_ (hGa1w2_1.cell Cb1 (by simp)) (n_ (hGa1w2_1.cell Cb2 (by simp)) (hGa1w2_1.cell Cb3 (by simp))))))))); clear ga1w2_1; clear md; (obtain ⟨dq0,dq1,dq2,dq3,dq4,dq5,dq6,dq7⟩:=b_ (a_ hGa1w2_1 Bq)); have HSa1w2_10:=(n_ ((b_ (i_ (a_ hGa1w2_1 Ba) (show w.heap.size ≠ w.heap.size + 1 + 1 by omega) (.int .i64 gd) (.slice sd ld cd) (.int .i64 ga') (.slice sa' la' ca'))).1) (n_ ((b_ (i_ (a_ hGa1w2_1 Ba) (show w.heap.size ≠ w.heap.size + 1 + 1 by omega) (.int .i64 gd) (.slice sd ld cd) (.int .i64 ga') (.slice sa' la' ca'))).2.1) (n_ ((b_ (i_ (a_ hGa1w2_1 Ba) (show w.heap.size ≠ w.heap.size + 1 + 1 by omega) (.int .i64 gd) (.slice sd ld cd) (.int .i64 ga') (.slice sa' la' ca'))).2.2.1) (n_ ((b_ (i_ (a_ hGa1w2_1 Ba) (show w.heap.size ≠ w.heap.size + 1 + 1 by omega) (.int .i64 gd) (.slice sd ld cd) (.int .i64 ga') (.slice sa' la' ca'))).2.2.2.1) (n_ ((b_ (i_ (a_ hGa1w2_1 Bb) (show w.heap.size + 1 ≠ w.heap.size + 1 + 1 by omega) (.int .i64 gd) (.slice sd ld cd) (.int .i64 ga') (.slice sa' la' ca'))).1) (n_ ((b_ (i_ (a_ hGa1w2_1 Bb) (show w.heap.size + 1 ≠ w.heap.size + 1 + 1 by omega) (.int .i64 gd) (.slice sd ld cd) (.int .i64 ga') (.slice sa' la' ca'))).2.1) (n_ ((b_ (i_ (a_ hGa1w2_1 Bb) (show w.heap.size + 1 ≠ w.heap.size + 1 + 1 by omega) (.int .i64 gd) (.slice sd ld cd) (.int .i64 ga') (.slice sa' la' ca'))).2.2.1) ((b_ (i_ (a_ hGa1w2_1 Bb) (show w.heap.size + 1 ≠ w.heap.size + 1 + 1 by omega) (.int .i64 gd) (.slice sd ld cd) (.int .i64 ga') (.slice sa' la' ca'))).2.2.2.1))))))))))
   replace Bq:=a_ hGa1w2_1 Bq
   replace ra':=ra'.kept hGa1w2_1
   replace hG:=d_ hG hGa1w2_1
   clear Ca0 Fa0 Ca1 Fa1 Ca2 Fa2 Ca3 Fa3 Cb0 Fb0 Cb1 Fb1 Cb2 Fb2 Cb3 Fb3 Cq0 Fq0 Cq1 Fq1 Cq2 Fq2 Cq3 Fq3
   have yd : RQ a1w2_1 (.agg #[.int .i64 gd,.slice sd ld cd,.int .i64 ga',.slice sa' la' ca']) (r + t) (E + M + 1):=RQ.of rd ra' ua.out.1 (kX_ ua.out.1 ua.out.2.1 (by have h:=ub.out.2.1; rw [← HD.out] at h; exact h)) (gB_ (dpw ua.out.2.2.1 (by omega)) (dpw ub.out.2.2.1 (by omega))) (dpw ua.out.2.2.2 (by omega))
   obtain ⟨k90,k91,k92,k93,k94,k95,k96,k97⟩:=b_ Bq
   obtain ⟨q90,q91,q92,q93,q94,q95,q96,q97⟩:=b_ (r_ Bq (.int .i64 gd) (.slice sd ld cd) (.int .i64 ga') (.slice sa' la' ca'))
   have hF : Hid (cg_ w (r + t) (E + M + 1) (.returned (.agg #[.int .i64 gd,.slice sd ld cd,.int .i64 ga',.slice sa' la' ca'])) ((((a1w2_1.setCell ⟨w.heap.size + 1 + 1,0,none⟩ (.int .i64 gd)).setCell ⟨w.heap.size + 1 + 1,1,none⟩ (.slice sd ld cd)).setCell ⟨w.heap.size + 1 + 1,2,none⟩ (.int .i64 ga')).setCell ⟨w.heap.size + 1 + 1,3,none⟩ (.slice sa' la' ca'))):=dw_ hG Bq (by omega) yd
   clear ya ra ra' yb rb rb' rd yd
   go_wp2_with fail
   exact bodyPost_ret (v:=.agg #[.int .i64 gd,.slice sd ld cd,.int .i64 ga',.slice sa' la' ca']) (by simp [results,Tryz.results34,go_sem,q90,q91,q92,q93]) rfl hF.out
 · skip
   have HK:=H_ hk
   clear hk
   have FK:=H_ fk
   obtain ⟨Ca0,Ca1,Ca2,Ca3,Fa0,Fa1,Fa2,Fa3⟩:=b_ Ba
   obtain ⟨Cb0,Cb1,Cb2,Cb3,Fb0,Fb1,Fb2,Fb3⟩:=b_ Bb
   obtain ⟨Cq0,Cq1,Cq2,Cq3,Fq0,Fq1,Fq2,Fq3⟩:=b_ Bq
   go_wp2_with fail
   generalize (((w.alloc (.cells #[.int .i64 ga,.slice sa la ca,.int .i64 ga',.slice sa' la' ca'] 38)).alloc (.cells #[.int .i64 gb,.slice sb lb cb,.int .i64 gb',.slice sb' lb' cb'] 38)).alloc (.cells #[.int .i64 0,.slice none 0 0,.int .i64 0,.slice none 0 0] 38)) = w0 at *
   clear Ca0 Fa0 Ca1 Fa1 Ca2 Fa2 Ca3 Fa3 Cb0 Fb0 Cb1 Fb1 Cb2 Fb2 Cb3 Fb3 Cq0 Fq0 Cq1 Fq1 Cq2 Fq2 Cq3 Fq3
   refine (bW_ w0 _ _ da db ra' rb' (dp6 ua.out.2.2.2 (by have:=HE.out; omega)) (dp6 ub.out.2.2.2 (by have:=HE.out; omega))).mono ?_
   rintro e a0w1 ⟨rfl,ga0w1⟩
   rw [HK.out]
   replace Ba:=a_ ga0w1 Ba
   replace Bb:=a_ ga0w1 Bb
   replace Bq:=a_ ga0w1 Bq
   replace ra:=ra.kept ga0w1
   replace ra':=ra'.kept ga0w1
   replace rb:=rb.kept ga0w1
   replace rb':=rb'.kept ga0w1
   replace hG:=d_ hG ga0w1
   clear ga0w1
   obtain ⟨Ca0,Ca1,Ca2,Ca3,Fa0,Fa1,Fa2,Fa3⟩:=b_ Ba
   obtain ⟨Cb0,Cb1,Cb2,Cb3,Fb0,Fb1,Fb2,Fb3⟩:=b_ Bb
   obtain ⟨Cq0,Cq1,Cq2,Cq3,Fq0,Fq1,Fq2,Fq3⟩:=b_ Bq
   go_wp2_with fail
   go_region_held3 (fun w'=>w'.cell? ⟨w.heap.size,0,none⟩ = some (.int .i64 ga) ∧ w'.cell? ⟨w.heap.size,1,none⟩ = some (.slice sa la ca) ∧ w'.cell? ⟨w.heap.size,2,none⟩ = some (.int .i64 ga') ∧ w'.cell? ⟨w.heap.size,3,none⟩ = some (.slice sa' la' ca') ∧ w'.cell? ⟨w.heap.size + 1,0,none⟩ = some (.int .i64 gb) ∧ w'.cell? ⟨w.heap.size + 1,1,none⟩ = some (.slice sb lb cb) ∧ w'.cell? ⟨w.heap.size + 1,2,none⟩ = some (.int .i64 gb') ∧ w'.cell? ⟨w.heap.size + 1,3,none⟩ = some (.slice sb' lb' cb'))
    (first | assumption | exact ⟨Ca0,Ca1,Ca2,Ca3,Cb0,Cb1,Cb2,Cb3⟩ | exact HSa0w2_40 | go_keep)
    (first
      | (go_at_call 78; (with_reducible refine (aM_ a0w1.drew _ _ na db (ra.kept (k_ (h_ _ _))) (rb'.kept (k_ (h_ _ _))) (dp6 ua.out.2.2.1 (by have:=HE.out; omega)) (dp6 ub.out.2.2.2 (by have:=HE.out; omega))).mono ?_); rintro e a0w2_1 ⟨vk1,rfl,k1,ga0w2_1⟩; have hGa0w2_1:=o_ a0w1 ga0w2_1 rfl rfl rfl rfl; have hSa0w2_1:=(n_ (hGa0w2_1.cell Ca0 (by simp)) (n_ (hGa0w2_1.cell Ca1 (by simp)) (n_ (hGa0w2_1.cell Ca2 (by simp)) (n_ (hGa0w2_1.cell Ca3 (by simp)) (n_ (hGa0w2_1.cell Cb0 (by simp)) (n_ (hGa0w2_1.cell Cb1 (by simp)) (n_ (hGa0w2_1.cell Cb2 (by simp)) (hGa0w2_1.cell Cb3 (by simp))))))))); clear ga0w2_1)
      | (go_at_call 78; (with_reducible refine (aM_ a0w2_1 _ _ nb da (rb.kept hGa0w2_1) (ra'.kept hGa0w2_1) (dp6 ub.out.2.2.1 (by have:=HE.out; omega)) (dp6 ua.out.2.2.2 (by have:=HE.out; omega))).mono ?_); rintro e a0w2_2 ⟨vk2,rfl,k2,ga0w2_2⟩; have hGa0w2_2:=d_ hGa0w2_1 ga0w2_2; replace k1:=k1.kept ga0w2_2; have hSa0w2_2:=(n_ (hGa0w2_2.cell Ca0 (by simp)) (n_ (hGa0w2_2.cell Ca1 (by simp)) (n_ (hGa0w2_2.cell Ca2 (by simp)) (n_ (hGa0w2_2.cell Ca3 (by simp)) (n_ (hGa0w2_2.cell Cb0 (by simp)) (n_ (hGa0w2_2.cell Cb1 (by simp)) (n_ (hGa0w2_2.cell Cb2 (by simp)) (hGa0w2_2.cell Cb3 (by simp))))))))); clear ga0w2_2)
      | (go_at_call 81; (with_reducible refine (bX_ a0w2_2 _ _ (na * db) (nb * da) k1 k2 (dp6 (bp_ ua.out.2.2.1 ub.out.2.2.2) (by have:=HE.out; omega)) (dp6 (bp_ ub.out.2.2.1 ua.out.2.2.2) (by have:=HE.out; omega))).mono ?_); rintro e a0w2_3 ⟨_,rfl,⟨gd,sd,ld,cd,rfl,hd,md⟩,ga0w2_3⟩; have hGa0w2_3:=d_ hGa0w2_2 ga0w2_3; replace k1:=k1.kept ga0w2_3; replace k2:=k2.kept ga0w2_3; have rd : RIntV a0w2_3 (.agg #[.int .i64 gd,.slice sd ld cd]) (na * db + nb * da):=⟨gd,sd,ld,cd,rfl,hd,md⟩; have hSa0w2_3:=(n_ (hGa0w2_3.cell Ca0 (by simp)) (n_ (hGa0w2_3.cell Ca1 (by simp)) (n_ (hGa0w2_3.cell Ca2 (by simp)) (n_ (hGa0w2_3.cell Ca3 (by simp)) (n_ (hGa0w2_3.cell Cb0 (by simp)) (n_ (hGa0w2_3.cell Cb1 (by simp)) (n_ (hGa0w2_3.cell Cb2 (by simp)) (hGa0w2_3.cell Cb3 (by simp))))))))); clear ga0w2_3; clear md)
      | (go_at_call 78; (with_reducible refine (aM_ a0w2_3 _ _ da db (ra'.kept hGa0w2_3) (rb'.kept hGa0w2_3) (dp6 ua.out.2.2.2 (by have:=HE.out; omega)) (dp6 ub.out.2.2.2 (by have:=HE.out; omega))).mono ?_); rintro e a0w2_4 ⟨_,rfl,⟨ge,se,le,ce,rfl,he,me⟩,ga0w2_4⟩; have hGa0w2_4:=d_ hGa0w2_3 ga0w2_4; replace k1:=k1.kept ga0w2_4; replace k2:=k2.kept ga0w2_4; replace rd:=rd.kept ga0w2_4; have re : RIntV a0w2_4 (.agg #[.int .i64 ge,.slice se le ce]) (da * db):=⟨ge,se,le,ce,rfl,he,me⟩; have hSa0w2_4:=(n_ (hGa0w2_4.cell Ca0 (by simp)) (n_ (hGa0w2_4.cell Ca1 (by simp)) (n_ (hGa0w2_4.cell Ca2 (by simp)) (n_ (hGa0w2_4.cell Ca3 (by simp)) (n_ (hGa0w2_4.cell Cb0 (by simp)) (n_ (hGa0w2_4.cell Cb1 (by simp)) (n_ (hGa0w2_4.cell Cb2 (by simp)) (hGa0w2_4.cell Cb3 (by simp))))))))); clear ga0w2_4; clear me; (obtain ⟨dq0,dq1,dq2,dq3,dq4,dq5,dq6,dq7⟩:=b_ (a_ hGa0w2_4 Bq)); have HSa0w2_40:=(n_ ((b_ (i_ (a_ hGa0w2_4 Ba) (show w.heap.size ≠ w.heap.size + 1 + 1 by omega) (.int .i64 gd) (.slice sd ld cd) (.int .i64 ge) (.slice se le ce))).1) (n_ ((b_ (i_ (a_ hGa0w2_4 Ba) (show w.heap.size ≠ w.heap.size + 1 + 1 by omega) (.int .i64 gd) (.slice sd ld cd) (.int .i64 ge) (.slice se le ce))).2.1) (n_ ((b_ (i_ (a_ hGa0w2_4 Ba) (show w.heap.size ≠ w.heap.size + 1 + 1 by omega) (.int .i64 gd) (.slice sd ld cd) (.int .i64 ge) (.slice se le ce))).2.2.1) (n_ ((b_ (i_ (a_ hGa0w2_4 Ba) (show w.heap.size ≠ w.heap.size + 1 + 1 by omega) (.int .i64 gd) (.slice sd ld cd) (.int .i64 ge) (.slice se le ce))).2.2.2.1) (n_ ((b_ (i_ (a_ hGa0w2_4 Bb) (show w.heap.size + 1 ≠ w.heap.size + 1 + 1 by omega) (.int .i64 gd) (.slice sd ld cd) (.int .i64 ge) (.slice se le ce))).1) (n_ ((b_ (i_ (a_ hGa0w2_4 Bb) (show w.heap.size + 1 ≠ w.heap.size + 1 + 1 by omega) (.int .i64 gd) (.slice sd ld cd) (.int .i64 ge) (.slice se le ce))).2.1) (n_ ((b_ (i_ (a_ hGa0w2_4 Bb) (show w.heap.size + 1 ≠ w.heap.size + 1 + 1 by omega) (.int .i64 gd) (.slice sd ld cd) (.int .i64 ge) (.slice se le ce))).2.2.1) ((b_ (i_ (a_ hGa0w2_4 Bb) (show w.heap.size + 1 ≠ w.heap.size + 1 + 1 by omega) (.int .i64 gd) (.slice sd ld cd) (.int .i64 ge) (.slice se le ce))).2.2.2.1))))))))))
   replace Bq:=a_ hGa0w2_4 Bq
   replace hG:=d_ hG hGa0w2_4
   clear Ca0 Fa0 Ca1 Fa1 Ca2 Fa2 Ca3 Fa3 Cb0 Fb0 Cb1 Fb1 Cb2 Fb2 Cb3 Fb3 Cq0 Fq0 Cq1 Fq1 Cq2 Fq2 Cq3 Fq3
   have yd : RQ a0w2_4 (.agg #[.int .i64 gd,.slice sd ld cd,.int .i64 ge,.slice se le ce]) (r + t) (E + M + 1):=RQ.of rd re (Int.mul_pos ua.out.1 ub.out.1) (kA_ ua.out.1 ub.out.1 ua.out.2.1 ub.out.2.1) (gB_ (bp_ ua.out.2.2.1 ub.out.2.2.2) (dpw (bp_ ub.out.2.2.1 ua.out.2.2.2) (by omega))) (dpw (bp_ ua.out.2.2.2 ub.out.2.2.2) (by omega))
   obtain ⟨k90,k91,k92,k93,k94,k95,k96,k97⟩:=b_ Bq
   obtain ⟨q90,q91,q92,q93,q94,q95,q96,q97⟩:=b_ (r_ Bq (.int .i64 gd) (.slice sd ld cd) (.int .i64 ge) (.slice se le ce))
   have hF : Hid (cg_ w (r + t) (E + M + 1) (.returned (.agg #[.int .i64 gd,.slice sd ld cd,.int .i64 ge,.slice se le ce])) ((((a0w2_4.setCell ⟨w.heap.size + 1 + 1,0,none⟩ (.int .i64 gd)).setCell ⟨w.heap.size + 1 + 1,1,none⟩ (.slice sd ld cd)).setCell ⟨w.heap.size + 1 + 1,2,none⟩ (.int .i64 ge)).setCell ⟨w.heap.size + 1 + 1,3,none⟩ (.slice se le ce))):=dw_ hG Bq (by omega) yd
   clear ya ra ra' yb rb rb' k1 k2 rd re yd
   go_wp2_with fail
   exact bodyPost_ret (v:=.agg #[.int .i64 gd,.slice sd ld cd,.int .i64 ge,.slice se le ce]) (by simp [results,Tryz.results34,go_sem,q90,q91,q92,q93]) rfl hF.out
set_option maxHeartbeats 16000000 in
theorem cP_ (w : World) (va vb : Value) (r t : Rat) (E M : Nat) (Ha : RQ w va r E) (Hb : RQ w vb t M) (hE : E + M ≤ 300000) :
    Calls Tryz.prog 36 #[va,vb] w (cg_ w (r - t) (E + M + 1)):=by
 rw [Rat.sub_eq_add_neg]
 have HE : Hid (E + M ≤ 300000):=hE
 clear hE
 obtain ⟨ga,sa,la,ca,ga',sa',la',ca',na,da,rfl,ha,ha',ua⟩:=Ha
 obtain ⟨gb,sb,lb,cb,gb',sb',lb',cb',nb,db,rfl,hb,hb',ub⟩:=Hb
 obtain ⟨hG,Ba,Bb,Bq⟩:=en3_ w (.cells #[.int .i64 ga,.slice sa la ca,.int .i64 ga',.slice sa' la' ca'] 38) (.cells #[.int .i64 gb,.slice sb lb cb,.int .i64 gb',.slice sb' lb' cb'] 38) (.cells #[.int .i64 0,.slice none 0 0,.int .i64 0,.slice none 0 0] 38)
 have oa : RQ w (.agg #[.int .i64 ga,.slice sa la ca,.int .i64 ga',.slice sa' la' ca']) r E:=⟨ga,sa,la,ca,ga',sa',la',ca',na,da,rfl,ha,ha',ua⟩
 have ya:=oa.kept hG
 have ob : RQ w (.agg #[.int .i64 gb,.slice sb lb cb,.int .i64 gb',.slice sb' lb' cb']) t M:=⟨gb,sb,lb,cb,gb',sb',lb',cb',nb,db,rfl,hb,hb',ub⟩
 have yb:=ob.kept hG
 clear ha ha'
 clear hb hb'
 go_enter Tryz.func36,Tryz.ntmps36
 obtain ⟨Ca0,Ca1,Ca2,Ca3,Fa0,Fa1,Fa2,Fa3⟩:=b_ Ba
 obtain ⟨Cb0,Cb1,Cb2,Cb3,Fb0,Fb1,Fb2,Fb3⟩:=b_ Bb
 obtain ⟨Cq0,Cq1,Cq2,Cq3,Fq0,Fq1,Fq2,Fq3⟩:=b_ Bq
 go_wp2_with fail
 generalize (((w.alloc (.cells #[.int .i64 ga,.slice sa la ca,.int .i64 ga',.slice sa' la' ca'] 38)).alloc (.cells #[.int .i64 gb,.slice sb lb cb,.int .i64 gb',.slice sb' lb' cb'] 38)).alloc (.cells #[.int .i64 0,.slice none 0 0,.int .i64 0,.slice none 0 0] 38)) = w0 at *
 go_region_held3 (fun w'=>w'.cell? ⟨w.heap.size,0,none⟩ = some (.int .i64 ga) ∧ w'.cell? ⟨w.heap.size,1,none⟩ = some (.slice sa la ca) ∧ w'.cell? ⟨w.heap.size,2,none⟩ = some (.int .i64 ga') ∧ w'.cell? ⟨w.heap.size,3,none⟩ = some (.slice sa' la' ca') ∧ w'.cell? ⟨w.heap.size + 1,0,none⟩ = some (.int .i64 gb) ∧ w'.cell? ⟨w.heap.size + 1,1,none⟩ = some (.slice sb lb cb) ∧ w'.cell? ⟨w.heap.size + 1,2,none⟩ = some (.int .i64 gb') ∧ w'.cell? ⟨w.heap.size + 1,3,none⟩ = some (.slice sb' lb' cb'))
  (first | assumption | exact ⟨Ca0,Ca1,Ca2,Ca3,Cb0,Cb1,Cb2,Cb3⟩ | exact HSw1_20 | go_keep)
  (first
    | (go_at_call 40; (with_reducible refine (dW_ w0.drew _ t M (yb.kept (k_ (h_ _ _))) (by have:=HE.out; omega)).mono ?_); rintro e w1_1 ⟨v1,rfl,k1,gw1_1⟩; have hGw1_1:=o_ w0 gw1_1 rfl rfl rfl rfl; have hSw1_1:=(n_ (hGw1_1.cell Ca0 (by simp)) (n_ (hGw1_1.cell Ca1 (by simp)) (n_ (hGw1_1.cell Ca2 (by simp)) (n_ (hGw1_1.cell Ca3 (by simp)) (n_ (hGw1_1.cell Cb0 (by simp)) (n_ (hGw1_1.cell Cb1 (by simp)) (n_ (hGw1_1.cell Cb2 (by simp)) (hGw1_1.cell Cb3 (by simp))))))))); clear gw1_1)
    | (go_at_call 34; (with_reducible refine (dZ_ w1_1 _ _ r (-t) E M (ya.kept hGw1_1) k1 HE.out).mono ?_); rintro e w1_2 ⟨_,rfl,⟨gd,sd,ld,cd,gd',sd',ld',cd',nd,dd,rfl,hd,hd',ud⟩,gw1_2⟩; have hGw1_2:=d_ hGw1_1 gw1_2; replace k1:=k1.kept gw1_2; have yd : RQ w1_2 (.agg #[.int .i64 gd,.slice sd ld cd,.int .i64 gd',.slice sd' ld' cd']) (r + -t) (E + M + 1):=⟨gd,sd,ld,cd,gd',sd',ld',cd',nd,dd,rfl,hd,hd',ud⟩; have hSw1_2:=(n_ (hGw1_2.cell Ca0 (by simp)) (n_ (hGw1_2.cell Ca1 (by simp)) (n_ (hGw1_2.cell Ca2 (by simp)) (n_ (hGw1_2.cell Ca3 (by simp)) (n_ (hGw1_2.cell Cb0 (by simp)) (n_ (hGw1_2.cell Cb1 (by simp)) (n_ (hGw1_2.cell Cb2 (by simp)) (hGw1_2.cell Cb3 (by simp))))))))); clear gw1_2; clear hd hd'; (obtain ⟨dq0,dq1,dq2,dq3,dq4,dq5,dq6,dq7⟩:=b_ (a_ hGw1_2 Bq)); have HSw1_20:=(n_ ((b_ (i_ (a_ hGw1_2 Ba) (show w.heap.size ≠ w.heap.size + 1 + 1 by omega) (.int .i64 gd) (.slice sd ld cd) (.int .i64 gd') (.slice sd' ld' cd'))).1) (n_ ((b_ (i_ (a_ hGw1_2 Ba) (show w.heap.size ≠ w.heap.size + 1 + 1 by omega) (.int .i64 gd) (.slice sd ld cd) (.int .i64 gd') (.slice sd' ld' cd'))).2.1) (n_ ((b_ (i_ (a_ hGw1_2 Ba) (show w.heap.size ≠ w.heap.size + 1 + 1 by omega) (.int .i64 gd) (.slice sd ld cd) (.int .i64 gd') (.slice sd' ld' cd'))).2.2.1) (n_ ((b_ (i_ (a_ hGw1_2 Ba) (show w.heap.size ≠ w.heap.size + 1 + 1 by omega) (.int .i64 gd) (.slice sd ld cd) (.int .i64 gd') (.slice sd' ld' cd'))).2.2.2.1) (n_ ((b_ (i_ (a_ hGw1_2 Bb) (show w.heap.size + 1 ≠ w.heap.size + 1 + 1 by omega) (.int .i64 gd) (.slice sd ld cd) (.int .i64 gd') (.slice sd' ld' cd'))).1) (n_ ((b_ (i_ (a_ hGw1_2 Bb) (show w.heap.size + 1 ≠ w.heap.size + 1 + 1 by omega) (.int .i64 gd) (.slice sd ld cd) (.int .i64 gd') (.slice sd' ld' cd'))).2.1) (n_ ((b_ (i_ (a_ hGw1_2 Bb) (show w.heap.size + 1 ≠ w.heap.size + 1 + 1 by omega) (.int .i64 gd) (.slice sd ld cd) (.int .i64 gd') (.slice sd' ld' cd'))).2.2.1) ((b_ (i_ (a_ hGw1_2 Bb) (show w.heap.size + 1 ≠ w.heap.size + 1 + 1 by omega) (.int .i64 gd) (.slice sd ld cd) (.int .i64 gd') (.slice sd' ld' cd'))).2.2.2.1))))))))))
 replace Bq:=a_ hGw1_2 Bq
 replace hG:=d_ hG hGw1_2
 clear Ca0 Fa0 Ca1 Fa1 Ca2 Fa2 Ca3 Fa3 Cb0 Fb0 Cb1 Fb1 Cb2 Fb2 Cb3 Fb3 Cq0 Fq0 Cq1 Fq1 Cq2 Fq2 Cq3 Fq3
 obtain ⟨k90,k91,k92,k93,k94,k95,k96,k97⟩:=b_ Bq
 obtain ⟨q90,q91,q92,q93,q94,q95,q96,q97⟩:=b_ (r_ Bq (.int .i64 gd) (.slice sd ld cd) (.int .i64 gd') (.slice sd' ld' cd'))
 have hF : Hid (cg_ w (r + -t) (E + M + 1) (.returned (.agg #[.int .i64 gd,.slice sd ld cd,.int .i64 gd',.slice sd' ld' cd'])) ((((w1_2.setCell ⟨w.heap.size + 1 + 1,0,none⟩ (.int .i64 gd)).setCell ⟨w.heap.size + 1 + 1,1,none⟩ (.slice sd ld cd)).setCell ⟨w.heap.size + 1 + 1,2,none⟩ (.int .i64 gd')).setCell ⟨w.heap.size + 1 + 1,3,none⟩ (.slice sd' ld' cd'))):=dw_ hG Bq (by omega) yd
 clear ya yb k1 yd
 go_wp2_with fail
 exact bodyPost_ret (v:=.agg #[.int .i64 gd,.slice sd ld cd,.int .i64 gd',.slice sd' ld' cd']) (by simp [results,Tryz.results36,go_sem,q90,q91,q92,q93]) rfl hF.out
end Go.Proofs.YtgbbdgioohaknaaGreatDoor
