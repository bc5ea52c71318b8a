/- What the laws lean on, part 47. -/
import Derived.Deep.RegionHeld3
import Derived.Test.YtgbbdgioohaknaaGreatDoorPb20
import Derived.Test.YtgbbdgioohaknaaGreatDoorPb29
import Derived.Test.YtgbbdgioohaknaaGreatDoorPb30
import Derived.Test.YtgbbdgioohaknaaGreatDoorPb35
import Derived.Test.YtgbbdgioohaknaaGreatDoorPb48
import Derived.Test.YtgbbdgioohaknaaGreatDoorPb50
import Derived.Test.YtgbbdgioohaknaaGreatDoorPb52
import Derived.Test.YtgbbdgioohaknaaGreatDoorPb53
import Derived.Test.YtgbbdgioohaknaaGreatDoorPb55
namespace Go.Proofs.YtgbbdgioohaknaaGreatDoor
open Go.RowKit Mat
set_option maxRecDepth 100000
set_option linter.unusedVariables false
set_option linter.unusedSimpArgs false
theorem lz_ {n d m e : Int} {r t : Rat} (h1 : Rat.divInt n d = r) (h2 : Rat.divInt m e = t) : Rat.divInt (n * m) (d * e) = r * t:=by
 rw [← h1,← h2,Rat.divInt_mul_divInt]
theorem il_ {n d : Int} {r : Rat} (h : Rat.divInt n d = r) (h0 : r ≠ 0) : n ≠ 0:=fun e=>h0 (by rw [← h,e,Rat.zero_divInt])
set_option maxHeartbeats 16000000 in
theorem fN_ (w : World) (va vb : Value) (r t : Rat) (E M : Nat) (Ha : RQ w va r E) (Hb : RQ w vb t M) (hE : E + M ≤ 300000) :
    Calls Tryz.prog 38 #[va,vb] w (cg_ w (r * t) (E + M)):=by
 have HE : Hid (E + M ≤ 300000):=hE
 clear hE
 obtain ⟨ga,sa,la,ca,ga',sa',la',ca',na,da,rfl,ha,ha',ua⟩:=Ha
 obtain ⟨gb,sb,lb,cb,gb',sb',lb',cb',nb,db,rfl,hb,hb',ub⟩:=Hb
 obtain ⟨hG,Ba,Bb,Bq⟩:=en3_ w (.cells #[.int .i64 ga,.slice sa la ca,.int .i64 ga',.slice sa' la' ca'] 38) (.cells #[.int .i64 gb,.slice sb lb cb,.int .i64 gb',.slice sb' lb' cb'] 38) (.cells #[.int .i64 0,.slice none 0 0,.int .i64 0,.slice none 0 0] 38)
 have oa : RQ w (.agg #[.int .i64 ga,.slice sa la ca,.int .i64 ga',.slice sa' la' ca']) r E:=⟨ga,sa,la,ca,ga',sa',la',ca',na,da,rfl,ha,ha',ua⟩
 have ya:=oa.kept hG
 have ra:=(show RIntV w (.agg #[.int .i64 ga,.slice sa la ca]) na from ha).kept hG
 have ra':=(show RIntV w (.agg #[.int .i64 ga',.slice sa' la' ca']) da from ha').kept hG
 have ob : RQ w (.agg #[.int .i64 gb,.slice sb lb cb,.int .i64 gb',.slice sb' lb' cb']) t M:=⟨gb,sb,lb,cb,gb',sb',lb',cb',nb,db,rfl,hb,hb',ub⟩
 have yb:=ob.kept hG
 have rb:=(show RIntV w (.agg #[.int .i64 gb,.slice sb lb cb]) nb from hb).kept hG
 have rb':=(show RIntV w (.agg #[.int .i64 gb',.slice sb' lb' cb']) db from hb').kept hG
 clear ha ha'
 clear hb hb'
 go_enter Tryz.func38,Tryz.ntmps38
 obtain ⟨Ca0,Ca1,Ca2,Ca3,Fa0,Fa1,Fa2,Fa3⟩:=b_ Ba
 obtain ⟨Cb0,Cb1,Cb2,Cb3,Fb0,Fb1,Fb2,Fb3⟩:=b_ Bb
 obtain ⟨Cq0,Cq1,Cq2,Cq3,Fq0,Fq1,Fq2,Fq3⟩:=b_ Bq
 go_wp2_with fail
 generalize (((w.alloc (.cells #[.int .i64 ga,.slice sa la ca,.int .i64 ga',.slice sa' la' ca'] 38)).alloc (.cells #[.int .i64 gb,.slice sb lb cb,.int .i64 gb',.slice sb' lb' cb'] 38)).alloc (.cells #[.int .i64 0,.slice none 0 0,.int .i64 0,.slice none 0 0] 38)) = w0 at *
 go_region_held3 (fun w'=>w'.cell? ⟨w.heap.size,0,none⟩ = some (.int .i64 ga) ∧ w'.cell? ⟨w.heap.size,1,none⟩ = some (.slice sa la ca) ∧ w'.cell? ⟨w.heap.size,2,none⟩ = some (.int .i64 ga') ∧ w'.cell? ⟨w.heap.size,3,none⟩ = some (.slice sa' la' ca') ∧ w'.cell? ⟨w.heap.size + 1,0,none⟩ = some (.int .i64 gb) ∧ w'.cell? ⟨w.heap.size + 1,1,none⟩ = some (.slice sb lb cb) ∧ w'.cell? ⟨w.heap.size + 1,2,none⟩ = some (.int .i64 gb') ∧ w'.cell? ⟨w.heap.size + 1,3,none⟩ = some (.slice sb' lb' cb'))
  (first | assumption | exact ⟨Ca0,Ca1,Ca2,Ca3,Cb0,Cb1,Cb2,Cb3⟩ | exact HSw1_20 | go_keep)
  (first
    | (go_at_call 78; (with_reducible refine (aM_ w0.drew _ _ na nb (ra.kept (k_ (h_ _ _))) (rb.kept (k_ (h_ _ _))) (dp6 ua.out.2.2.1 (by have:=HE.out; omega)) (dp6 ub.out.2.2.1 (by have:=HE.out; omega))).mono ?_); rintro e w1_1 ⟨_,rfl,⟨gd,sd,ld,cd,rfl,hd,md⟩,gw1_1⟩; have Zw1_1:=o_ w0 gw1_1 rfl rfl rfl rfl; have rd : RIntV w1_1 (.agg #[.int .i64 gd,.slice sd ld cd]) (na * nb):=⟨gd,sd,ld,cd,rfl,hd,md⟩; have hSw1_1:=(n_ (Zw1_1.cell Ca0 (by simp)) (n_ (Zw1_1.cell Ca1 (by simp)) (n_ (Zw1_1.cell Ca2 (by simp)) (n_ (Zw1_1.cell Ca3 (by simp)) (n_ (Zw1_1.cell Cb0 (by simp)) (n_ (Zw1_1.cell Cb1 (by simp)) (n_ (Zw1_1.cell Cb2 (by simp)) (Zw1_1.cell Cb3 (by simp))))))))); clear gw1_1; clear md)
    | (go_at_call 78; (with_reducible refine (aM_ w1_1 _ _ da db (ra'.kept Zw1_1) (rb'.kept Zw1_1) (dp6 ua.out.2.2.2 (by have:=HE.out; omega)) (dp6 ub.out.2.2.2 (by have:=HE.out; omega))).mono ?_); rintro e w1_2 ⟨_,rfl,⟨ge,se,le,ce,rfl,he,me⟩,gw1_2⟩; have Zw1_2:=d_ Zw1_1 gw1_2; replace rd:=rd.kept gw1_2; have re : RIntV w1_2 (.agg #[.int .i64 ge,.slice se le ce]) (da * db):=⟨ge,se,le,ce,rfl,he,me⟩; have hSw1_2:=(n_ (Zw1_2.cell Ca0 (by simp)) (n_ (Zw1_2.cell Ca1 (by simp)) (n_ (Zw1_2.cell Ca2 (by simp)) (n_ (Zw1_2.cell Ca3 (by simp)) (n_ (Zw1_2.cell Cb0 (by simp)) (n_ (Zw1_2.cell Cb1 (by simp)) (n_ (Zw1_2.cell Cb2 (by simp)) (Zw1_2.cell Cb3 (by simp))))))))); clear gw1_2; clear me; (obtain ⟨dq0,dq1,dq2,dq3,dq4,dq5,dq6,dq7⟩:=b_ (a_ Zw1_2 Bq)); have HSw1_20:=(n_ ((b_ (i_ (a_ Zw1_2 Ba) (show w.heap.size ≠ w.heap.size + 1 + 1 by omega) (.int .i64 gd) (.slice sd ld cd) (.int .i64 ge) (.slice se le ce))).1) (n_ ((b_ (i_ (a_ Zw1_2 Ba) (show w.heap.size ≠ w.heap.size + 1 + 1 by omega) (.int .i64 gd) (.slice sd ld cd) (.int .i64 ge) (.slice se le ce))).2.1) (n_ ((b_ (i_ (a_ Zw1_2 Ba) (show w.heap.size ≠ w.heap.size + 1 + 1 by omega) (.int .i64 gd) (.slice sd ld cd) (.int .i64 ge) (.slice se le ce))).2.2.1) (n_ ((b_ (i_ (a_ Zw1_2 Ba) (show w.heap.size ≠ w.heap.size + 1 + 1 by omega) (.int .i64 gd) (.slice sd ld cd) (.int .i64 ge) (.slice se le ce))).2.2.2.1) (n_ ((b_ (i_ (a_ Zw1_2 Bb) (show w.heap.size + 1 ≠ w.heap.size + 1 + 1 by omega) (.int .i64 gd) (.slice sd ld cd) (.int .i64 ge) (.slice se le ce))).1) (n_ ((b_ (i_ (a_ Zw1_2 Bb) (show w.heap.size + 1 ≠ w.heap.size + 1 + 1 by omega) (.int .i64 gd) (.slice sd ld cd) (.int .i64 ge) (.slice se le ce))).2.1) (n_ ((b_ (i_ (a_ Zw1_2 Bb) (show w.heap.size + 1 ≠ w.heap.size + 1 + 1 by omega) (.int .i64 gd) (.slice sd ld cd) (.int .i64 ge) (.slice se le ce))).2.2.1) ((b_ (i_ (a_ Zw1_2 Bb) (show w.heap.size + 1 ≠ w.heap.size + 1 + 1 by omega) (.int .i64 gd) (.slice sd ld cd) (.int .i64 ge) (.slice se le ce))).2.2.2.1))))))))))
 replace Bq:=a_ Zw1_2 Bq
 replace hG:=d_ hG Zw1_2
 clear Ca0 Fa0 Ca1 Fa1 Ca2 Fa2 Ca3 Fa3 Cb0 Fb0 Cb1 Fb1 Cb2 Fb2 Cb3 Fb3 Cq0 Fq0 Cq1 Fq1 Cq2 Fq2 Cq3 Fq3
 have yd : RQ w1_2 (.agg #[.int .i64 gd,.slice sd ld cd,.int .i64 ge,.slice se le ce]) (r * t) (E + M):=RQ.of rd re (Int.mul_pos ua.out.1 ub.out.1) (lz_ ua.out.2.1 ub.out.2.1) (bp_ ua.out.2.2.1 ub.out.2.2.1) (bp_ ua.out.2.2.2 ub.out.2.2.2)
 obtain ⟨k90,k91,k92,k93,k94,k95,k96,k97⟩:=b_ Bq
 obtain ⟨q90,q91,q92,q93,q94,q95,q96,q97⟩:=b_ (r_ Bq (.int .i64 gd) (.slice sd ld cd) (.int .i64 ge) (.slice se le ce))
 have hF : Hid (cg_ w (r * t) (E + M) (.returned (.agg #[.int .i64 gd,.slice sd ld cd,.int .i64 ge,.slice se le ce])) ((((w1_2.setCell ⟨w.heap.size + 1 + 1,0,none⟩ (.int .i64 gd)).setCell ⟨w.heap.size + 1 + 1,1,none⟩ (.slice sd ld cd)).setCell ⟨w.heap.size + 1 + 1,2,none⟩ (.int .i64 ge)).setCell ⟨w.heap.size + 1 + 1,3,none⟩ (.slice se le ce))):=dw_ hG Bq (by omega) yd
 clear ya ra ra' yb rb rb' rd re yd
 go_wp2_with fail
 exact bodyPost_ret (v:=.agg #[.int .i64 gd,.slice sd ld cd,.int .i64 ge,.slice se le ce]) (by simp [results,Tryz.results38,go_sem,q90,q91,q92,q93]) rfl hF.out
set_option maxHeartbeats 16000000 in
theorem it_ (w : World) (va vb : Value) (r t : Rat) (E M : Nat) (Ha : RQ w va r E) (Hb : RQ w vb t M) (hE : E + M ≤ 300000) (h0 : t ≠ 0) :
    Calls Tryz.prog 32 #[va,vb] w (cg_ w (r / t) (E + M)):=by
 have HE : Hid (E + M ≤ 300000):=hE
 have H0 : Hid (t ≠ 0):=h0
 clear hE h0
 obtain ⟨ga,sa,la,ca,ga',sa',la',ca',na,da,rfl,ha,ha',ua⟩:=Ha
 obtain ⟨gb,sb,lb,cb,gb',sb',lb',cb',nb,db,rfl,hb,hb',ub⟩:=Hb
 obtain ⟨hG,Ba,Bb,Bq⟩:=en3_ w (.cells #[.int .i64 ga,.slice sa la ca,.int .i64 ga',.slice sa' la' ca'] 38) (.cells #[.int .i64 gb,.slice sb lb cb,.int .i64 gb',.slice sb' lb' cb'] 38) (.cells #[.int .i64 0,.slice none 0 0,.int .i64 0,.slice none 0 0] 38)
 have oa : RQ w (.agg #[.int .i64 ga,.slice sa la ca,.int .i64 ga',.slice sa' la' ca']) r E:=⟨ga,sa,la,ca,ga',sa',la',ca',na,da,rfl,ha,ha',ua⟩
 have ya:=oa.kept hG
 have ra:=(show RIntV w (.agg #[.int .i64 ga,.slice sa la ca]) na from ha).kept hG
 have ra':=(show RIntV w (.agg #[.int .i64 ga',.slice sa' la' ca']) da from ha').kept hG
 have ob : RQ w (.agg #[.int .i64 gb,.slice sb lb cb,.int .i64 gb',.slice sb' lb' cb']) t M:=⟨gb,sb,lb,cb,gb',sb',lb',cb',nb,db,rfl,hb,hb',ub⟩
 have yb:=ob.kept hG
 have rb:=(show RIntV w (.agg #[.int .i64 gb,.slice sb lb cb]) nb from hb).kept hG
 have rb':=(show RIntV w (.agg #[.int .i64 gb',.slice sb' lb' cb']) db from hb').kept hG
 clear ha ha'
 clear hb hb'
 go_enter Tryz.func32,Tryz.ntmps32
 have HN : Hid (da * nb ≠ 0 ∧ Rat.divInt (na * db) (da * nb) = r / t ∧ (na * db).natAbs < D ^ (E + M) ∧ (da * nb).natAbs < D ^ (E + M)):=⟨Int.mul_ne_zero (Int.ne_of_gt ua.out.1) (il_ ub.out.2.1 H0.out),in_ ua.out.2.1 ub.out.2.1,bp_ ua.out.2.2.1 ub.out.2.2.2,bp_ ua.out.2.2.2 ub.out.2.2.1⟩
 obtain ⟨Ca0,Ca1,Ca2,Ca3,Fa0,Fa1,Fa2,Fa3⟩:=b_ Ba
 obtain ⟨Cb0,Cb1,Cb2,Cb3,Fb0,Fb1,Fb2,Fb3⟩:=b_ Bb
 obtain ⟨Cq0,Cq1,Cq2,Cq3,Fq0,Fq1,Fq2,Fq3⟩:=b_ Bq
 go_wp2_with fail
 generalize (((w.alloc (.cells #[.int .i64 ga,.slice sa la ca,.int .i64 ga',.slice sa' la' ca'] 38)).alloc (.cells #[.int .i64 gb,.slice sb lb cb,.int .i64 gb',.slice sb' lb' cb'] 38)).alloc (.cells #[.int .i64 0,.slice none 0 0,.int .i64 0,.slice none 0 0] 38)) = w0 at *
 go_region_held3 (fun w'=>w'.cell? ⟨w.heap.size,0,none⟩ = some (.int .i64 ga) ∧ w'.cell? ⟨w.heap.size,1,none⟩ = some (.slice sa la ca) ∧ w'.cell? ⟨w.heap.size,2,none⟩ = some (.int .i64 ga') ∧ w'.cell? ⟨w.heap.size,3,none⟩ = some (.slice sa' la' ca') ∧ w'.cell? ⟨w.heap.size + 1,0,none⟩ = some (.int .i64 gb) ∧ w'.cell? ⟨w.heap.size + 1,1,none⟩ = some (.slice sb lb cb) ∧ w'.cell? ⟨w.heap.size + 1,2,none⟩ = some (.int .i64 gb') ∧ w'.cell? ⟨w.heap.size + 1,3,none⟩ = some (.slice sb' lb' cb'))
  (first | assumption | exact ⟨Ca0,Ca1,Ca2,Ca3,Cb0,Cb1,Cb2,Cb3⟩ | exact HSw1_30 | go_keep)
  (first
    | (go_at_call 78; (with_reducible refine (aM_ w0.drew _ _ na db (ra.kept (k_ (h_ _ _))) (rb'.kept (k_ (h_ _ _))) (dp6 ua.out.2.2.1 (by have:=HE.out; omega)) (dp6 ub.out.2.2.2 (by have:=HE.out; omega))).mono ?_); rintro e w1_1 ⟨vk1,rfl,k1,gw1_1⟩; have Zw1_1:=o_ w0 gw1_1 rfl rfl rfl rfl; have hSw1_1:=(n_ (Zw1_1.cell Ca0 (by simp)) (n_ (Zw1_1.cell Ca1 (by simp)) (n_ (Zw1_1.cell Ca2 (by simp)) (n_ (Zw1_1.cell Ca3 (by simp)) (n_ (Zw1_1.cell Cb0 (by simp)) (n_ (Zw1_1.cell Cb1 (by simp)) (n_ (Zw1_1.cell Cb2 (by simp)) (Zw1_1.cell Cb3 (by simp))))))))); clear gw1_1)
    | (go_at_call 78; (with_reducible refine (aM_ w1_1 _ _ da nb (ra'.kept Zw1_1) (rb.kept Zw1_1) (dp6 ua.out.2.2.2 (by have:=HE.out; omega)) (dp6 ub.out.2.2.1 (by have:=HE.out; omega))).mono ?_); rintro e w1_2 ⟨vk2,rfl,k2,gw1_2⟩; have Zw1_2:=d_ Zw1_1 gw1_2; replace k1:=k1.kept gw1_2; have hSw1_2:=(n_ (Zw1_2.cell Ca0 (by simp)) (n_ (Zw1_2.cell Ca1 (by simp)) (n_ (Zw1_2.cell Ca2 (by simp)) (n_ (Zw1_2.cell Ca3 (by simp)) (n_ (Zw1_2.cell Cb0 (by simp)) (n_ (Zw1_2.cell Cb1 (by simp)) (n_ (Zw1_2.cell Cb2 (by simp)) (Zw1_2.cell Cb3 (by simp))))))))); clear gw1_2)
    | (go_at_call 26; (with_reducible refine (ck_ w1_2 _ _ (na * db) (da * nb) (E + M) k1 k2 HN.out.1 HN.out.2.2.1 HN.out.2.2.2).mono ?_); rintro e w1_3 ⟨_,rfl,⟨gd,sd,ld,cd,gd',sd',ld',cd',nd,dd,rfl,hd,hd',ud⟩,gw1_3⟩; rw [HN.out.2.1] at ud; have Zw1_3:=d_ Zw1_2 gw1_3; replace k1:=k1.kept gw1_3; replace k2:=k2.kept gw1_3; have yd : RQ w1_3 (.agg #[.int .i64 gd,.slice sd ld cd,.int .i64 gd',.slice sd' ld' cd']) (r / t) (E + M):=⟨gd,sd,ld,cd,gd',sd',ld',cd',nd,dd,rfl,hd,hd',ud⟩; have hSw1_3:=(n_ (Zw1_3.cell Ca0 (by simp)) (n_ (Zw1_3.cell Ca1 (by simp)) (n_ (Zw1_3.cell Ca2 (by simp)) (n_ (Zw1_3.cell Ca3 (by simp)) (n_ (Zw1_3.cell Cb0 (by simp)) (n_ (Zw1_3.cell Cb1 (by simp)) (n_ (Zw1_3.cell Cb2 (by simp)) (Zw1_3.cell Cb3 (by simp))))))))); clear gw1_3; clear hd hd'; (obtain ⟨dq0,dq1,dq2,dq3,dq4,dq5,dq6,dq7⟩:=b_ (a_ Zw1_3 Bq)); have HSw1_30:=(n_ ((b_ (i_ (a_ Zw1_3 Ba) (show w.heap.size ≠ w.heap.size + 1 + 1 by omega) (.int .i64 gd) (.slice sd ld cd) (.int .i64 gd') (.slice sd' ld' cd'))).1) (n_ ((b_ (i_ (a_ Zw1_3 Ba) (show w.heap.size ≠ w.heap.size + 1 + 1 by omega) (.int .i64 gd) (.slice sd ld cd) (.int .i64 gd') (.slice sd' ld' cd'))).2.1) (n_ ((b_ (i_ (a_ Zw1_3 Ba) (show w.heap.size ≠ w.heap.size + 1 + 1 by omega) (.int .i64 gd) (.slice sd ld cd) (.int .i64 gd') (.slice sd' ld' cd'))).2.2.1) (n_ ((b_ (i_ (a_ Zw1_3 Ba) (show w.heap.size ≠ w.heap.size + 1 + 1 by omega) (.int .i64 gd) (.slice sd ld cd) (.int .i64 gd') (.slice sd' ld' cd'))).2.2.2.1) (n_ ((b_ (i_ (a_ Zw1_3 Bb) (show w.heap.size + 1 ≠ w.heap.size + 1 + 1 by omega) (.int .i64 gd) (.slice sd ld cd) (.int .i64 gd') (.slice sd' ld' cd'))).1) (n_ ((b_ (i_ (a_ Zw1_3 Bb) (show w.heap.size + 1 ≠ w.heap.size + 1 + 1 by omega) (.int .i64 gd) (.slice sd ld cd) (.int .i64 gd') (.slice sd' ld' cd'))).2.1) (n_ ((b_ (i_ (a_ Zw1_3 Bb) (show w.heap.size + 1 ≠ w.heap.size + 1 + 1 by omega) (.int .i64 gd) (.slice sd ld cd) (.int .i64 gd') (.slice sd' ld' cd'))).2.2.1) ((b_ (i_ (a_ Zw1_3 Bb) (show w.heap.size + 1 ≠ w.heap.size + 1 + 1 by omega) (.int .i64 gd) (.slice sd ld cd) (.int .i64 gd') (.slice sd' ld' cd'))).2.2.2.1))))))))))
 replace Bq:=a_ Zw1_3 Bq
 replace hG:=d_ hG Zw1_3
 clear Ca0 Fa0 Ca1 Fa1 Ca2 Fa2 Ca3 Fa3 Cb0 Fb0 Cb1 Fb1 Cb2 Fb2 Cb3 Fb3 Cq0 Fq0 Cq1 Fq1 Cq2 Fq2 Cq3 Fq3
 obtain ⟨k90,k91,k92,k93,k94,k95,k96,k97⟩:=b_ Bq
 obtain ⟨q90,q91,q92,q93,q94,q95,q96,q97⟩:=b_ (r_ Bq (.int .i64 gd) (.slice sd ld cd) (.int .i64 gd') (.slice sd' ld' cd'))
 have hF : Hid (cg_ w (r / t) (E + M) (.returned (.agg #[.int .i64 gd,.slice sd ld cd,.int .i64 gd',.slice sd' ld' cd'])) ((((w1_3.setCell ⟨w.heap.size + 1 + 1,0,none⟩ (.int .i64 gd)).setCell ⟨w.heap.size + 1 + 1,1,none⟩ (.slice sd ld cd)).setCell ⟨w.heap.size + 1 + 1,2,none⟩ (.int .i64 gd')).setCell ⟨w.heap.size + 1 + 1,3,none⟩ (.slice sd' ld' cd'))):=dw_ hG Bq (by omega) yd
 clear ya ra ra' yb rb rb' k1 k2 yd
 go_wp2_with fail
 exact bodyPost_ret (v:=.agg #[.int .i64 gd,.slice sd ld cd,.int .i64 gd',.slice sd' ld' cd']) (by simp [results,Tryz.results32,go_sem,q90,q91,q92,q93]) rfl hF.out
set_option maxHeartbeats 16000000 in
theorem dE_ (w : World) (s t : ByteArray) (hTab : Tab w) :
    Calls Tryz.prog 5 #[.string s,.string t] w (fun e w'=>e = .returned (.bool true) ∧ w.grownBy w' none):=by
 have HTB : Hid (∀ W,w.grownBy W none → Tab W):=fun W hW=>hTab.kept hW (by simp)
 clear hTab
 have hG : w.grownBy w none:=h_ _ _
 obtain ⟨A1,o1,lA1,p1⟩:=bP_ s
 have L1:=H_ lA1
 have P1:=H_ p1
 clear p1 lA1
 obtain ⟨B1,o2,lB1,p2⟩:=bP_ t
 have L2:=H_ lB1
 have P2:=H_ p2
 clear p2 lB1
 go_enter Tryz.func5,Tryz.ntmps5
 go_wp2_with fail
 refine (P1.out w (HTB.out _ hG)).mono ?_
 rintro e w1 ⟨_,_,rfl,⟨sa1,xa1,ba1,sa1',xa1',ba1',rfl,ha1,ha1'⟩,⟨gx1,sx1,lx1,cx1,gx1',sx1',lx1',cx1',nx1,dx1,rfl,hx1,hx1',ux1⟩,gw1⟩
 have qa1 : RatV w1 (.agg #[.slice sa1 xa1.length xa1.length,.bool ba1,.slice sa1' xa1'.length xa1'.length,.bool ba1']) (A1):=⟨sa1,xa1,ba1,sa1',xa1',ba1',rfl,ha1,ha1'⟩
 have yx1 : RQ w1 (.agg #[.int .i64 gx1,.slice sx1 lx1 cx1,.int .i64 gx1',.slice sx1' lx1' cx1']) A1 20:=⟨gx1,sx1,lx1,cx1,gx1',sx1',lx1',cx1',nx1,dx1,rfl,hx1,hx1',ux1⟩
 replace hG:=d_ hG gw1
 clear gw1
 clear ha1 ha1'
 clear hx1 hx1'
 have gbw1:=(l_ (wg_ w1 (.cells #[.slice sa1 xa1.length xa1.length,.bool ba1,.slice sa1' xa1'.length xa1'.length,.bool ba1'] 28) none) (.cells #[.int .i64 gx1,.slice sx1 lx1 cx1,.int .i64 gx1',.slice sx1' lx1' cx1'] 38))
 have Ba1:=a_ (wg_ _ (.cells #[.int .i64 gx1,.slice sx1 lx1 cx1,.int .i64 gx1',.slice sx1' lx1' cx1'] 38) none) (f_ w1 (.cells #[.slice sa1 xa1.length xa1.length,.bool ba1,.slice sa1' xa1'.length xa1'.length,.bool ba1'] 28) (w1.heap.size) rfl)
 have Bx1:=(f_ (w1.alloc (.cells #[.slice sa1 xa1.length xa1.length,.bool ba1,.slice sa1' xa1'.length xa1'.length,.bool ba1'] 28)) (.cells #[.int .i64 gx1,.slice sx1 lx1 cx1,.int .i64 gx1',.slice sx1' lx1' cx1'] 38) (w1.heap.size + 1) (by simp))
 have hzw1 : Hid (w.heap.size ≤ w1.heap.size):=H_ hG.size
 replace qa1:=qa1.kept gbw1
 replace yx1:=yx1.kept gbw1
 replace hG:=d_ hG gbw1
 clear gbw1
 obtain ⟨Ca10,Ca11,Ca12,Ca13,Fa10,Fa11,Fa12,Fa13⟩:=b_ Ba1
 obtain ⟨Cx10,Cx11,Cx12,Cx13,Fx10,Fx11,Fx12,Fx13⟩:=b_ Bx1
 go_wp2_with fail
 generalize ((w1.alloc (.cells #[.slice sa1 xa1.length xa1.length,.bool ba1,.slice sa1' xa1'.length xa1'.length,.bool ba1'] 28)).alloc (.cells #[.int .i64 gx1,.slice sx1 lx1 cx1,.int .i64 gx1',.slice sx1' lx1' cx1'] 38)) = w2 at *
 generalize w1.heap.size = aw1 at *
 replace hzw1:=hzw1.out
 clear Ca10 Fa10 Ca11 Fa11 Ca12 Fa12 Ca13 Fa13 Cx10 Fx10 Cx11 Fx11 Cx12 Fx12 Cx13 Fx13
 refine (P2.out w2 (HTB.out _ hG)).mono ?_
 rintro e w3 ⟨_,_,rfl,⟨sa2,xa2,ba2,sa2',xa2',ba2',rfl,ha2,ha2'⟩,⟨gx2,sx2,lx2,cx2,gx2',sx2',lx2',cx2',nx2,dx2,rfl,hx2,hx2',ux2⟩,gw3⟩
 have qa2 : RatV w3 (.agg #[.slice sa2 xa2.length xa2.length,.bool ba2,.slice sa2' xa2'.length xa2'.length,.bool ba2']) (B1):=⟨sa2,xa2,ba2,sa2',xa2',ba2',rfl,ha2,ha2'⟩
 have yx2 : RQ w3 (.agg #[.int .i64 gx2,.slice sx2 lx2 cx2,.int .i64 gx2',.slice sx2' lx2' cx2']) B1 20:=⟨gx2,sx2,lx2,cx2,gx2',sx2',lx2',cx2',nx2,dx2,rfl,hx2,hx2',ux2⟩
 replace Ba1:=a_ gw3 Ba1
 replace Bx1:=a_ gw3 Bx1
 replace qa1:=qa1.kept gw3
 replace yx1:=yx1.kept gw3
 replace hG:=d_ hG gw3
 clear gw3
 clear ha2 ha2'
 clear hx2 hx2'
 obtain ⟨Ca10,Ca11,Ca12,Ca13,Fa10,Fa11,Fa12,Fa13⟩:=b_ Ba1
 obtain ⟨Cx10,Cx11,Cx12,Cx13,Fx10,Fx11,Fx12,Fx13⟩:=b_ Bx1
 have gbw3:=(l_ (wg_ w3 (.cells #[.slice sa2 xa2.length xa2.length,.bool ba2,.slice sa2' xa2'.length xa2'.length,.bool ba2'] 28) none) (.cells #[.int .i64 gx2,.slice sx2 lx2 cx2,.int .i64 gx2',.slice sx2' lx2' cx2'] 38))
 have Ba2:=a_ (wg_ _ (.cells #[.int .i64 gx2,.slice sx2 lx2 cx2,.int .i64 gx2',.slice sx2' lx2' cx2'] 38) none) (f_ w3 (.cells #[.slice sa2 xa2.length xa2.length,.bool ba2,.slice sa2' xa2'.length xa2'.length,.bool ba2'] 28) (w3.heap.size) rfl)
 have Bx2:=(f_ (w3.alloc (.cells #[.slice sa2 xa2.length xa2.length,.bool ba2,.slice sa2' xa2'.length xa2'.length,.bool ba2'] 28)) (.cells #[.int .i64 gx2,.slice sx2 lx2 cx2,.int .i64 gx2',.slice sx2' lx2' cx2'] 38) (w3.heap.size + 1) (by simp))
 have hzw3 : Hid (w.heap.size ≤ w3.heap.size):=H_ hG.size
 have hla1w3 : Hid (aw1 < w3.heap.size):=H_ (Array.getElem?_eq_some_iff.1 Ba1).1
 have hlx1w3 : Hid (aw1 + 1 < w3.heap.size):=H_ (Array.getElem?_eq_some_iff.1 Bx1).1
 clear Ca10 Fa10 Ca11 Fa11 Ca12 Fa12 Ca13 Fa13 Cx10 Fx10 Cx11 Fx11 Cx12 Fx12 Cx13 Fx13
 replace Ba1:=a_ gbw3 Ba1
 replace Bx1:=a_ gbw3 Bx1
 replace qa1:=qa1.kept gbw3
 replace yx1:=yx1.kept gbw3
 replace qa2:=qa2.kept gbw3
 replace yx2:=yx2.kept gbw3
 replace hG:=d_ hG gbw3
 clear gbw3
 obtain ⟨Ca10,Ca11,Ca12,Ca13,Fa10,Fa11,Fa12,Fa13⟩:=b_ Ba1
 obtain ⟨Cx10,Cx11,Cx12,Cx13,Fx10,Fx11,Fx12,Fx13⟩:=b_ Bx1
 obtain ⟨Ca20,Ca21,Ca22,Ca23,Fa20,Fa21,Fa22,Fa23⟩:=b_ Ba2
 obtain ⟨Cx20,Cx21,Cx22,Cx23,Fx20,Fx21,Fx22,Fx23⟩:=b_ Bx2
 go_wp2_with fail
 cases o1
 · skip
   generalize ((w3.alloc (.cells #[.slice sa2 xa2.length xa2.length,.bool ba2,.slice sa2' xa2'.length xa2'.length,.bool ba2'] 28)).alloc (.cells #[.int .i64 gx2,.slice sx2 lx2 cx2,.int .i64 gx2',.slice sx2' lx2' cx2'] 38)) = w4 at *
   generalize w3.heap.size = aw3 at *
   replace hzw3:=hzw3.out
   replace hla1w3:=hla1w3.out
   replace hlx1w3:=hlx1w3.out
   clear Ca10 Fa10 Ca11 Fa11 Ca12 Fa12 Ca13 Fa13 Cx10 Fx10 Cx11 Fx11 Cx12 Fx12 Cx13 Fx13 Ca20 Fa20 Ca21 Fa21 Ca22 Fa22 Ca23 Fa23 Cx20 Fx20 Cx21 Fx21 Cx22 Fx22 Cx23 Fx23
   refine (A_ w4 (HTB.out _ hG)).mono ?_
   rintro e o0w5 ⟨rfl,go0w5⟩
   replace Ba1:=a_ go0w5 Ba1
   replace Bx1:=a_ go0w5 Bx1
   replace Ba2:=a_ go0w5 Ba2
   replace Bx2:=a_ go0w5 Bx2
   replace hG:=d_ hG go0w5
   clear go0w5
   obtain ⟨Ca10,Ca11,Ca12,Ca13,Fa10,Fa11,Fa12,Fa13⟩:=b_ Ba1
   obtain ⟨Cx10,Cx11,Cx12,Cx13,Fx10,Fx11,Fx12,Fx13⟩:=b_ Bx1
   obtain ⟨Ca20,Ca21,Ca22,Ca23,Fa20,Fa21,Fa22,Fa23⟩:=b_ Ba2
   obtain ⟨Cx20,Cx21,Cx22,Cx23,Fx20,Fx21,Fx22,Fx23⟩:=b_ Bx2
   go_wp2_with fail
   clear Ca10 Fa10 Ca11 Fa11 Ca12 Fa12 Ca13 Fa13 Cx10 Fx10 Cx11 Fx11 Cx12 Fx12 Cx13 Fx13 Ca20 Fa20 Ca21 Fa21 Ca22 Fa22 Ca23 Fa23 Cx20 Fx20 Cx21 Fx21 Cx22 Fx22 Cx23 Fx23
   refine (A_ o0w5 (HTB.out _ hG)).mono ?_
   rintro e o0w6 ⟨rfl,go0w6⟩
   replace Ba1:=a_ go0w6 Ba1
   replace Bx1:=a_ go0w6 Bx1
   replace Ba2:=a_ go0w6 Ba2
   replace Bx2:=a_ go0w6 Bx2
   replace hG:=d_ hG go0w6
   clear go0w6
   obtain ⟨Ca10,Ca11,Ca12,Ca13,Fa10,Fa11,Fa12,Fa13⟩:=b_ Ba1
   obtain ⟨Cx10,Cx11,Cx12,Cx13,Fx10,Fx11,Fx12,Fx13⟩:=b_ Bx1
   obtain ⟨Ca20,Ca21,Ca22,Ca23,Fa20,Fa21,Fa22,Fa23⟩:=b_ Ba2
   obtain ⟨Cx20,Cx21,Cx22,Cx23,Fx20,Fx21,Fx22,Fx23⟩:=b_ Bx2
   go_wp2_with fail
   clear Ca10 Fa10 Ca11 Fa11 Ca12 Fa12 Ca13 Fa13 Cx10 Fx10 Cx11 Fx11 Cx12 Fx12 Cx13 Fx13 Ca20 Fa20 Ca21 Fa21 Ca22 Fa22 Ca23 Fa23 Cx20 Fx20 Cx21 Fx21 Cx22 Fx22 Cx23 Fx23
   refine (ce_ o0w6 s (HTB.out _ hG)).mono ?_
   rintro e o0w7 ⟨rfl,go0w7⟩
   replace Ba1:=a_ go0w7 Ba1
   replace Bx1:=a_ go0w7 Bx1
   replace Ba2:=a_ go0w7 Ba2
   replace Bx2:=a_ go0w7 Bx2
   replace hG:=d_ hG go0w7
   clear go0w7
   obtain ⟨Ca10,Ca11,Ca12,Ca13,Fa10,Fa11,Fa12,Fa13⟩:=b_ Ba1
   obtain ⟨Cx10,Cx11,Cx12,Cx13,Fx10,Fx11,Fx12,Fx13⟩:=b_ Bx1
   obtain ⟨Ca20,Ca21,Ca22,Ca23,Fa20,Fa21,Fa22,Fa23⟩:=b_ Ba2
   obtain ⟨Cx20,Cx21,Cx22,Cx23,Fx20,Fx21,Fx22,Fx23⟩:=b_ Bx2
   go_wp2_with fail
   clear Ca10 Fa10 Ca11 Fa11 Ca12 Fa12 Ca13 Fa13 Cx10 Fx10 Cx11 Fx11 Cx12 Fx12 Cx13 Fx13 Ca20 Fa20 Ca21 Fa21 Ca22 Fa22 Ca23 Fa23 Cx20 Fx20 Cx21 Fx21 Cx22 Fx22 Cx23 Fx23
   refine (ce_ o0w7 t (HTB.out _ hG)).mono ?_
   rintro e o0w8 ⟨rfl,go0w8⟩
   replace Ba1:=a_ go0w8 Ba1
   replace Bx1:=a_ go0w8 Bx1
   replace Ba2:=a_ go0w8 Ba2
   replace Bx2:=a_ go0w8 Bx2
   replace hG:=d_ hG go0w8
   clear go0w8
   obtain ⟨Ca10,Ca11,Ca12,Ca13,Fa10,Fa11,Fa12,Fa13⟩:=b_ Ba1
   obtain ⟨Cx10,Cx11,Cx12,Cx13,Fx10,Fx11,Fx12,Fx13⟩:=b_ Bx1
   obtain ⟨Ca20,Ca21,Ca22,Ca23,Fa20,Fa21,Fa22,Fa23⟩:=b_ Ba2
   obtain ⟨Cx20,Cx21,Cx22,Cx23,Fx20,Fx21,Fx22,Fx23⟩:=b_ Bx2
   go_wp2_with fail
   go_ret
   exact ⟨by first | rfl | simp,hG⟩
 cases o2
 · skip
   generalize ((w3.alloc (.cells #[.slice sa2 xa2.length xa2.length,.bool ba2,.slice sa2' xa2'.length xa2'.length,.bool ba2'] 28)).alloc (.cells #[.int .i64 gx2,.slice sx2 lx2 cx2,.int .i64 gx2',.slice sx2' lx2' cx2'] 38)) = w4 at *
   generalize w3.heap.size = aw3 at *
   replace hzw3:=hzw3.out
   replace hla1w3:=hla1w3.out
   replace hlx1w3:=hlx1w3.out
   clear Ca10 Fa10 Ca11 Fa11 Ca12 Fa12 Ca13 Fa13 Cx10 Fx10 Cx11 Fx11 Cx12 Fx12 Cx13 Fx13 Ca20 Fa20 Ca21 Fa21 Ca22 Fa22 Ca23 Fa23 Cx20 Fx20 Cx21 Fx21 Cx22 Fx22 Cx23 Fx23
   refine (A_ w4 (HTB.out _ hG)).mono ?_
   rintro e o1w5 ⟨rfl,go1w5⟩
   replace Ba1:=a_ go1w5 Ba1
   replace Bx1:=a_ go1w5 Bx1
   replace Ba2:=a_ go1w5 Ba2
   replace Bx2:=a_ go1w5 Bx2
   replace hG:=d_ hG go1w5
   clear go1w5
   obtain ⟨Ca10,Ca11,Ca12,Ca13,Fa10,Fa11,Fa12,Fa13⟩:=b_ Ba1
   obtain ⟨Cx10,Cx11,Cx12,Cx13,Fx10,Fx11,Fx12,Fx13⟩:=b_ Bx1
   obtain ⟨Ca20,Ca21,Ca22,Ca23,Fa20,Fa21,Fa22,Fa23⟩:=b_ Ba2
   obtain ⟨Cx20,Cx21,Cx22,Cx23,Fx20,Fx21,Fx22,Fx23⟩:=b_ Bx2
   go_wp2_with fail
   clear Ca10 Fa10 Ca11 Fa11 Ca12 Fa12 Ca13 Fa13 Cx10 Fx10 Cx11 Fx11 Cx12 Fx12 Cx13 Fx13 Ca20 Fa20 Ca21 Fa21 Ca22 Fa22 Ca23 Fa23 Cx20 Fx20 Cx21 Fx21 Cx22 Fx22 Cx23 Fx23
   refine (A_ o1w5 (HTB.out _ hG)).mono ?_
   rintro e o1w6 ⟨rfl,go1w6⟩
   replace Ba1:=a_ go1w6 Ba1
   replace Bx1:=a_ go1w6 Bx1
   replace Ba2:=a_ go1w6 Ba2
   replace Bx2:=a_ go1w6 Bx2
   replace hG:=d_ hG go1w6
   clear go1w6
   obtain ⟨Ca10,Ca11,Ca12,Ca13,Fa10,Fa11,Fa12,Fa13⟩:=b_ Ba1
   obtain ⟨Cx10,Cx11,Cx12,Cx13,Fx10,Fx11,Fx12,Fx13⟩:=b_ Bx1
   obtain ⟨Ca20,Ca21,Ca22,Ca23,Fa20,Fa21,Fa22,Fa23⟩:=b_ Ba2
   obtain ⟨Cx20,Cx21,Cx22,Cx23,Fx20,Fx21,Fx22,Fx23⟩:=b_ Bx2
   go_wp2_with fail
   clear Ca10 Fa10 Ca11 Fa11 Ca12 Fa12 Ca13 Fa13 Cx10 Fx10 Cx11 Fx11 Cx12 Fx12 Cx13 Fx13 Ca20 Fa20 Ca21 Fa21 Ca22 Fa22 Ca23 Fa23 Cx20 Fx20 Cx21 Fx21 Cx22 Fx22 Cx23 Fx23
   refine (ce_ o1w6 s (HTB.out _ hG)).mono ?_
   rintro e o1w7 ⟨rfl,go1w7⟩
   replace Ba1:=a_ go1w7 Ba1
   replace Bx1:=a_ go1w7 Bx1
   replace Ba2:=a_ go1w7 Ba2
   replace Bx2:=a_ go1w7 Bx2
   replace hG:=d_ hG go1w7
   clear go1w7
   obtain ⟨Ca10,Ca11,Ca12,Ca13,Fa10,Fa11,Fa12,Fa13⟩:=b_ Ba1
   obtain ⟨Cx10,Cx11,Cx12,Cx13,Fx10,Fx11,Fx12,Fx13⟩:=b_ Bx1
   obtain ⟨Ca20,Ca21,Ca22,Ca23,Fa20,Fa21,Fa22,Fa23⟩:=b_ Ba2
   obtain ⟨Cx20,Cx21,Cx22,Cx23,Fx20,Fx21,Fx22,Fx23⟩:=b_ Bx2
   go_wp2_with fail
   clear Ca10 Fa10 Ca11 Fa11 Ca12 Fa12 Ca13 Fa13 Cx10 Fx10 Cx11 Fx11 Cx12 Fx12 Cx13 Fx13 Ca20 Fa20 Ca21 Fa21 Ca22 Fa22 Ca23 Fa23 Cx20 Fx20 Cx21 Fx21 Cx22 Fx22 Cx23 Fx23
   refine (ce_ o1w7 t (HTB.out _ hG)).mono ?_
   rintro e o1w8 ⟨rfl,go1w8⟩
   replace Ba1:=a_ go1w8 Ba1
   replace Bx1:=a_ go1w8 Bx1
   replace Ba2:=a_ go1w8 Ba2
   replace Bx2:=a_ go1w8 Bx2
   replace hG:=d_ hG go1w8
   clear go1w8
   obtain ⟨Ca10,Ca11,Ca12,Ca13,Fa10,Fa11,Fa12,Fa13⟩:=b_ Ba1
   obtain ⟨Cx10,Cx11,Cx12,Cx13,Fx10,Fx11,Fx12,Fx13⟩:=b_ Bx1
   obtain ⟨Ca20,Ca21,Ca22,Ca23,Fa20,Fa21,Fa22,Fa23⟩:=b_ Ba2
   obtain ⟨Cx20,Cx21,Cx22,Cx23,Fx20,Fx21,Fx22,Fx23⟩:=b_ Bx2
   go_wp2_with fail
   go_ret
   exact ⟨by first | rfl | simp,hG⟩
 generalize ((w3.alloc (.cells #[.slice sa2 xa2.length xa2.length,.bool ba2,.slice sa2' xa2'.length xa2'.length,.bool ba2'] 28)).alloc (.cells #[.int .i64 gx2,.slice sx2 lx2 cx2,.int .i64 gx2',.slice sx2' lx2' cx2'] 38)) = w4 at *
 generalize w3.heap.size = aw3 at *
 replace hzw3:=hzw3.out
 replace hla1w3:=hla1w3.out
 replace hlx1w3:=hlx1w3.out
 clear Ca10 Fa10 Ca11 Fa11 Ca12 Fa12 Ca13 Fa13 Cx10 Fx10 Cx11 Fx11 Cx12 Fx12 Cx13 Fx13 Ca20 Fa20 Ca21 Fa21 Ca22 Fa22 Ca23 Fa23 Cx20 Fx20 Cx21 Fx21 Cx22 Fx22 Cx23 Fx23
 refine (A_ w4 (HTB.out _ hG)).mono ?_
 rintro e w5 ⟨rfl,gw5⟩
 replace Ba1:=a_ gw5 Ba1
 replace Bx1:=a_ gw5 Bx1
 replace Ba2:=a_ gw5 Ba2
 replace Bx2:=a_ gw5 Bx2
 replace qa1:=qa1.kept gw5
 replace yx1:=yx1.kept gw5
 replace qa2:=qa2.kept gw5
 replace yx2:=yx2.kept gw5
 replace hG:=d_ hG gw5
 clear gw5
 obtain ⟨Ca10,Ca11,Ca12,Ca13,Fa10,Fa11,Fa12,Fa13⟩:=b_ Ba1
 obtain ⟨Cx10,Cx11,Cx12,Cx13,Fx10,Fx11,Fx12,Fx13⟩:=b_ Bx1
 obtain ⟨Ca20,Ca21,Ca22,Ca23,Fa20,Fa21,Fa22,Fa23⟩:=b_ Ba2
 obtain ⟨Cx20,Cx21,Cx22,Cx23,Fx20,Fx21,Fx22,Fx23⟩:=b_ Bx2
 go_wp2_with fail
 obtain ⟨k,hk⟩ : ∃ k,bT_ A1 B1 = k:=⟨_,rfl⟩
 have HK:=H_ hk
 clear hk
 have hgx:=yx2.sign.out
 by_cases hB : B1 = 0
 · skip
   have HB:=H_ hB
   have fg : (gx2 == 0) = true:=by rw [hgx,hB]; rfl
   have HS0 : Hid ((A1 / B1).num.sign = 0):=by show _ = _; rw [hB,Rat.div_def,Rat.inv_zero,Rat.mul_zero]; rfl
   clear hgx hB
   clear Ca10 Fa10 Ca11 Fa11 Ca12 Fa12 Ca13 Fa13 Cx10 Fx10 Cx11 Fx11 Cx12 Fx12 Cx13 Fx13 Ca20 Fa20 Ca21 Fa21 Ca22 Fa22 Ca23 Fa23 Cx20 Fx20 Cx21 Fx21 Cx22 Fx22 Cx23 Fx23
   refine (ct_ w5 _ _ A1 B1 5 qa1 qa2 (by omega) L1.out.1 L1.out.2 L2.out.1 L2.out.2 (HTB.out _ hG)).mono ?_
   rintro e b1w6 ⟨_,rfl,⟨sd,xd,bd,sd',xd',bd',rfl,hd,hd'⟩,gb1w6⟩
   rw [if_pos HB.out]
   have qd : RatV b1w6 (.agg #[.slice sd xd.length xd.length,.bool bd,.slice sd' xd'.length xd'.length,.bool bd']) (A1 / B1):=⟨sd,xd,bd,sd',xd',bd',rfl,hd,hd'⟩
   replace Ba1:=a_ gb1w6 Ba1
   replace Bx1:=a_ gb1w6 Bx1
   replace Ba2:=a_ gb1w6 Ba2
   replace Bx2:=a_ gb1w6 Bx2
   replace qa1:=qa1.kept gb1w6
   replace yx1:=yx1.kept gb1w6
   replace qa2:=qa2.kept gb1w6
   replace yx2:=yx2.kept gb1w6
   replace hG:=d_ hG gb1w6
   clear gb1w6
   clear hd hd'
   obtain ⟨Ca10,Ca11,Ca12,Ca13,Fa10,Fa11,Fa12,Fa13⟩:=b_ Ba1
   obtain ⟨Cx10,Cx11,Cx12,Cx13,Fx10,Fx11,Fx12,Fx13⟩:=b_ Bx1
   obtain ⟨Ca20,Ca21,Ca22,Ca23,Fa20,Fa21,Fa22,Fa23⟩:=b_ Ba2
   obtain ⟨Cx20,Cx21,Cx22,Cx23,Fx20,Fx21,Fx22,Fx23⟩:=b_ Bx2
   have gbb1w6:=(wg_ b1w6 (.cells #[.slice sd xd.length xd.length,.bool bd,.slice sd' xd'.length xd'.length,.bool bd'] 28) none)
   have Bd:=(f_ b1w6 (.cells #[.slice sd xd.length xd.length,.bool bd,.slice sd' xd'.length xd'.length,.bool bd'] 28) (b1w6.heap.size) rfl)
   have hzb1w6 : Hid (w.heap.size ≤ b1w6.heap.size):=H_ hG.size
   have hla1b1w6 : Hid (aw1 < b1w6.heap.size):=H_ (Array.getElem?_eq_some_iff.1 Ba1).1
   have hlx1b1w6 : Hid (aw1 + 1 < b1w6.heap.size):=H_ (Array.getElem?_eq_some_iff.1 Bx1).1
   have hla2b1w6 : Hid (aw3 < b1w6.heap.size):=H_ (Array.getElem?_eq_some_iff.1 Ba2).1
   have hlx2b1w6 : Hid (aw3 + 1 < b1w6.heap.size):=H_ (Array.getElem?_eq_some_iff.1 Bx2).1
   clear Ca10 Fa10 Ca11 Fa11 Ca12 Fa12 Ca13 Fa13 Cx10 Fx10 Cx11 Fx11 Cx12 Fx12 Cx13 Fx13 Ca20 Fa20 Ca21 Fa21 Ca22 Fa22 Ca23 Fa23 Cx20 Fx20 Cx21 Fx21 Cx22 Fx22 Cx23 Fx23
   replace Ba1:=a_ gbb1w6 Ba1
   replace Bx1:=a_ gbb1w6 Bx1
   replace Ba2:=a_ gbb1w6 Ba2
   replace Bx2:=a_ gbb1w6 Bx2
   replace qa1:=qa1.kept gbb1w6
   replace yx1:=yx1.kept gbb1w6
   replace qa2:=qa2.kept gbb1w6
   replace yx2:=yx2.kept gbb1w6
   replace qd:=qd.kept gbb1w6
   replace hG:=d_ hG gbb1w6
   clear gbb1w6
   obtain ⟨Ca10,Ca11,Ca12,Ca13,Fa10,Fa11,Fa12,Fa13⟩:=b_ Ba1
   obtain ⟨Cx10,Cx11,Cx12,Cx13,Fx10,Fx11,Fx12,Fx13⟩:=b_ Bx1
   obtain ⟨Ca20,Ca21,Ca22,Ca23,Fa20,Fa21,Fa22,Fa23⟩:=b_ Ba2
   obtain ⟨Cx20,Cx21,Cx22,Cx23,Fx20,Fx21,Fx22,Fx23⟩:=b_ Bx2
   obtain ⟨Cd0,Cd1,Cd2,Cd3,Fd0,Fd1,Fd2,Fd3⟩:=b_ Bd
   go_wp2_with fail
   generalize (b1w6.alloc (.cells #[.slice sd xd.length xd.length,.bool bd,.slice sd' xd'.length xd'.length,.bool bd'] 28)) = b1w7 at *
   generalize b1w6.heap.size = ab1w6 at *
   replace hzb1w6:=hzb1w6.out
   replace hla1b1w6:=hla1b1w6.out
   replace hlx1b1w6:=hlx1b1w6.out
   replace hla2b1w6:=hla2b1w6.out
   replace hlx2b1w6:=hlx2b1w6.out
   clear Ca10 Fa10 Ca11 Fa11 Ca12 Fa12 Ca13 Fa13 Cx10 Fx10 Cx11 Fx11 Cx12 Fx12 Cx13 Fx13 Ca20 Fa20 Ca21 Fa21 Ca22 Fa22 Ca23 Fa23 Cx20 Fx20 Cx21 Fx21 Cx22 Fx22 Cx23 Fx23 Cd0 Fd0 Cd1 Fd1 Cd2 Fd2 Cd3 Fd3
   refine (S_ b1w7 _ (A1 / B1) 10 qd (by omega) (by rw [Int.sign_eq_zero_iff_zero.1 HS0.out]; exact Nat.pow_pos T_)).mono ?_
   rintro e b1w8 ⟨rfl,gb1w8⟩
   rw [HS0.out]
   replace Ba1:=a_ gb1w8 Ba1
   replace Bx1:=a_ gb1w8 Bx1
   replace Ba2:=a_ gb1w8 Ba2
   replace Bx2:=a_ gb1w8 Bx2
   replace Bd:=a_ gb1w8 Bd
   replace qa1:=qa1.kept gb1w8
   replace yx1:=yx1.kept gb1w8
   replace qa2:=qa2.kept gb1w8
   replace yx2:=yx2.kept gb1w8
   replace hG:=d_ hG gb1w8
   clear gb1w8
   obtain ⟨Ca10,Ca11,Ca12,Ca13,Fa10,Fa11,Fa12,Fa13⟩:=b_ Ba1
   obtain ⟨Cx10,Cx11,Cx12,Cx13,Fx10,Fx11,Fx12,Fx13⟩:=b_ Bx1
   obtain ⟨Ca20,Ca21,Ca22,Ca23,Fa20,Fa21,Fa22,Fa23⟩:=b_ Ba2
   obtain ⟨Cx20,Cx21,Cx22,Cx23,Fx20,Fx21,Fx22,Fx23⟩:=b_ Bx2
   obtain ⟨Cd0,Cd1,Cd2,Cd3,Fd0,Fd1,Fd2,Fd3⟩:=b_ Bd
   go_wp2_with fail
   have HTr : Hid (∀ W,b1w8.grownBy W none → Tab W):=fun W hW=>HTB.out _ (d_ hG hW)
   go_region_held3 (fun w'=>w'.cell? ⟨aw1,0,none⟩ = some (.slice sa1 xa1.length xa1.length) ∧ w'.cell? ⟨aw1,1,none⟩ = some (.bool ba1) ∧ w'.cell? ⟨aw1,2,none⟩ = some (.slice sa1' xa1'.length xa1'.length) ∧ w'.cell? ⟨aw1,3,none⟩ = some (.bool ba1') ∧ w'.cell? ⟨aw1 + 1,0,none⟩ = some (.int .i64 gx1) ∧ w'.cell? ⟨aw1 + 1,1,none⟩ = some (.slice sx1 lx1 cx1) ∧ w'.cell? ⟨aw1 + 1,2,none⟩ = some (.int .i64 gx1') ∧ w'.cell? ⟨aw1 + 1,3,none⟩ = some (.slice sx1' lx1' cx1') ∧ w'.cell? ⟨aw3,0,none⟩ = some (.slice sa2 xa2.length xa2.length) ∧ w'.cell? ⟨aw3,1,none⟩ = some (.bool ba2) ∧ w'.cell? ⟨aw3,2,none⟩ = some (.slice sa2' xa2'.length xa2'.length) ∧ w'.cell? ⟨aw3,3,none⟩ = some (.bool ba2') ∧ w'.cell? ⟨aw3 + 1,0,none⟩ = some (.int .i64 gx2) ∧ w'.cell? ⟨aw3 + 1,1,none⟩ = some (.slice sx2 lx2 cx2) ∧ w'.cell? ⟨aw3 + 1,2,none⟩ = some (.int .i64 gx2') ∧ w'.cell? ⟨aw3 + 1,3,none⟩ = some (.slice sx2' lx2' cx2'))
    (first | assumption | exact ⟨Ca10,Ca11,Ca12,Ca13,Cx10,Cx11,Cx12,Cx13,Ca20,Ca21,Ca22,Ca23,Cx20,Cx21,Cx22,Cx23⟩ | go_keep)
    (first
      | (go_at_call 33; (with_reducible refine (ah_ b1w8.drew _ _ A1 B1 5 (qa1.kept (k_ (h_ _ _))) (qa2.kept (k_ (h_ _ _))) (by omega) L1.out.1 L1.out.2 L2.out.1 L2.out.2 (HTr.out _ (k_ (h_ _ _)))).mono ?_); rintro e b1w9_1 ⟨vz1_,rfl,z1_,gb1w9_1⟩; have Z1w9_1:=o_ b1w8 gb1w9_1 rfl rfl rfl rfl; have hSb1w9_1:=(n_ (Z1w9_1.cell Ca10 (by simp)) (n_ (Z1w9_1.cell Ca11 (by simp)) (n_ (Z1w9_1.cell Ca12 (by simp)) (n_ (Z1w9_1.cell Ca13 (by simp)) (n_ (Z1w9_1.cell Cx10 (by simp)) (n_ (Z1w9_1.cell Cx11 (by simp)) (n_ (Z1w9_1.cell Cx12 (by simp)) (n_ (Z1w9_1.cell Cx13 (by simp)) (n_ (Z1w9_1.cell Ca20 (by simp)) (n_ (Z1w9_1.cell Ca21 (by simp)) (n_ (Z1w9_1.cell Ca22 (by simp)) (n_ (Z1w9_1.cell Ca23 (by simp)) (n_ (Z1w9_1.cell Cx20 (by simp)) (n_ (Z1w9_1.cell Cx21 (by simp)) (n_ (Z1w9_1.cell Cx22 (by simp)) (Z1w9_1.cell Cx23 (by simp))))))))))))))))); clear gb1w9_1)
      | (go_at_call 34; (with_reducible refine (dZ_ b1w9_1 _ _ A1 B1 20 20 (yx1.kept Z1w9_1) (yx2.kept Z1w9_1) (by omega)).mono ?_); rintro e b1w9_2 ⟨vy2_,rfl,y2_,gb1w9_2⟩; have Z1w9_2:=d_ Z1w9_1 gb1w9_2; replace z1_:=z1_.kept gb1w9_2; have hSb1w9_2:=(n_ (Z1w9_2.cell Ca10 (by simp)) (n_ (Z1w9_2.cell Ca11 (by simp)) (n_ (Z1w9_2.cell Ca12 (by simp)) (n_ (Z1w9_2.cell Ca13 (by simp)) (n_ (Z1w9_2.cell Cx10 (by simp)) (n_ (Z1w9_2.cell Cx11 (by simp)) (n_ (Z1w9_2.cell Cx12 (by simp)) (n_ (Z1w9_2.cell Cx13 (by simp)) (n_ (Z1w9_2.cell Ca20 (by simp)) (n_ (Z1w9_2.cell Ca21 (by simp)) (n_ (Z1w9_2.cell Ca22 (by simp)) (n_ (Z1w9_2.cell Ca23 (by simp)) (n_ (Z1w9_2.cell Cx20 (by simp)) (n_ (Z1w9_2.cell Cx21 (by simp)) (n_ (Z1w9_2.cell Cx22 (by simp)) (Z1w9_2.cell Cx23 (by simp))))))))))))))))); clear gb1w9_2)
      | (go_at_call 16; (with_reducible refine (az_ b1w9_2 _ _ (A1 + B1) 11 41 z1_ y2_ (by omega) (by omega) (aj_ (k:=5) (m:=5) L1.out.1 L1.out.2 L2.out.1 L2.out.2) (ad_ (k:=5) (m:=5) L1.out.2 L2.out.2)).mono ?_); rintro e b1w9_3 ⟨rfl,gb1w9_3⟩; have Z1w9_3:=d_ Z1w9_2 gb1w9_3; replace z1_:=z1_.kept gb1w9_3; replace y2_:=y2_.kept gb1w9_3; have hSb1w9_3:=(n_ (Z1w9_3.cell Ca10 (by simp)) (n_ (Z1w9_3.cell Ca11 (by simp)) (n_ (Z1w9_3.cell Ca12 (by simp)) (n_ (Z1w9_3.cell Ca13 (by simp)) (n_ (Z1w9_3.cell Cx10 (by simp)) (n_ (Z1w9_3.cell Cx11 (by simp)) (n_ (Z1w9_3.cell Cx12 (by simp)) (n_ (Z1w9_3.cell Cx13 (by simp)) (n_ (Z1w9_3.cell Ca20 (by simp)) (n_ (Z1w9_3.cell Ca21 (by simp)) (n_ (Z1w9_3.cell Ca22 (by simp)) (n_ (Z1w9_3.cell Ca23 (by simp)) (n_ (Z1w9_3.cell Cx20 (by simp)) (n_ (Z1w9_3.cell Cx21 (by simp)) (n_ (Z1w9_3.cell Cx22 (by simp)) (Z1w9_3.cell Cx23 (by simp))))))))))))))))); clear gb1w9_3)
      | (go_at_call 35; (with_reducible refine (bS_ b1w9_3 _ _ A1 B1 5 (qa1.kept Z1w9_3) (qa2.kept Z1w9_3) (by omega) L1.out.1 L1.out.2 L2.out.1 L2.out.2 (HTr.out _ Z1w9_3)).mono ?_); rintro e b1w9_4 ⟨vz3_,rfl,z3_,gb1w9_4⟩; have Z1w9_4:=d_ Z1w9_3 gb1w9_4; replace z1_:=z1_.kept gb1w9_4; replace y2_:=y2_.kept gb1w9_4; have hSb1w9_4:=(n_ (Z1w9_4.cell Ca10 (by simp)) (n_ (Z1w9_4.cell Ca11 (by simp)) (n_ (Z1w9_4.cell Ca12 (by simp)) (n_ (Z1w9_4.cell Ca13 (by simp)) (n_ (Z1w9_4.cell Cx10 (by simp)) (n_ (Z1w9_4.cell Cx11 (by simp)) (n_ (Z1w9_4.cell Cx12 (by simp)) (n_ (Z1w9_4.cell Cx13 (by simp)) (n_ (Z1w9_4.cell Ca20 (by simp)) (n_ (Z1w9_4.cell Ca21 (by simp)) (n_ (Z1w9_4.cell Ca22 (by simp)) (n_ (Z1w9_4.cell Ca23 (by simp)) (n_ (Z1w9_4.cell Cx20 (by simp)) (n_ (Z1w9_4.cell Cx21 (by simp)) (n_ (Z1w9_4.cell Cx22 (by simp)) (Z1w9_4.cell Cx23 (by simp))))))))))))))))); clear gb1w9_4)
      | (go_at_call 36; (with_reducible refine (cP_ b1w9_4 _ _ A1 B1 20 20 (yx1.kept Z1w9_4) (yx2.kept Z1w9_4) (by omega)).mono ?_); rintro e b1w9_5 ⟨vy4_,rfl,y4_,gb1w9_5⟩; have Z1w9_5:=d_ Z1w9_4 gb1w9_5; replace z1_:=z1_.kept gb1w9_5; replace y2_:=y2_.kept gb1w9_5; replace z3_:=z3_.kept gb1w9_5; have hSb1w9_5:=(n_ (Z1w9_5.cell Ca10 (by simp)) (n_ (Z1w9_5.cell Ca11 (by simp)) (n_ (Z1w9_5.cell Ca12 (by simp)) (n_ (Z1w9_5.cell Ca13 (by simp)) (n_ (Z1w9_5.cell Cx10 (by simp)) (n_ (Z1w9_5.cell Cx11 (by simp)) (n_ (Z1w9_5.cell Cx12 (by simp)) (n_ (Z1w9_5.cell Cx13 (by simp)) (n_ (Z1w9_5.cell Ca20 (by simp)) (n_ (Z1w9_5.cell Ca21 (by simp)) (n_ (Z1w9_5.cell Ca22 (by simp)) (n_ (Z1w9_5.cell Ca23 (by simp)) (n_ (Z1w9_5.cell Cx20 (by simp)) (n_ (Z1w9_5.cell Cx21 (by simp)) (n_ (Z1w9_5.cell Cx22 (by simp)) (Z1w9_5.cell Cx23 (by simp))))))))))))))))); clear gb1w9_5)
      | (go_at_call 16; (with_reducible refine (az_ b1w9_5 _ _ (A1 - B1) 11 41 z3_ y4_ (by omega) (by omega) (dl_ (k:=5) (m:=5) L1.out.1 L1.out.2 L2.out.1 L2.out.2) (gp_ (k:=5) (m:=5) L1.out.2 L2.out.2)).mono ?_); rintro e b1w9_6 ⟨rfl,gb1w9_6⟩; have Z1w9_6:=d_ Z1w9_5 gb1w9_6; replace z1_:=z1_.kept gb1w9_6; replace y2_:=y2_.kept gb1w9_6; replace z3_:=z3_.kept gb1w9_6; replace y4_:=y4_.kept gb1w9_6; have hSb1w9_6:=(n_ (Z1w9_6.cell Ca10 (by simp)) (n_ (Z1w9_6.cell Ca11 (by simp)) (n_ (Z1w9_6.cell Ca12 (by simp)) (n_ (Z1w9_6.cell Ca13 (by simp)) (n_ (Z1w9_6.cell Cx10 (by simp)) (n_ (Z1w9_6.cell Cx11 (by simp)) (n_ (Z1w9_6.cell Cx12 (by simp)) (n_ (Z1w9_6.cell Cx13 (by simp)) (n_ (Z1w9_6.cell Ca20 (by simp)) (n_ (Z1w9_6.cell Ca21 (by simp)) (n_ (Z1w9_6.cell Ca22 (by simp)) (n_ (Z1w9_6.cell Ca23 (by simp)) (n_ (Z1w9_6.cell Cx20 (by simp)) (n_ (Z1w9_6.cell Cx21 (by simp)) (n_ (Z1w9_6.cell Cx22 (by simp)) (Z1w9_6.cell Cx23 (by simp))))))))))))))))); clear gb1w9_6)
      | (go_at_call 37; (with_reducible refine (ag_ b1w9_6 _ _ A1 B1 5 (qa1.kept Z1w9_6) (qa2.kept Z1w9_6) (by omega) L1.out.1 L1.out.2 L2.out.1 L2.out.2 (HTr.out _ Z1w9_6)).mono ?_); rintro e b1w9_7 ⟨vz5_,rfl,z5_,gb1w9_7⟩; have Z1w9_7:=d_ Z1w9_6 gb1w9_7; replace z1_:=z1_.kept gb1w9_7; replace y2_:=y2_.kept gb1w9_7; replace z3_:=z3_.kept gb1w9_7; replace y4_:=y4_.kept gb1w9_7; have hSb1w9_7:=(n_ (Z1w9_7.cell Ca10 (by simp)) (n_ (Z1w9_7.cell Ca11 (by simp)) (n_ (Z1w9_7.cell Ca12 (by simp)) (n_ (Z1w9_7.cell Ca13 (by simp)) (n_ (Z1w9_7.cell Cx10 (by simp)) (n_ (Z1w9_7.cell Cx11 (by simp)) (n_ (Z1w9_7.cell Cx12 (by simp)) (n_ (Z1w9_7.cell Cx13 (by simp)) (n_ (Z1w9_7.cell Ca20 (by simp)) (n_ (Z1w9_7.cell Ca21 (by simp)) (n_ (Z1w9_7.cell Ca22 (by simp)) (n_ (Z1w9_7.cell Ca23 (by simp)) (n_ (Z1w9_7.cell Cx20 (by simp)) (n_ (Z1w9_7.cell Cx21 (by simp)) (n_ (Z1w9_7.cell Cx22 (by simp)) (Z1w9_7.cell Cx23 (by simp))))))))))))))))); clear gb1w9_7)
      | (go_at_call 38; (with_reducible refine (fN_ b1w9_7 _ _ A1 B1 20 20 (yx1.kept Z1w9_7) (yx2.kept Z1w9_7) (by omega)).mono ?_); rintro e b1w9_8 ⟨vy6_,rfl,y6_,gb1w9_8⟩; have Z1w9_8:=d_ Z1w9_7 gb1w9_8; replace z1_:=z1_.kept gb1w9_8; replace y2_:=y2_.kept gb1w9_8; replace z3_:=z3_.kept gb1w9_8; replace y4_:=y4_.kept gb1w9_8; replace z5_:=z5_.kept gb1w9_8; have hSb1w9_8:=(n_ (Z1w9_8.cell Ca10 (by simp)) (n_ (Z1w9_8.cell Ca11 (by simp)) (n_ (Z1w9_8.cell Ca12 (by simp)) (n_ (Z1w9_8.cell Ca13 (by simp)) (n_ (Z1w9_8.cell Cx10 (by simp)) (n_ (Z1w9_8.cell Cx11 (by simp)) (n_ (Z1w9_8.cell Cx12 (by simp)) (n_ (Z1w9_8.cell Cx13 (by simp)) (n_ (Z1w9_8.cell Ca20 (by simp)) (n_ (Z1w9_8.cell Ca21 (by simp)) (n_ (Z1w9_8.cell Ca22 (by simp)) (n_ (Z1w9_8.cell Ca23 (by simp)) (n_ (Z1w9_8.cell Cx20 (by simp)) (n_ (Z1w9_8.cell Cx21 (by simp)) (n_ (Z1w9_8.cell Cx22 (by simp)) (Z1w9_8.cell Cx23 (by simp))))))))))))))))); clear gb1w9_8)
      | (go_at_call 16; (with_reducible refine (az_ b1w9_8 _ _ (A1 * B1) 10 40 z5_ y6_ (by omega) (by omega) (ai_ (k:=5) (m:=5) L1.out.1 L2.out.1) (ac_ (k:=5) (m:=5) L1.out.2 L2.out.2)).mono ?_); rintro e b1w9_9 ⟨rfl,gb1w9_9⟩; have Z1w9_9:=d_ Z1w9_8 gb1w9_9; replace z1_:=z1_.kept gb1w9_9; replace y2_:=y2_.kept gb1w9_9; replace z3_:=z3_.kept gb1w9_9; replace y4_:=y4_.kept gb1w9_9; replace z5_:=z5_.kept gb1w9_9; replace y6_:=y6_.kept gb1w9_9; have hSb1w9_9:=(n_ (Z1w9_9.cell Ca10 (by simp)) (n_ (Z1w9_9.cell Ca11 (by simp)) (n_ (Z1w9_9.cell Ca12 (by simp)) (n_ (Z1w9_9.cell Ca13 (by simp)) (n_ (Z1w9_9.cell Cx10 (by simp)) (n_ (Z1w9_9.cell Cx11 (by simp)) (n_ (Z1w9_9.cell Cx12 (by simp)) (n_ (Z1w9_9.cell Cx13 (by simp)) (n_ (Z1w9_9.cell Ca20 (by simp)) (n_ (Z1w9_9.cell Ca21 (by simp)) (n_ (Z1w9_9.cell Ca22 (by simp)) (n_ (Z1w9_9.cell Ca23 (by simp)) (n_ (Z1w9_9.cell Cx20 (by simp)) (n_ (Z1w9_9.cell Cx21 (by simp)) (n_ (Z1w9_9.cell Cx22 (by simp)) (Z1w9_9.cell Cx23 (by simp))))))))))))))))); clear gb1w9_9)
      | (go_at_call 39; (with_reducible refine (dM_ b1w9_9 _ A1 5 (qa1.kept Z1w9_9) (by omega) L1.out.1 L1.out.2).mono ?_); rintro e b1w9_10 ⟨vz7_,rfl,z7_,gb1w9_10⟩; have Z1w9_10:=d_ Z1w9_9 gb1w9_10; replace z1_:=z1_.kept gb1w9_10; replace y2_:=y2_.kept gb1w9_10; replace z3_:=z3_.kept gb1w9_10; replace y4_:=y4_.kept gb1w9_10; replace z5_:=z5_.kept gb1w9_10; replace y6_:=y6_.kept gb1w9_10; have hSb1w9_10:=(n_ (Z1w9_10.cell Ca10 (by simp)) (n_ (Z1w9_10.cell Ca11 (by simp)) (n_ (Z1w9_10.cell Ca12 (by simp)) (n_ (Z1w9_10.cell Ca13 (by simp)) (n_ (Z1w9_10.cell Cx10 (by simp)) (n_ (Z1w9_10.cell Cx11 (by simp)) (n_ (Z1w9_10.cell Cx12 (by simp)) (n_ (Z1w9_10.cell Cx13 (by simp)) (n_ (Z1w9_10.cell Ca20 (by simp)) (n_ (Z1w9_10.cell Ca21 (by simp)) (n_ (Z1w9_10.cell Ca22 (by simp)) (n_ (Z1w9_10.cell Ca23 (by simp)) (n_ (Z1w9_10.cell Cx20 (by simp)) (n_ (Z1w9_10.cell Cx21 (by simp)) (n_ (Z1w9_10.cell Cx22 (by simp)) (Z1w9_10.cell Cx23 (by simp))))))))))))))))); clear gb1w9_10)
      | (go_at_call 40; (with_reducible refine (dW_ b1w9_10 _ A1 20 (yx1.kept Z1w9_10) (by omega)).mono ?_); rintro e b1w9_11 ⟨vy8_,rfl,y8_,gb1w9_11⟩; have Z1w9_11:=d_ Z1w9_10 gb1w9_11; replace z1_:=z1_.kept gb1w9_11; replace y2_:=y2_.kept gb1w9_11; replace z3_:=z3_.kept gb1w9_11; replace y4_:=y4_.kept gb1w9_11; replace z5_:=z5_.kept gb1w9_11; replace y6_:=y6_.kept gb1w9_11; replace z7_:=z7_.kept gb1w9_11; have hSb1w9_11:=(n_ (Z1w9_11.cell Ca10 (by simp)) (n_ (Z1w9_11.cell Ca11 (by simp)) (n_ (Z1w9_11.cell Ca12 (by simp)) (n_ (Z1w9_11.cell Ca13 (by simp)) (n_ (Z1w9_11.cell Cx10 (by simp)) (n_ (Z1w9_11.cell Cx11 (by simp)) (n_ (Z1w9_11.cell Cx12 (by simp)) (n_ (Z1w9_11.cell Cx13 (by simp)) (n_ (Z1w9_11.cell Ca20 (by simp)) (n_ (Z1w9_11.cell Ca21 (by simp)) (n_ (Z1w9_11.cell Ca22 (by simp)) (n_ (Z1w9_11.cell Ca23 (by simp)) (n_ (Z1w9_11.cell Cx20 (by simp)) (n_ (Z1w9_11.cell Cx21 (by simp)) (n_ (Z1w9_11.cell Cx22 (by simp)) (Z1w9_11.cell Cx23 (by simp))))))))))))))))); clear gb1w9_11)
      | (go_at_call 16; (with_reducible refine (az_ b1w9_11 _ _ (-A1) 5 20 z7_ y8_ (by omega) (by omega) (eb_ L1.out.1) (dm_ L1.out.2)).mono ?_); rintro e b1w9_12 ⟨rfl,gb1w9_12⟩; have Z1w9_12:=d_ Z1w9_11 gb1w9_12; replace z1_:=z1_.kept gb1w9_12; replace y2_:=y2_.kept gb1w9_12; replace z3_:=z3_.kept gb1w9_12; replace y4_:=y4_.kept gb1w9_12; replace z5_:=z5_.kept gb1w9_12; replace y6_:=y6_.kept gb1w9_12; replace z7_:=z7_.kept gb1w9_12; replace y8_:=y8_.kept gb1w9_12; have hSb1w9_12:=(n_ (Z1w9_12.cell Ca10 (by simp)) (n_ (Z1w9_12.cell Ca11 (by simp)) (n_ (Z1w9_12.cell Ca12 (by simp)) (n_ (Z1w9_12.cell Ca13 (by simp)) (n_ (Z1w9_12.cell Cx10 (by simp)) (n_ (Z1w9_12.cell Cx11 (by simp)) (n_ (Z1w9_12.cell Cx12 (by simp)) (n_ (Z1w9_12.cell Cx13 (by simp)) (n_ (Z1w9_12.cell Ca20 (by simp)) (n_ (Z1w9_12.cell Ca21 (by simp)) (n_ (Z1w9_12.cell Ca22 (by simp)) (n_ (Z1w9_12.cell Ca23 (by simp)) (n_ (Z1w9_12.cell Cx20 (by simp)) (n_ (Z1w9_12.cell Cx21 (by simp)) (n_ (Z1w9_12.cell Cx22 (by simp)) (Z1w9_12.cell Cx23 (by simp))))))))))))))))); clear gb1w9_12)
      | (go_at_call 28; (with_reducible refine (D_ b1w9_12 _ _ A1 B1 5 (qa1.kept Z1w9_12) (qa2.kept Z1w9_12) (by omega) L1.out.1 L1.out.2 L2.out.1 L2.out.2).mono ?_); rintro e b1w9_13 ⟨rfl,gb1w9_13⟩; rw [HK.out]; have Z1w9_13:=d_ Z1w9_12 gb1w9_13; replace z1_:=z1_.kept gb1w9_13; replace y2_:=y2_.kept gb1w9_13; replace z3_:=z3_.kept gb1w9_13; replace y4_:=y4_.kept gb1w9_13; replace z5_:=z5_.kept gb1w9_13; replace y6_:=y6_.kept gb1w9_13; replace z7_:=z7_.kept gb1w9_13; replace y8_:=y8_.kept gb1w9_13; have hSb1w9_13:=(n_ (Z1w9_13.cell Ca10 (by simp)) (n_ (Z1w9_13.cell Ca11 (by simp)) (n_ (Z1w9_13.cell Ca12 (by simp)) (n_ (Z1w9_13.cell Ca13 (by simp)) (n_ (Z1w9_13.cell Cx10 (by simp)) (n_ (Z1w9_13.cell Cx11 (by simp)) (n_ (Z1w9_13.cell Cx12 (by simp)) (n_ (Z1w9_13.cell Cx13 (by simp)) (n_ (Z1w9_13.cell Ca20 (by simp)) (n_ (Z1w9_13.cell Ca21 (by simp)) (n_ (Z1w9_13.cell Ca22 (by simp)) (n_ (Z1w9_13.cell Ca23 (by simp)) (n_ (Z1w9_13.cell Cx20 (by simp)) (n_ (Z1w9_13.cell Cx21 (by simp)) (n_ (Z1w9_13.cell Cx22 (by simp)) (Z1w9_13.cell Cx23 (by simp))))))))))))))))); clear gb1w9_13)
      | (go_at_call 41; (with_reducible refine (dY_ b1w9_13 _ _ A1 B1 20 20 (yx1.kept Z1w9_13) (yx2.kept Z1w9_13) (by omega)).mono ?_); rintro e b1w9_14 ⟨rfl,gb1w9_14⟩; rw [HK.out]; have Z1w9_14:=d_ Z1w9_13 gb1w9_14; replace z1_:=z1_.kept gb1w9_14; replace y2_:=y2_.kept gb1w9_14; replace z3_:=z3_.kept gb1w9_14; replace y4_:=y4_.kept gb1w9_14; replace z5_:=z5_.kept gb1w9_14; replace y6_:=y6_.kept gb1w9_14; replace z7_:=z7_.kept gb1w9_14; replace y8_:=y8_.kept gb1w9_14; have hSb1w9_14:=(n_ (Z1w9_14.cell Ca10 (by simp)) (n_ (Z1w9_14.cell Ca11 (by simp)) (n_ (Z1w9_14.cell Ca12 (by simp)) (n_ (Z1w9_14.cell Ca13 (by simp)) (n_ (Z1w9_14.cell Cx10 (by simp)) (n_ (Z1w9_14.cell Cx11 (by simp)) (n_ (Z1w9_14.cell Cx12 (by simp)) (n_ (Z1w9_14.cell Cx13 (by simp)) (n_ (Z1w9_14.cell Ca20 (by simp)) (n_ (Z1w9_14.cell Ca21 (by simp)) (n_ (Z1w9_14.cell Ca22 (by simp)) (n_ (Z1w9_14.cell Ca23 (by simp)) (n_ (Z1w9_14.cell Cx20 (by simp)) (n_ (Z1w9_14.cell Cx21 (by simp)) (n_ (Z1w9_14.cell Cx22 (by simp)) (Z1w9_14.cell Cx23 (by simp))))))))))))))))); clear gb1w9_14))
   replace Ba1:=a_ Z1w9_14 Ba1
   replace Bx1:=a_ Z1w9_14 Bx1
   replace Ba2:=a_ Z1w9_14 Ba2
   replace Bx2:=a_ Z1w9_14 Bx2
   replace Bd:=a_ Z1w9_14 Bd
   replace hG:=d_ hG Z1w9_14
   clear Ca10 Fa10 Ca11 Fa11 Ca12 Fa12 Ca13 Fa13 Cx10 Fx10 Cx11 Fx11 Cx12 Fx12 Cx13 Fx13 Ca20 Fa20 Ca21 Fa21 Ca22 Fa22 Ca23 Fa23 Cx20 Fx20 Cx21 Fx21 Cx22 Fx22 Cx23 Fx23 Cd0 Fd0 Cd1 Fd1 Cd2 Fd2 Cd3 Fd3
   obtain ⟨Ca10,Ca11,Ca12,Ca13,Fa10,Fa11,Fa12,Fa13⟩:=b_ Ba1
   obtain ⟨Cx10,Cx11,Cx12,Cx13,Fx10,Fx11,Fx12,Fx13⟩:=b_ Bx1
   obtain ⟨Ca20,Ca21,Ca22,Ca23,Fa20,Fa21,Fa22,Fa23⟩:=b_ Ba2
   obtain ⟨Cx20,Cx21,Cx22,Cx23,Fx20,Fx21,Fx22,Fx23⟩:=b_ Bx2
   obtain ⟨Cd0,Cd1,Cd2,Cd3,Fd0,Fd1,Fd2,Fd3⟩:=b_ Bd
   go_wp2_with fail
   go_ret
   exact ⟨by first | rfl | simp,hG⟩
 · skip
   have HB:=H_ hB
   have fg : (gx2 == 0) = false:=beq_eq_false_iff_ne.2 (by rw [hgx]; intro h; exact hB (Rat.num_eq_zero.1 (Int.sign_eq_zero_iff_zero.1 h)))
   have HDB : Hid ((A1 / B1).num.natAbs < B ^ 10 ∧ (A1 / B1).den < B ^ 10):=⟨iv_ L1.out.1 L2.out.2,iw_ L1.out.2 L2.out.1 hB⟩
   clear hgx hB
   clear Ca10 Fa10 Ca11 Fa11 Ca12 Fa12 Ca13 Fa13 Cx10 Fx10 Cx11 Fx11 Cx12 Fx12 Cx13 Fx13 Ca20 Fa20 Ca21 Fa21 Ca22 Fa22 Ca23 Fa23 Cx20 Fx20 Cx21 Fx21 Cx22 Fx22 Cx23 Fx23
   refine (ct_ w5 _ _ A1 B1 5 qa1 qa2 (by omega) L1.out.1 L1.out.2 L2.out.1 L2.out.2 (HTB.out _ hG)).mono ?_
   rintro e b0w6 ⟨_,rfl,⟨sd,xd,bd,sd',xd',bd',rfl,hd,hd'⟩,gb0w6⟩
   rw [if_neg HB.out]
   have qd : RatV b0w6 (.agg #[.slice sd xd.length xd.length,.bool bd,.slice sd' xd'.length xd'.length,.bool bd']) (A1 / B1):=⟨sd,xd,bd,sd',xd',bd',rfl,hd,hd'⟩
   replace Ba1:=a_ gb0w6 Ba1
   replace Bx1:=a_ gb0w6 Bx1
   replace Ba2:=a_ gb0w6 Ba2
   replace Bx2:=a_ gb0w6 Bx2
   replace qa1:=qa1.kept gb0w6
   replace yx1:=yx1.kept gb0w6
   replace qa2:=qa2.kept gb0w6
   replace yx2:=yx2.kept gb0w6
   replace hG:=d_ hG gb0w6
   clear gb0w6
   clear hd hd'
   obtain ⟨Ca10,Ca11,Ca12,Ca13,Fa10,Fa11,Fa12,Fa13⟩:=b_ Ba1
   obtain ⟨Cx10,Cx11,Cx12,Cx13,Fx10,Fx11,Fx12,Fx13⟩:=b_ Bx1
   obtain ⟨Ca20,Ca21,Ca22,Ca23,Fa20,Fa21,Fa22,Fa23⟩:=b_ Ba2
   obtain ⟨Cx20,Cx21,Cx22,Cx23,Fx20,Fx21,Fx22,Fx23⟩:=b_ Bx2
   have gbb0w6:=(wg_ b0w6 (.cells #[.slice sd xd.length xd.length,.bool bd,.slice sd' xd'.length xd'.length,.bool bd'] 28) none)
   have Bd:=(f_ b0w6 (.cells #[.slice sd xd.length xd.length,.bool bd,.slice sd' xd'.length xd'.length,.bool bd'] 28) (b0w6.heap.size) rfl)
   have hzb0w6 : Hid (w.heap.size ≤ b0w6.heap.size):=H_ hG.size
   have hla1b0w6 : Hid (aw1 < b0w6.heap.size):=H_ (Array.getElem?_eq_some_iff.1 Ba1).1
   have hlx1b0w6 : Hid (aw1 + 1 < b0w6.heap.size):=H_ (Array.getElem?_eq_some_iff.1 Bx1).1
   have hla2b0w6 : Hid (aw3 < b0w6.heap.size):=H_ (Array.getElem?_eq_some_iff.1 Ba2).1
   have hlx2b0w6 : Hid (aw3 + 1 < b0w6.heap.size):=H_ (Array.getElem?_eq_some_iff.1 Bx2).1
   clear Ca10 Fa10 Ca11 Fa11 Ca12 Fa12 Ca13 Fa13 Cx10 Fx10 Cx11 Fx11 Cx12 Fx12 Cx13 Fx13 Ca20 Fa20 Ca21 Fa21 Ca22 Fa22 Ca23 Fa23 Cx20 Fx20 Cx21 Fx21 Cx22 Fx22 Cx23 Fx23
   replace Ba1:=a_ gbb0w6 Ba1
   replace Bx1:=a_ gbb0w6 Bx1
   replace Ba2:=a_ gbb0w6 Ba2
   replace Bx2:=a_ gbb0w6 Bx2
   replace qa1:=qa1.kept gbb0w6
   replace yx1:=yx1.kept gbb0w6
   replace qa2:=qa2.kept gbb0w6
   replace yx2:=yx2.kept gbb0w6
   replace qd:=qd.kept gbb0w6
   replace hG:=d_ hG gbb0w6
   clear gbb0w6
   obtain ⟨Ca10,Ca11,Ca12,Ca13,Fa10,Fa11,Fa12,Fa13⟩:=b_ Ba1
   obtain ⟨Cx10,Cx11,Cx12,Cx13,Fx10,Fx11,Fx12,Fx13⟩:=b_ Bx1
   obtain ⟨Ca20,Ca21,Ca22,Ca23,Fa20,Fa21,Fa22,Fa23⟩:=b_ Ba2
   obtain ⟨Cx20,Cx21,Cx22,Cx23,Fx20,Fx21,Fx22,Fx23⟩:=b_ Bx2
   obtain ⟨Cd0,Cd1,Cd2,Cd3,Fd0,Fd1,Fd2,Fd3⟩:=b_ Bd
   go_wp2_with fail
   generalize (b0w6.alloc (.cells #[.slice sd xd.length xd.length,.bool bd,.slice sd' xd'.length xd'.length,.bool bd'] 28)) = b0w7 at *
   generalize b0w6.heap.size = ab0w6 at *
   replace hzb0w6:=hzb0w6.out
   replace hla1b0w6:=hla1b0w6.out
   replace hlx1b0w6:=hlx1b0w6.out
   replace hla2b0w6:=hla2b0w6.out
   replace hlx2b0w6:=hlx2b0w6.out
   go_region_held3 (fun w'=>w'.cell? ⟨ab0w6,0,none⟩ = some (.slice sd xd.length xd.length) ∧ w'.cell? ⟨ab0w6,1,none⟩ = some (.bool bd) ∧ w'.cell? ⟨ab0w6,2,none⟩ = some (.slice sd' xd'.length xd'.length) ∧ w'.cell? ⟨ab0w6,3,none⟩ = some (.bool bd') ∧ w'.cell? ⟨aw1 + 1,0,none⟩ = some (.int .i64 gx1) ∧ w'.cell? ⟨aw1 + 1,1,none⟩ = some (.slice sx1 lx1 cx1) ∧ w'.cell? ⟨aw1 + 1,2,none⟩ = some (.int .i64 gx1') ∧ w'.cell? ⟨aw1 + 1,3,none⟩ = some (.slice sx1' lx1' cx1') ∧ w'.cell? ⟨aw3 + 1,0,none⟩ = some (.int .i64 gx2) ∧ w'.cell? ⟨aw3 + 1,1,none⟩ = some (.slice sx2 lx2 cx2) ∧ w'.cell? ⟨aw3 + 1,2,none⟩ = some (.int .i64 gx2') ∧ w'.cell? ⟨aw3 + 1,3,none⟩ = some (.slice sx2' lx2' cx2'))
    (first | assumption | exact ⟨Cd0,Cd1,Cd2,Cd3,Cx10,Cx11,Cx12,Cx13,Cx20,Cx21,Cx22,Cx23⟩ | go_keep)
    (first
      | (go_at_call 32; (with_reducible refine (it_ b0w7.drew _ _ A1 B1 20 20 (yx1.kept (k_ (h_ _ _))) (yx2.kept (k_ (h_ _ _))) (by omega) HB.out).mono ?_); rintro e b0w8_1 ⟨vy9_,rfl,y9_,gb0w8_1⟩; have Z0w8_1:=o_ b0w7 gb0w8_1 rfl rfl rfl rfl; have hSb0w8_1:=(n_ (Z0w8_1.cell Cd0 (by simp)) (n_ (Z0w8_1.cell Cd1 (by simp)) (n_ (Z0w8_1.cell Cd2 (by simp)) (n_ (Z0w8_1.cell Cd3 (by simp)) (n_ (Z0w8_1.cell Cx10 (by simp)) (n_ (Z0w8_1.cell Cx11 (by simp)) (n_ (Z0w8_1.cell Cx12 (by simp)) (n_ (Z0w8_1.cell Cx13 (by simp)) (n_ (Z0w8_1.cell Cx20 (by simp)) (n_ (Z0w8_1.cell Cx21 (by simp)) (n_ (Z0w8_1.cell Cx22 (by simp)) (Z0w8_1.cell Cx23 (by simp))))))))))))); clear gb0w8_1)
      | (go_at_call 16; (with_reducible refine (az_ b0w8_1 _ _ (A1 / B1) 10 40 (qd.kept Z0w8_1) y9_ (by omega) (by omega) HDB.out.1 HDB.out.2).mono ?_); rintro e b0w8_2 ⟨rfl,gb0w8_2⟩; have Z0w8_2:=d_ Z0w8_1 gb0w8_2; replace y9_:=y9_.kept gb0w8_2; have hSb0w8_2:=(n_ (Z0w8_2.cell Cd0 (by simp)) (n_ (Z0w8_2.cell Cd1 (by simp)) (n_ (Z0w8_2.cell Cd2 (by simp)) (n_ (Z0w8_2.cell Cd3 (by simp)) (n_ (Z0w8_2.cell Cx10 (by simp)) (n_ (Z0w8_2.cell Cx11 (by simp)) (n_ (Z0w8_2.cell Cx12 (by simp)) (n_ (Z0w8_2.cell Cx13 (by simp)) (n_ (Z0w8_2.cell Cx20 (by simp)) (n_ (Z0w8_2.cell Cx21 (by simp)) (n_ (Z0w8_2.cell Cx22 (by simp)) (Z0w8_2.cell Cx23 (by simp))))))))))))); clear gb0w8_2))
   replace Ba1:=a_ Z0w8_2 Ba1
   replace Bx1:=a_ Z0w8_2 Bx1
   replace Ba2:=a_ Z0w8_2 Ba2
   replace Bx2:=a_ Z0w8_2 Bx2
   replace Bd:=a_ Z0w8_2 Bd
   replace qa1:=qa1.kept Z0w8_2
   replace yx1:=yx1.kept Z0w8_2
   replace qa2:=qa2.kept Z0w8_2
   replace yx2:=yx2.kept Z0w8_2
   replace hG:=d_ hG Z0w8_2
   clear Ca10 Fa10 Ca11 Fa11 Ca12 Fa12 Ca13 Fa13 Cx10 Fx10 Cx11 Fx11 Cx12 Fx12 Cx13 Fx13 Ca20 Fa20 Ca21 Fa21 Ca22 Fa22 Ca23 Fa23 Cx20 Fx20 Cx21 Fx21 Cx22 Fx22 Cx23 Fx23 Cd0 Fd0 Cd1 Fd1 Cd2 Fd2 Cd3 Fd3
   obtain ⟨Ca10,Ca11,Ca12,Ca13,Fa10,Fa11,Fa12,Fa13⟩:=b_ Ba1
   obtain ⟨Cx10,Cx11,Cx12,Cx13,Fx10,Fx11,Fx12,Fx13⟩:=b_ Bx1
   obtain ⟨Ca20,Ca21,Ca22,Ca23,Fa20,Fa21,Fa22,Fa23⟩:=b_ Ba2
   obtain ⟨Cx20,Cx21,Cx22,Cx23,Fx20,Fx21,Fx22,Fx23⟩:=b_ Bx2
   obtain ⟨Cd0,Cd1,Cd2,Cd3,Fd0,Fd1,Fd2,Fd3⟩:=b_ Bd
   go_wp2_with fail
   have HTr : Hid (∀ W,b0w8_2.grownBy W none → Tab W):=fun W hW=>HTB.out _ (d_ hG hW)
   go_region_held3 (fun w'=>w'.cell? ⟨aw1,0,none⟩ = some (.slice sa1 xa1.length xa1.length) ∧ w'.cell? ⟨aw1,1,none⟩ = some (.bool ba1) ∧ w'.cell? ⟨aw1,2,none⟩ = some (.slice sa1' xa1'.length xa1'.length) ∧ w'.cell? ⟨aw1,3,none⟩ = some (.bool ba1') ∧ w'.cell? ⟨aw1 + 1,0,none⟩ = some (.int .i64 gx1) ∧ w'.cell? ⟨aw1 + 1,1,none⟩ = some (.slice sx1 lx1 cx1) ∧ w'.cell? ⟨aw1 + 1,2,none⟩ = some (.int .i64 gx1') ∧ w'.cell? ⟨aw1 + 1,3,none⟩ = some (.slice sx1' lx1' cx1') ∧ w'.cell? ⟨aw3,0,none⟩ = some (.slice sa2 xa2.length xa2.length) ∧ w'.cell? ⟨aw3,1,none⟩ = some (.bool ba2) ∧ w'.cell? ⟨aw3,2,none⟩ = some (.slice sa2' xa2'.length xa2'.length) ∧ w'.cell? ⟨aw3,3,none⟩ = some (.bool ba2') ∧ w'.cell? ⟨aw3 + 1,0,none⟩ = some (.int .i64 gx2) ∧ w'.cell? ⟨aw3 + 1,1,none⟩ = some (.slice sx2 lx2 cx2) ∧ w'.cell? ⟨aw3 + 1,2,none⟩ = some (.int .i64 gx2') ∧ w'.cell? ⟨aw3 + 1,3,none⟩ = some (.slice sx2' lx2' cx2'))
    (first | assumption | exact ⟨Ca10,Ca11,Ca12,Ca13,Cx10,Cx11,Cx12,Cx13,Ca20,Ca21,Ca22,Ca23,Cx20,Cx21,Cx22,Cx23⟩ | go_keep)
    (first
      | (go_at_call 33; (with_reducible refine (ah_ b0w8_2.drew _ _ A1 B1 5 (qa1.kept (k_ (h_ _ _))) (qa2.kept (k_ (h_ _ _))) (by omega) L1.out.1 L1.out.2 L2.out.1 L2.out.2 (HTr.out _ (k_ (h_ _ _)))).mono ?_); rintro e b0w9_1 ⟨vz10_,rfl,z10_,gb0w9_1⟩; have Z0w9_1:=o_ b0w8_2 gb0w9_1 rfl rfl rfl rfl; have hSb0w9_1:=(n_ (Z0w9_1.cell Ca10 (by simp)) (n_ (Z0w9_1.cell Ca11 (by simp)) (n_ (Z0w9_1.cell Ca12 (by simp)) (n_ (Z0w9_1.cell Ca13 (by simp)) (n_ (Z0w9_1.cell Cx10 (by simp)) (n_ (Z0w9_1.cell Cx11 (by simp)) (n_ (Z0w9_1.cell Cx12 (by simp)) (n_ (Z0w9_1.cell Cx13 (by simp)) (n_ (Z0w9_1.cell Ca20 (by simp)) (n_ (Z0w9_1.cell Ca21 (by simp)) (n_ (Z0w9_1.cell Ca22 (by simp)) (n_ (Z0w9_1.cell Ca23 (by simp)) (n_ (Z0w9_1.cell Cx20 (by simp)) (n_ (Z0w9_1.cell Cx21 (by simp)) (n_ (Z0w9_1.cell Cx22 (by simp)) (Z0w9_1.cell Cx23 (by simp))))))))))))))))); clear gb0w9_1)
      | (go_at_call 34; (with_reducible refine (dZ_ b0w9_1 _ _ A1 B1 20 20 (yx1.kept Z0w9_1) (yx2.kept Z0w9_1) (by omega)).mono ?_); rintro e b0w9_2 ⟨vy11_,rfl,y11_,gb0w9_2⟩; have Z0w9_2:=d_ Z0w9_1 gb0w9_2; replace z10_:=z10_.kept gb0w9_2; have hSb0w9_2:=(n_ (Z0w9_2.cell Ca10 (by simp)) (n_ (Z0w9_2.cell Ca11 (by simp)) (n_ (Z0w9_2.cell Ca12 (by simp)) (n_ (Z0w9_2.cell Ca13 (by simp)) (n_ (Z0w9_2.cell Cx10 (by simp)) (n_ (Z0w9_2.cell Cx11 (by simp)) (n_ (Z0w9_2.cell Cx12 (by simp)) (n_ (Z0w9_2.cell Cx13 (by simp)) (n_ (Z0w9_2.cell Ca20 (by simp)) (n_ (Z0w9_2.cell Ca21 (by simp)) (n_ (Z0w9_2.cell Ca22 (by simp)) (n_ (Z0w9_2.cell Ca23 (by simp)) (n_ (Z0w9_2.cell Cx20 (by simp)) (n_ (Z0w9_2.cell Cx21 (by simp)) (n_ (Z0w9_2.cell Cx22 (by simp)) (Z0w9_2.cell Cx23 (by simp))))))))))))))))); clear gb0w9_2)
      | (go_at_call 16; (with_reducible refine (az_ b0w9_2 _ _ (A1 + B1) 11 41 z10_ y11_ (by omega) (by omega) (aj_ (k:=5) (m:=5) L1.out.1 L1.out.2 L2.out.1 L2.out.2) (ad_ (k:=5) (m:=5) L1.out.2 L2.out.2)).mono ?_); rintro e b0w9_3 ⟨rfl,gb0w9_3⟩; have Z0w9_3:=d_ Z0w9_2 gb0w9_3; replace z10_:=z10_.kept gb0w9_3; replace y11_:=y11_.kept gb0w9_3; have hSb0w9_3:=(n_ (Z0w9_3.cell Ca10 (by simp)) (n_ (Z0w9_3.cell Ca11 (by simp)) (n_ (Z0w9_3.cell Ca12 (by simp)) (n_ (Z0w9_3.cell Ca13 (by simp)) (n_ (Z0w9_3.cell Cx10 (by simp)) (n_ (Z0w9_3.cell Cx11 (by simp)) (n_ (Z0w9_3.cell Cx12 (by simp)) (n_ (Z0w9_3.cell Cx13 (by simp)) (n_ (Z0w9_3.cell Ca20 (by simp)) (n_ (Z0w9_3.cell Ca21 (by simp)) (n_ (Z0w9_3.cell Ca22 (by simp)) (n_ (Z0w9_3.cell Ca23 (by simp)) (n_ (Z0w9_3.cell Cx20 (by simp)) (n_ (Z0w9_3.cell Cx21 (by simp)) (n_ (Z0w9_3.cell Cx22 (by simp)) (Z0w9_3.cell Cx23 (by simp))))))))))))))))); clear gb0w9_3)
      | (go_at_call 35; (with_reducible refine (bS_ b0w9_3 _ _ A1 B1 5 (qa1.kept Z0w9_3) (qa2.kept Z0w9_3) (by omega) L1.out.1 L1.out.2 L2.out.1 L2.out.2 (HTr.out _ Z0w9_3)).mono ?_); rintro e b0w9_4 ⟨vz12_,rfl,z12_,gb0w9_4⟩; have Z0w9_4:=d_ Z0w9_3 gb0w9_4; replace z10_:=z10_.kept gb0w9_4; replace y11_:=y11_.kept gb0w9_4; have hSb0w9_4:=(n_ (Z0w9_4.cell Ca10 (by simp)) (n_ (Z0w9_4.cell Ca11 (by simp)) (n_ (Z0w9_4.cell Ca12 (by simp)) (n_ (Z0w9_4.cell Ca13 (by simp)) (n_ (Z0w9_4.cell Cx10 (by simp)) (n_ (Z0w9_4.cell Cx11 (by simp)) (n_ (Z0w9_4.cell Cx12 (by simp)) (n_ (Z0w9_4.cell Cx13 (by simp)) (n_ (Z0w9_4.cell Ca20 (by simp)) (n_ (Z0w9_4.cell Ca21 (by simp)) (n_ (Z0w9_4.cell Ca22 (by simp)) (n_ (Z0w9_4.cell Ca23 (by simp)) (n_ (Z0w9_4.cell Cx20 (by simp)) (n_ (Z0w9_4.cell Cx21 (by simp)) (n_ (Z0w9_4.cell Cx22 (by simp)) (Z0w9_4.cell Cx23 (by simp))))))))))))))))); clear gb0w9_4)
      | (go_at_call 36; (with_reducible refine (cP_ b0w9_4 _ _ A1 B1 20 20 (yx1.kept Z0w9_4) (yx2.kept Z0w9_4) (by omega)).mono ?_); rintro e b0w9_5 ⟨vy13_,rfl,y13_,gb0w9_5⟩; have Z0w9_5:=d_ Z0w9_4 gb0w9_5; replace z10_:=z10_.kept gb0w9_5; replace y11_:=y11_.kept gb0w9_5; replace z12_:=z12_.kept gb0w9_5; have hSb0w9_5:=(n_ (Z0w9_5.cell Ca10 (by simp)) (n_ (Z0w9_5.cell Ca11 (by simp)) (n_ (Z0w9_5.cell Ca12 (by simp)) (n_ (Z0w9_5.cell Ca13 (by simp)) (n_ (Z0w9_5.cell Cx10 (by simp)) (n_ (Z0w9_5.cell Cx11 (by simp)) (n_ (Z0w9_5.cell Cx12 (by simp)) (n_ (Z0w9_5.cell Cx13 (by simp)) (n_ (Z0w9_5.cell Ca20 (by simp)) (n_ (Z0w9_5.cell Ca21 (by simp)) (n_ (Z0w9_5.cell Ca22 (by simp)) (n_ (Z0w9_5.cell Ca23 (by simp)) (n_ (Z0w9_5.cell Cx20 (by simp)) (n_ (Z0w9_5.cell Cx21 (by simp)) (n_ (Z0w9_5.cell Cx22 (by simp)) (Z0w9_5.cell Cx23 (by simp))))))))))))))))); clear gb0w9_5)
      | (go_at_call 16; (with_reducible refine (az_ b0w9_5 _ _ (A1 - B1) 11 41 z12_ y13_ (by omega) (by omega) (dl_ (k:=5) (m:=5) L1.out.1 L1.out.2 L2.out.1 L2.out.2) (gp_ (k:=5) (m:=5) L1.out.2 L2.out.2)).mono ?_); rintro e b0w9_6 ⟨rfl,gb0w9_6⟩; have Z0w9_6:=d_ Z0w9_5 gb0w9_6; replace z10_:=z10_.kept gb0w9_6; replace y11_:=y11_.kept gb0w9_6; replace z12_:=z12_.kept gb0w9_6; replace y13_:=y13_.kept gb0w9_6; have hSb0w9_6:=(n_ (Z0w9_6.cell Ca10 (by simp)) (n_ (Z0w9_6.cell Ca11 (by simp)) (n_ (Z0w9_6.cell Ca12 (by simp)) (n_ (Z0w9_6.cell Ca13 (by simp)) (n_ (Z0w9_6.cell Cx10 (by simp)) (n_ (Z0w9_6.cell Cx11 (by simp)) (n_ (Z0w9_6.cell Cx12 (by simp)) (n_ (Z0w9_6.cell Cx13 (by simp)) (n_ (Z0w9_6.cell Ca20 (by simp)) (n_ (Z0w9_6.cell Ca21 (by simp)) (n_ (Z0w9_6.cell Ca22 (by simp)) (n_ (Z0w9_6.cell Ca23 (by simp)) (n_ (Z0w9_6.cell Cx20 (by simp)) (n_ (Z0w9_6.cell Cx21 (by simp)) (n_ (Z0w9_6.cell Cx22 (by simp)) (Z0w9_6.cell Cx23 (by simp))))))))))))))))); clear gb0w9_6)
      | (go_at_call 37; (with_reducible refine (ag_ b0w9_6 _ _ A1 B1 5 (qa1.kept Z0w9_6) (qa2.kept Z0w9_6) (by omega) L1.out.1 L1.out.2 L2.out.1 L2.out.2 (HTr.out _ Z0w9_6)).mono ?_); rintro e b0w9_7 ⟨vz14_,rfl,z14_,gb0w9_7⟩; have Z0w9_7:=d_ Z0w9_6 gb0w9_7; replace z10_:=z10_.kept gb0w9_7; replace y11_:=y11_.kept gb0w9_7; replace z12_:=z12_.kept gb0w9_7; replace y13_:=y13_.kept gb0w9_7; have hSb0w9_7:=(n_ (Z0w9_7.cell Ca10 (by simp)) (n_ (Z0w9_7.cell Ca11 (by simp)) (n_ (Z0w9_7.cell Ca12 (by simp)) (n_ (Z0w9_7.cell Ca13 (by simp)) (n_ (Z0w9_7.cell Cx10 (by simp)) (n_ (Z0w9_7.cell Cx11 (by simp)) (n_ (Z0w9_7.cell Cx12 (by simp)) (n_ (Z0w9_7.cell Cx13 (by simp)) (n_ (Z0w9_7.cell Ca20 (by simp)) (n_ (Z0w9_7.cell Ca21 (by simp)) (n_ (Z0w9_7.cell Ca22 (by simp)) (n_ (Z0w9_7.cell Ca23 (by simp)) (n_ (Z0w9_7.cell Cx20 (by simp)) (n_ (Z0w9_7.cell Cx21 (by simp)) (n_ (Z0w9_7.cell Cx22 (by simp)) (Z0w9_7.cell Cx23 (by simp))))))))))))))))); clear gb0w9_7)
      | (go_at_call 38; (with_reducible refine (fN_ b0w9_7 _ _ A1 B1 20 20 (yx1.kept Z0w9_7) (yx2.kept Z0w9_7) (by omega)).mono ?_); rintro e b0w9_8 ⟨vy15_,rfl,y15_,gb0w9_8⟩; have Z0w9_8:=d_ Z0w9_7 gb0w9_8; replace z10_:=z10_.kept gb0w9_8; replace y11_:=y11_.kept gb0w9_8; replace z12_:=z12_.kept gb0w9_8; replace y13_:=y13_.kept gb0w9_8; replace z14_:=z14_.kept gb0w9_8; have hSb0w9_8:=(n_ (Z0w9_8.cell Ca10 (by simp)) (n_ (Z0w9_8.cell Ca11 (by simp)) (n_ (Z0w9_8.cell Ca12 (by simp)) (n_ (Z0w9_8.cell Ca13 (by simp)) (n_ (Z0w9_8.cell Cx10 (by simp)) (n_ (Z0w9_8.cell Cx11 (by simp)) (n_ (Z0w9_8.cell Cx12 (by simp)) (n_ (Z0w9_8.cell Cx13 (by simp)) (n_ (Z0w9_8.cell Ca20 (by simp)) (n_ (Z0w9_8.cell Ca21 (by simp)) (n_ (Z0w9_8.cell Ca22 (by simp)) (n_ (Z0w9_8.cell Ca23 (by simp)) (n_ (Z0w9_8.cell Cx20 (by simp)) (n_ (Z0w9_8.cell Cx21 (by simp)) (n_ (Z0w9_8.cell Cx22 (by simp)) (Z0w9_8.cell Cx23 (by simp))))))))))))))))); clear gb0w9_8)
      | (go_at_call 16; (with_reducible refine (az_ b0w9_8 _ _ (A1 * B1) 10 40 z14_ y15_ (by omega) (by omega) (ai_ (k:=5) (m:=5) L1.out.1 L2.out.1) (ac_ (k:=5) (m:=5) L1.out.2 L2.out.2)).mono ?_); rintro e b0w9_9 ⟨rfl,gb0w9_9⟩; have Z0w9_9:=d_ Z0w9_8 gb0w9_9; replace z10_:=z10_.kept gb0w9_9; replace y11_:=y11_.kept gb0w9_9; replace z12_:=z12_.kept gb0w9_9; replace y13_:=y13_.kept gb0w9_9; replace z14_:=z14_.kept gb0w9_9; replace y15_:=y15_.kept gb0w9_9; have hSb0w9_9:=(n_ (Z0w9_9.cell Ca10 (by simp)) (n_ (Z0w9_9.cell Ca11 (by simp)) (n_ (Z0w9_9.cell Ca12 (by simp)) (n_ (Z0w9_9.cell Ca13 (by simp)) (n_ (Z0w9_9.cell Cx10 (by simp)) (n_ (Z0w9_9.cell Cx11 (by simp)) (n_ (Z0w9_9.cell Cx12 (by simp)) (n_ (Z0w9_9.cell Cx13 (by simp)) (n_ (Z0w9_9.cell Ca20 (by simp)) (n_ (Z0w9_9.cell Ca21 (by simp)) (n_ (Z0w9_9.cell Ca22 (by simp)) (n_ (Z0w9_9.cell Ca23 (by simp)) (n_ (Z0w9_9.cell Cx20 (by simp)) (n_ (Z0w9_9.cell Cx21 (by simp)) (n_ (Z0w9_9.cell Cx22 (by simp)) (Z0w9_9.cell Cx23 (by simp))))))))))))))))); clear gb0w9_9)
      | (go_at_call 39; (with_reducible refine (dM_ b0w9_9 _ A1 5 (qa1.kept Z0w9_9) (by omega) L1.out.1 L1.out.2).mono ?_); rintro e b0w9_10 ⟨vz16_,rfl,z16_,gb0w9_10⟩; have Z0w9_10:=d_ Z0w9_9 gb0w9_10; replace z10_:=z10_.kept gb0w9_10; replace y11_:=y11_.kept gb0w9_10; replace z12_:=z12_.kept gb0w9_10; replace y13_:=y13_.kept gb0w9_10; replace z14_:=z14_.kept gb0w9_10; replace y15_:=y15_.kept gb0w9_10; have hSb0w9_10:=(n_ (Z0w9_10.cell Ca10 (by simp)) (n_ (Z0w9_10.cell Ca11 (by simp)) (n_ (Z0w9_10.cell Ca12 (by simp)) (n_ (Z0w9_10.cell Ca13 (by simp)) (n_ (Z0w9_10.cell Cx10 (by simp)) (n_ (Z0w9_10.cell Cx11 (by simp)) (n_ (Z0w9_10.cell Cx12 (by simp)) (n_ (Z0w9_10.cell Cx13 (by simp)) (n_ (Z0w9_10.cell Ca20 (by simp)) (n_ (Z0w9_10.cell Ca21 (by simp)) (n_ (Z0w9_10.cell Ca22 (by simp)) (n_ (Z0w9_10.cell Ca23 (by simp)) (n_ (Z0w9_10.cell Cx20 (by simp)) (n_ (Z0w9_10.cell Cx21 (by simp)) (n_ (Z0w9_10.cell Cx22 (by simp)) (Z0w9_10.cell Cx23 (by simp))))))))))))))))); clear gb0w9_10)
      | (go_at_call 40; (with_reducible refine (dW_ b0w9_10 _ A1 20 (yx1.kept Z0w9_10) (by omega)).mono ?_); rintro e b0w9_11 ⟨vy17_,rfl,y17_,gb0w9_11⟩; have Z0w9_11:=d_ Z0w9_10 gb0w9_11; replace z10_:=z10_.kept gb0w9_11; replace y11_:=y11_.kept gb0w9_11; replace z12_:=z12_.kept gb0w9_11; replace y13_:=y13_.kept gb0w9_11; replace z14_:=z14_.kept gb0w9_11; replace y15_:=y15_.kept gb0w9_11; replace z16_:=z16_.kept gb0w9_11; have hSb0w9_11:=(n_ (Z0w9_11.cell Ca10 (by simp)) (n_ (Z0w9_11.cell Ca11 (by simp)) (n_ (Z0w9_11.cell Ca12 (by simp)) (n_ (Z0w9_11.cell Ca13 (by simp)) (n_ (Z0w9_11.cell Cx10 (by simp)) (n_ (Z0w9_11.cell Cx11 (by simp)) (n_ (Z0w9_11.cell Cx12 (by simp)) (n_ (Z0w9_11.cell Cx13 (by simp)) (n_ (Z0w9_11.cell Ca20 (by simp)) (n_ (Z0w9_11.cell Ca21 (by simp)) (n_ (Z0w9_11.cell Ca22 (by simp)) (n_ (Z0w9_11.cell Ca23 (by simp)) (n_ (Z0w9_11.cell Cx20 (by simp)) (n_ (Z0w9_11.cell Cx21 (by simp)) (n_ (Z0w9_11.cell Cx22 (by simp)) (Z0w9_11.cell Cx23 (by simp))))))))))))))))); clear gb0w9_11)
      | (go_at_call 16; (with_reducible refine (az_ b0w9_11 _ _ (-A1) 5 20 z16_ y17_ (by omega) (by omega) (eb_ L1.out.1) (dm_ L1.out.2)).mono ?_); rintro e b0w9_12 ⟨rfl,gb0w9_12⟩; have Z0w9_12:=d_ Z0w9_11 gb0w9_12; replace z10_:=z10_.kept gb0w9_12; replace y11_:=y11_.kept gb0w9_12; replace z12_:=z12_.kept gb0w9_12; replace y13_:=y13_.kept gb0w9_12; replace z14_:=z14_.kept gb0w9_12; replace y15_:=y15_.kept gb0w9_12; replace z16_:=z16_.kept gb0w9_12; replace y17_:=y17_.kept gb0w9_12; have hSb0w9_12:=(n_ (Z0w9_12.cell Ca10 (by simp)) (n_ (Z0w9_12.cell Ca11 (by simp)) (n_ (Z0w9_12.cell Ca12 (by simp)) (n_ (Z0w9_12.cell Ca13 (by simp)) (n_ (Z0w9_12.cell Cx10 (by simp)) (n_ (Z0w9_12.cell Cx11 (by simp)) (n_ (Z0w9_12.cell Cx12 (by simp)) (n_ (Z0w9_12.cell Cx13 (by simp)) (n_ (Z0w9_12.cell Ca20 (by simp)) (n_ (Z0w9_12.cell Ca21 (by simp)) (n_ (Z0w9_12.cell Ca22 (by simp)) (n_ (Z0w9_12.cell Ca23 (by simp)) (n_ (Z0w9_12.cell Cx20 (by simp)) (n_ (Z0w9_12.cell Cx21 (by simp)) (n_ (Z0w9_12.cell Cx22 (by simp)) (Z0w9_12.cell Cx23 (by simp))))))))))))))))); clear gb0w9_12)
      | (go_at_call 28; (with_reducible refine (D_ b0w9_12 _ _ A1 B1 5 (qa1.kept Z0w9_12) (qa2.kept Z0w9_12) (by omega) L1.out.1 L1.out.2 L2.out.1 L2.out.2).mono ?_); rintro e b0w9_13 ⟨rfl,gb0w9_13⟩; rw [HK.out]; have Z0w9_13:=d_ Z0w9_12 gb0w9_13; replace z10_:=z10_.kept gb0w9_13; replace y11_:=y11_.kept gb0w9_13; replace z12_:=z12_.kept gb0w9_13; replace y13_:=y13_.kept gb0w9_13; replace z14_:=z14_.kept gb0w9_13; replace y15_:=y15_.kept gb0w9_13; replace z16_:=z16_.kept gb0w9_13; replace y17_:=y17_.kept gb0w9_13; have hSb0w9_13:=(n_ (Z0w9_13.cell Ca10 (by simp)) (n_ (Z0w9_13.cell Ca11 (by simp)) (n_ (Z0w9_13.cell Ca12 (by simp)) (n_ (Z0w9_13.cell Ca13 (by simp)) (n_ (Z0w9_13.cell Cx10 (by simp)) (n_ (Z0w9_13.cell Cx11 (by simp)) (n_ (Z0w9_13.cell Cx12 (by simp)) (n_ (Z0w9_13.cell Cx13 (by simp)) (n_ (Z0w9_13.cell Ca20 (by simp)) (n_ (Z0w9_13.cell Ca21 (by simp)) (n_ (Z0w9_13.cell Ca22 (by simp)) (n_ (Z0w9_13.cell Ca23 (by simp)) (n_ (Z0w9_13.cell Cx20 (by simp)) (n_ (Z0w9_13.cell Cx21 (by simp)) (n_ (Z0w9_13.cell Cx22 (by simp)) (Z0w9_13.cell Cx23 (by simp))))))))))))))))); clear gb0w9_13)
      | (go_at_call 41; (with_reducible refine (dY_ b0w9_13 _ _ A1 B1 20 20 (yx1.kept Z0w9_13) (yx2.kept Z0w9_13) (by omega)).mono ?_); rintro e b0w9_14 ⟨rfl,gb0w9_14⟩; rw [HK.out]; have Z0w9_14:=d_ Z0w9_13 gb0w9_14; replace z10_:=z10_.kept gb0w9_14; replace y11_:=y11_.kept gb0w9_14; replace z12_:=z12_.kept gb0w9_14; replace y13_:=y13_.kept gb0w9_14; replace z14_:=z14_.kept gb0w9_14; replace y15_:=y15_.kept gb0w9_14; replace z16_:=z16_.kept gb0w9_14; replace y17_:=y17_.kept gb0w9_14; have hSb0w9_14:=(n_ (Z0w9_14.cell Ca10 (by simp)) (n_ (Z0w9_14.cell Ca11 (by simp)) (n_ (Z0w9_14.cell Ca12 (by simp)) (n_ (Z0w9_14.cell Ca13 (by simp)) (n_ (Z0w9_14.cell Cx10 (by simp)) (n_ (Z0w9_14.cell Cx11 (by simp)) (n_ (Z0w9_14.cell Cx12 (by simp)) (n_ (Z0w9_14.cell Cx13 (by simp)) (n_ (Z0w9_14.cell Ca20 (by simp)) (n_ (Z0w9_14.cell Ca21 (by simp)) (n_ (Z0w9_14.cell Ca22 (by simp)) (n_ (Z0w9_14.cell Ca23 (by simp)) (n_ (Z0w9_14.cell Cx20 (by simp)) (n_ (Z0w9_14.cell Cx21 (by simp)) (n_ (Z0w9_14.cell Cx22 (by simp)) (Z0w9_14.cell Cx23 (by simp))))))))))))))))); clear gb0w9_14))
   replace Ba1:=a_ Z0w9_14 Ba1
   replace Bx1:=a_ Z0w9_14 Bx1
   replace Ba2:=a_ Z0w9_14 Ba2
   replace Bx2:=a_ Z0w9_14 Bx2
   replace Bd:=a_ Z0w9_14 Bd
   replace hG:=d_ hG Z0w9_14
   clear Ca10 Fa10 Ca11 Fa11 Ca12 Fa12 Ca13 Fa13 Cx10 Fx10 Cx11 Fx11 Cx12 Fx12 Cx13 Fx13 Ca20 Fa20 Ca21 Fa21 Ca22 Fa22 Ca23 Fa23 Cx20 Fx20 Cx21 Fx21 Cx22 Fx22 Cx23 Fx23 Cd0 Fd0 Cd1 Fd1 Cd2 Fd2 Cd3 Fd3
   obtain ⟨Ca10,Ca11,Ca12,Ca13,Fa10,Fa11,Fa12,Fa13⟩:=b_ Ba1
   obtain ⟨Cx10,Cx11,Cx12,Cx13,Fx10,Fx11,Fx12,Fx13⟩:=b_ Bx1
   obtain ⟨Ca20,Ca21,Ca22,Ca23,Fa20,Fa21,Fa22,Fa23⟩:=b_ Ba2
   obtain ⟨Cx20,Cx21,Cx22,Cx23,Fx20,Fx21,Fx22,Fx23⟩:=b_ Bx2
   obtain ⟨Cd0,Cd1,Cd2,Cd3,Fd0,Fd1,Fd2,Fd3⟩:=b_ Bd
   go_wp2_with fail
   go_ret
   exact ⟨by first | rfl | simp,hG⟩
end Go.Proofs.YtgbbdgioohaknaaGreatDoor
