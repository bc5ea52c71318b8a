/- What the laws lean on, part 50. -/
import Derived.Deep.RegionHeld3
import Derived.BigRegion
import Derived.Test.YtgbbdgioohaknaaGreatDoorPb49
namespace Go.Proofs.YtgbbdgioohaknaaGreatDoor
open Go.RowKit Mat
set_option maxRecDepth 100000
set_option linter.unusedVariables false
set_option linter.unusedSimpArgs false
set_option maxHeartbeats 8000000 in
theorem az_ (w : World) (va vb : Value) (r : Rat) (K E : Nat) (Ha : RatV w va r) (Hb : RQ w vb r E) (hK : K ≤ 200000) (hE : 1 ≤ E ∧ E ≤ 200000) (ln : r.num.natAbs < B ^ K) (ld : r.den < B ^ K) :
    Calls Tryz.prog 16 #[va,vb] w (lT_ w true):=by
 have Hla : Hid (r.num.natAbs < B ^ K ∧ r.den < B ^ K):=⟨ln,ld⟩
 have HE : Hid (1 ≤ E ∧ E ≤ 200000):=hE
 clear ln ld hE
 obtain ⟨sa,xa,ba,sa',xa',ba',rfl,ha,ha'⟩:=Ha
 obtain ⟨gb,sb,lb,cb,gb',sb',lb',cb',nb,db,rfl,hb,hb',ub⟩:=Hb
 obtain ⟨hG,Ba,Bb⟩:=en2_ w (.cells #[.slice sa xa.length xa.length,.bool ba,.slice sa' xa'.length xa'.length,.bool ba'] 28) (.cells #[.int .i64 gb,.slice sb lb cb,.int .i64 gb',.slice sb' lb' cb'] 38)
 have oa : RatV w (.agg #[.slice sa xa.length xa.length,.bool ba,.slice sa' xa'.length xa'.length,.bool ba']) (r):=⟨sa,xa,ba,sa',xa',ba',rfl,ha,ha'⟩
 have qa:=oa.kept hG
 have ob : RQ w (.agg #[.int .i64 gb,.slice sb lb cb,.int .i64 gb',.slice sb' lb' cb']) r E:=⟨gb,sb,lb,cb,gb',sb',lb',cb',nb,db,rfl,hb,hb',ub⟩
 have yb:=ob.kept hG
 clear ha ha'
 clear hb hb'
 go_enter Tryz.func16,Tryz.ntmps16
 obtain ⟨Ca0,Ca1,Ca2,Ca3,Fa0,Fa1,Fa2,Fa3⟩:=b_ Ba
 obtain ⟨Cb0,Cb1,Cb2,Cb3,Fb0,Fb1,Fb2,Fb3⟩:=b_ Bb
 go_wp2_with fail
 generalize ((w.alloc (.cells #[.slice sa xa.length xa.length,.bool ba,.slice sa' xa'.length xa'.length,.bool ba'] 28)).alloc (.cells #[.int .i64 gb,.slice sb lb cb,.int .i64 gb',.slice sb' lb' cb'] 38)) = w0 at *
 go_region_held3 (fun w'=>w'.cell? ⟨w.heap.size,0,none⟩ = some (.slice sa xa.length xa.length) ∧ w'.cell? ⟨w.heap.size,1,none⟩ = some (.bool ba) ∧ w'.cell? ⟨w.heap.size,2,none⟩ = some (.slice sa' xa'.length xa'.length) ∧ w'.cell? ⟨w.heap.size,3,none⟩ = some (.bool ba') ∧ w'.cell? ⟨w.heap.size + 1,0,none⟩ = some (.int .i64 gb) ∧ w'.cell? ⟨w.heap.size + 1,1,none⟩ = some (.slice sb lb cb) ∧ w'.cell? ⟨w.heap.size + 1,2,none⟩ = some (.int .i64 gb') ∧ w'.cell? ⟨w.heap.size + 1,3,none⟩ = some (.slice sb' lb' cb'))
  (first | assumption | exact ⟨Ca0,Ca1,Ca2,Ca3,Cb0,Cb1,Cb2,Cb3⟩ | go_keep)
  (first
    | (go_at_call 14; (with_reducible refine (aH_ w0.drew _ r K (qa.kept (k_ (h_ _ _))) (by omega) Hla.out.1 Hla.out.2).mono ?_); rintro e w1_1 ⟨s1,rfl,hs1,gw1_1⟩; have hGw1_1:=o_ w0 gw1_1 rfl rfl rfl rfl; have hSw1_1:=(n_ (hGw1_1.cell Ca0 (by simp)) (n_ (hGw1_1.cell Ca1 (by simp)) (n_ (hGw1_1.cell Ca2 (by simp)) (n_ (hGw1_1.cell Ca3 (by simp)) (n_ (hGw1_1.cell Cb0 (by simp)) (n_ (hGw1_1.cell Cb1 (by simp)) (n_ (hGw1_1.cell Cb2 (by simp)) (hGw1_1.cell Cb3 (by simp))))))))); clear gw1_1)
    | (go_at_call 61; (with_reducible refine (hB_ w1_1 _ r E (yb.kept hGw1_1) HE.out).mono ?_); rintro e w1_2 ⟨s2,rfl,hs2,gw1_2⟩; obtain rfl : s2 = s1:=aK_ hs2 hs1; have hGw1_2:=d_ hGw1_1 gw1_2; have hSw1_2:=(n_ (hGw1_2.cell Ca0 (by simp)) (n_ (hGw1_2.cell Ca1 (by simp)) (n_ (hGw1_2.cell Ca2 (by simp)) (n_ (hGw1_2.cell Ca3 (by simp)) (n_ (hGw1_2.cell Cb0 (by simp)) (n_ (hGw1_2.cell Cb1 (by simp)) (n_ (hGw1_2.cell Cb2 (by simp)) (hGw1_2.cell Cb3 (by simp))))))))); clear gw1_2))
 replace Ba:=a_ hGw1_2 Ba
 replace Bb:=a_ hGw1_2 Bb
 replace hG:=d_ hG hGw1_2
 clear Ca0 Fa0 Ca1 Fa1 Ca2 Fa2 Ca3 Fa3 Cb0 Fb0 Cb1 Fb1 Cb2 Fb2 Cb3 Fb3
 obtain ⟨Ca0,Ca1,Ca2,Ca3,Fa0,Fa1,Fa2,Fa3⟩:=b_ Ba
 obtain ⟨Cb0,Cb1,Cb2,Cb3,Fb0,Fb1,Fb2,Fb3⟩:=b_ Bb
 go_wp2_with fail
 go_ret
 exact ⟨by simp,hG⟩
end Go.Proofs.YtgbbdgioohaknaaGreatDoor
