/- What the laws lean on, part 35. -/
import Derived.Deep.RegionHeld3
import Derived.Test.YtgbbdgioohaknaaGreatDoorPb13
namespace Go.Proofs.YtgbbdgioohaknaaGreatDoor
open Go.RowKit Mat
set_option maxRecDepth 100000
set_option linter.unusedVariables false
set_option linter.unusedSimpArgs false
theorem lE_ (r : Rat) : dn (-r) = dn r:=by unfold dn; rw [Rat.neg_den]
set_option maxHeartbeats 8000000 in
theorem dM_ (w : World) (va : Value) (r : Rat) (K : Nat) (Ha : RatV w va r) (hK : K ≤ 800000) (ln : r.num.natAbs < B ^ K) (ld : r.den < B ^ K) :
    Calls Tryz.prog 39 #[va] w (aa_ w (-r)):=by
 have Hln:=H_ ln
 have Hld:=H_ ld
 clear ln ld
 obtain ⟨sa,xa,ba,sa',xa',ba',rfl,ha,ha'⟩:=Ha
 obtain ⟨hG,Ba,Bq⟩:=en2_ w (.cells #[.slice sa xa.length xa.length,.bool ba,.slice sa' xa'.length xa'.length,.bool ba'] 28) (.cells #[.slice none 0 0,.bool false,.slice none 0 0,.bool false] 28)
 have oa : RatV w (.agg #[.slice sa xa.length xa.length,.bool ba,.slice sa' xa'.length xa'.length,.bool ba']) (r):=⟨sa,xa,ba,sa',xa',ba',rfl,ha,ha'⟩
 have qa:=oa.kept hG
 have ia:=(show IntV w (.agg #[.slice sa xa.length xa.length,.bool ba]) (r).num from ha).kept hG
 have ia':=(show IntV w (.agg #[.slice sa' xa'.length xa'.length,.bool ba']) (dn (r)) from ha').kept hG
 clear ha ha'
 go_enter Tryz.func39,Tryz.ntmps39
 obtain ⟨Ca0,Ca1,Ca2,Ca3,Fa0,Fa1,Fa2,Fa3⟩:=b_ Ba
 obtain ⟨Cq0,Cq1,Cq2,Cq3,Fq0,Fq1,Fq2,Fq3⟩:=b_ Bq
 go_wp2_with fail
 generalize ((w.alloc (.cells #[.slice sa xa.length xa.length,.bool ba,.slice sa' xa'.length xa'.length,.bool ba'] 28)).alloc (.cells #[.slice none 0 0,.bool false,.slice none 0 0,.bool false] 28)) = w0 at *
 go_region_held3 (fun w'=>w'.cell? ⟨w.heap.size,0,none⟩ = some (.slice sa xa.length xa.length) ∧ w'.cell? ⟨w.heap.size,1,none⟩ = some (.bool ba) ∧ w'.cell? ⟨w.heap.size,2,none⟩ = some (.slice sa' xa'.length xa'.length) ∧ w'.cell? ⟨w.heap.size,3,none⟩ = some (.bool ba'))
  (first | assumption | exact ⟨Ca0,Ca1,Ca2,Ca3⟩ | exact HSw1_20 | go_keep)
  (first
    | (go_at_call 67; (with_reducible refine (as_ w0.drew _ r.num K (ia.kept (k_ (h_ _ _))) (by omega) Hln.out).mono ?_); rintro e w1_1 ⟨_,rfl,⟨sd,xd,bd,rfl,hd,vd,td⟩,gw1_1⟩; have hGw1_1:=o_ w0 gw1_1 rfl rfl rfl rfl; have id : IntV w1_1 (.agg #[.slice sd xd.length xd.length,.bool bd]) (-r.num):=⟨sd,xd,bd,rfl,hd,vd,td⟩; have hSw1_1:=(n_ (hGw1_1.cell Ca0 (by simp)) (n_ (hGw1_1.cell Ca1 (by simp)) (n_ (hGw1_1.cell Ca2 (by simp)) (hGw1_1.cell Ca3 (by simp))))); clear gw1_1; clear hd vd td)
    | (go_at_call 62; (with_reducible refine (af_ w1_1 _ (dn r) K (ia'.kept hGw1_1) (by omega) (ke_ Hld.out)).mono ?_); rintro e w1_2 ⟨_,rfl,⟨se,xe,be,rfl,he,ve,te⟩,gw1_2⟩; have hGw1_2:=d_ hGw1_1 gw1_2; replace id:=id.kept gw1_2; have ie : IntV w1_2 (.agg #[.slice se xe.length xe.length,.bool be]) (dn r):=⟨se,xe,be,rfl,he,ve,te⟩; have hSw1_2:=(n_ (hGw1_2.cell Ca0 (by simp)) (n_ (hGw1_2.cell Ca1 (by simp)) (n_ (hGw1_2.cell Ca2 (by simp)) (hGw1_2.cell Ca3 (by simp))))); clear gw1_2; clear he ve te; (obtain ⟨dq0,dq1,dq2,dq3,dq4,dq5,dq6,dq7⟩:=b_ (a_ hGw1_2 Bq)); have HSw1_20:=(n_ ((b_ (i_ (a_ hGw1_2 Ba) (show w.heap.size ≠ w.heap.size + 1 by omega) (.slice sd xd.length xd.length) (.bool bd) (.slice se xe.length xe.length) (.bool be))).1) (n_ ((b_ (i_ (a_ hGw1_2 Ba) (show w.heap.size ≠ w.heap.size + 1 by omega) (.slice sd xd.length xd.length) (.bool bd) (.slice se xe.length xe.length) (.bool be))).2.1) (n_ ((b_ (i_ (a_ hGw1_2 Ba) (show w.heap.size ≠ w.heap.size + 1 by omega) (.slice sd xd.length xd.length) (.bool bd) (.slice se xe.length xe.length) (.bool be))).2.2.1) ((b_ (i_ (a_ hGw1_2 Ba) (show w.heap.size ≠ w.heap.size + 1 by omega) (.slice sd xd.length xd.length) (.bool bd) (.slice se xe.length xe.length) (.bool be))).2.2.2.1))))))
 replace Bq:=a_ hGw1_2 Bq
 replace hG:=d_ hG hGw1_2
 clear Ca0 Fa0 Ca1 Fa1 Ca2 Fa2 Ca3 Fa3 Cq0 Fq0 Cq1 Fq1 Cq2 Fq2 Cq3 Fq3
 have qd : RatV w1_2 (.agg #[.slice sd xd.length xd.length,.bool bd,.slice se xe.length xe.length,.bool be]) (-r):=⟨_,_,_,_,_,_,rfl,by rw [Rat.neg_num]; exact id,by rw [lE_]; exact ie⟩
 obtain ⟨k90,k91,k92,k93,k94,k95,k96,k97⟩:=b_ Bq
 obtain ⟨q90,q91,q92,q93,q94,q95,q96,q97⟩:=b_ (r_ Bq (.slice sd xd.length xd.length) (.bool bd) (.slice se xe.length xe.length) (.bool be))
 have hF : Hid (aa_ w (-r) (.returned (.agg #[.slice sd xd.length xd.length,.bool bd,.slice se xe.length xe.length,.bool be])) ((((w1_2.setCell ⟨w.heap.size + 1,0,none⟩ (.slice sd xd.length xd.length)).setCell ⟨w.heap.size + 1,1,none⟩ (.bool bd)).setCell ⟨w.heap.size + 1,2,none⟩ (.slice se xe.length xe.length)).setCell ⟨w.heap.size + 1,3,none⟩ (.bool be))):=X_ hG Bq (by omega) qd
 clear qa ia ia' id ie qd
 go_wp2_with fail
 exact bodyPost_ret (v:=.agg #[.slice sd xd.length xd.length,.bool bd,.slice se xe.length xe.length,.bool be]) (by simp [results,Tryz.results39,go_sem,q90,q91,q92,q93]) rfl hF.out
end Go.Proofs.YtgbbdgioohaknaaGreatDoor
