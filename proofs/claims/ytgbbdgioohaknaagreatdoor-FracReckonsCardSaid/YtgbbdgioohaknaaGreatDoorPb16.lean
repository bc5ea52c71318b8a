/- What the laws lean on, part 16. -/
import Derived.Deep.RegionHeld3
import Derived.Deep.CutRange
import Derived.Test.YtgbbdgioohaknaaGreatDoorPb14
namespace Go.Proofs.YtgbbdgioohaknaaGreatDoor
open Go.RowKit Mat
set_option maxRecDepth 100000
set_option linter.unusedVariables false
set_option linter.unusedSimpArgs false
theorem RIntV.nat {w : World} {g : Int} {s : Option Addr} {l c : Nat} {z : Int} (h : RIntV w (.agg #[.int .i64 g,.slice s l c]) z) : RefV w (.agg #[.slice s l c]) z.natAbs ∧ Hid (g = z.sign):=by
 obtain ⟨g',s',l',c',e,h1,h2⟩:=h
 cases e
 exact ⟨h2,h1⟩
def fy_ (w : World) (n k : Int) (e : Ending) (w' : World) : Prop:=∃ v u,e = .returned (.tuple #[v,u]) ∧ IntV w' v n ∧ IntV w' u k ∧ w.grownBy w' none
theorem BoxZ.kept {W W' : World} {p : Nat} {z : Int} (h : BoxZ W p z) (g : W.grownBy W' none) : BoxZ W' p z:=by
 obtain ⟨s,xs,b,h1,h2⟩:=h
 exact ⟨s,xs,b,a_ g h1,h2.kept g⟩
set_option maxHeartbeats 16000000 in
theorem eT_ (w : World) (va : Value) (r : Rat) (K : Nat) (Ha : RatV w va r) (hK : K ≤ 400000) (ln : r.num.natAbs < B ^ K) (ld : r.den < B ^ K) :
    Calls Tryz.prog 83 #[va] w (fy_ w (r.num / (r.den : Int)) (r.num % (r.den : Int))):=by
 have HD : Hid ((r.den : Int).natAbs < B ^ K ∧ (r.den : Int) ≠ 0):=⟨by rw [Int.natAbs_natCast]; exact ld,by have:=r.den_pos; omega⟩
 obtain ⟨q9,hq9⟩ : ∃ q,r.num / (r.den : Int) = q:=⟨_,rfl⟩
 obtain ⟨r9,hr9⟩ : ∃ q,r.num % (r.den : Int) = q:=⟨_,rfl⟩
 have HQ : Hid (r.num / (r.den : Int) = q9 ∧ r.num % (r.den : Int) = r9):=⟨hq9,hr9⟩
 rw [hq9,hr9]
 clear hq9 hr9
 have Hln:=H_ ln
 have Hld:=H_ ld
 clear ln ld
 obtain ⟨sa,xa,ba,sa',xa',ba',rfl,ha,ha'⟩:=Ha
 obtain ⟨hG,Ba,Bq,Bp⟩:=en3_ w (.cells #[.slice sa xa.length xa.length,.bool ba,.slice sa' xa'.length xa'.length,.bool ba'] 28) (.cells #[.slice none 0 0,.bool false] 26) (.cells #[.slice none 0 0,.bool false] 26)
 have oa : RatV w (.agg #[.slice sa xa.length xa.length,.bool ba,.slice sa' xa'.length xa'.length,.bool ba']) (r):=⟨sa,xa,ba,sa',xa',ba',rfl,ha,ha'⟩
 have qa:=oa.kept hG
 have ia:=(show IntV w (.agg #[.slice sa xa.length xa.length,.bool ba]) (r).num from ha).kept hG
 have ia':=(show IntV w (.agg #[.slice sa' xa'.length xa'.length,.bool ba']) (dn (r)) from ha').kept hG
 clear ha ha'
 go_enter Tryz.func83,Tryz.ntmps83
 obtain ⟨Ca0,Ca1,Ca2,Ca3,Fa0,Fa1,Fa2,Fa3⟩:=b_ Ba
 obtain ⟨Cq0,Cq1,Fq0,Fq1⟩:=c_ Bq
 obtain ⟨Cp0,Cp1,Fp0,Fp1⟩:=c_ Bp
 go_wp2_with fail
 generalize (((w.alloc (.cells #[.slice sa xa.length xa.length,.bool ba,.slice sa' xa'.length xa'.length,.bool ba'] 28)).alloc (.cells #[.slice none 0 0,.bool false] 26)).alloc (.cells #[.slice none 0 0,.bool false] 26)) = w0 at *
 go_region_held3 (fun w'=>w'.cell? ⟨w.heap.size,0,none⟩ = some (.slice sa xa.length xa.length) ∧ w'.cell? ⟨w.heap.size,1,none⟩ = some (.bool ba) ∧ w'.cell? ⟨w.heap.size,2,none⟩ = some (.slice sa' xa'.length xa'.length) ∧ w'.cell? ⟨w.heap.size,3,none⟩ = some (.bool ba'))
  (first | assumption | exact ⟨Ca0,Ca1,Ca2,Ca3⟩ | exact HSw1_20 | exact HSw1_21 | go_keep)
  (first
    | (go_at_call 66; (with_reducible refine (u_ w0.drew _ r K (qa.kept (k_ (h_ _ _))) (by omega) Hld.out).mono ?_); rintro e w1_1 ⟨v1,rfl,n1,gw1_1⟩; have hGw1_1:=o_ w0 gw1_1 rfl rfl rfl rfl; have hSw1_1:=(n_ (hGw1_1.cell Ca0 (by simp)) (n_ (hGw1_1.cell Ca1 (by simp)) (n_ (hGw1_1.cell Ca2 (by simp)) (hGw1_1.cell Ca3 (by simp))))); clear gw1_1)
    | (go_at_call 109; (with_reducible refine (O_ w1_1 _ _ r.num (r.den : Int) K (ia.kept hGw1_1) n1 (by omega) Hln.out HD.out.1 HD.out.2).mono ?_); rintro e w1_2 ⟨_,_,rfl,⟨sd,xd,bd,rfl,hd,vd,td⟩,⟨se,xe,be,rfl,he,ve,te⟩,gw1_2⟩; rw [HQ.out.1] at vd td; rw [HQ.out.2] at ve te; have hGw1_2:=d_ hGw1_1 gw1_2; replace n1:=n1.kept gw1_2; have id : IntV w1_2 (.agg #[.slice sd xd.length xd.length,.bool bd]) (q9):=⟨sd,xd,bd,rfl,hd,vd,td⟩; have ie : IntV w1_2 (.agg #[.slice se xe.length xe.length,.bool be]) (r9):=⟨se,xe,be,rfl,he,ve,te⟩; have hSw1_2:=(n_ (hGw1_2.cell Ca0 (by simp)) (n_ (hGw1_2.cell Ca1 (by simp)) (n_ (hGw1_2.cell Ca2 (by simp)) (hGw1_2.cell Ca3 (by simp))))); clear gw1_2; clear hd vd td; clear he ve te; (obtain ⟨dq0,dq1,dq2,dq3⟩:=c_ (a_ hGw1_2 Bq)); have HSw1_20:=(n_ ((b_ (e_ (a_ hGw1_2 Ba) (show w.heap.size ≠ w.heap.size + 1 by omega) (.slice sd xd.length xd.length) (.bool bd))).1) (n_ ((b_ (e_ (a_ hGw1_2 Ba) (show w.heap.size ≠ w.heap.size + 1 by omega) (.slice sd xd.length xd.length) (.bool bd))).2.1) (n_ ((b_ (e_ (a_ hGw1_2 Ba) (show w.heap.size ≠ w.heap.size + 1 by omega) (.slice sd xd.length xd.length) (.bool bd))).2.2.1) ((b_ (e_ (a_ hGw1_2 Ba) (show w.heap.size ≠ w.heap.size + 1 by omega) (.slice sd xd.length xd.length) (.bool bd))).2.2.2.1)))); (obtain ⟨dp0,dp1,dp2,dp3⟩:=c_ (e_ (a_ hGw1_2 Bp) (show w.heap.size + 1 + 1 ≠ w.heap.size + 1 by omega) (.slice sd xd.length xd.length) (.bool bd))); have HSw1_21:=(n_ ((b_ (e_ (e_ (a_ hGw1_2 Ba) (show w.heap.size ≠ w.heap.size + 1 by omega) (.slice sd xd.length xd.length) (.bool bd)) (show w.heap.size ≠ w.heap.size + 1 + 1 by omega) (.slice se xe.length xe.length) (.bool be))).1) (n_ ((b_ (e_ (e_ (a_ hGw1_2 Ba) (show w.heap.size ≠ w.heap.size + 1 by omega) (.slice sd xd.length xd.length) (.bool bd)) (show w.heap.size ≠ w.heap.size + 1 + 1 by omega) (.slice se xe.length xe.length) (.bool be))).2.1) (n_ ((b_ (e_ (e_ (a_ hGw1_2 Ba) (show w.heap.size ≠ w.heap.size + 1 by omega) (.slice sd xd.length xd.length) (.bool bd)) (show w.heap.size ≠ w.heap.size + 1 + 1 by omega) (.slice se xe.length xe.length) (.bool be))).2.2.1) ((b_ (e_ (e_ (a_ hGw1_2 Ba) (show w.heap.size ≠ w.heap.size + 1 by omega) (.slice sd xd.length xd.length) (.bool bd)) (show w.heap.size ≠ w.heap.size + 1 + 1 by omega) (.slice se xe.length xe.length) (.bool be))).2.2.2.1))))))
 replace Bq:=a_ hGw1_2 Bq
 replace Bp:=a_ hGw1_2 Bp
 replace hG:=d_ hG hGw1_2
 clear Ca0 Fa0 Ca1 Fa1 Ca2 Fa2 Ca3 Fa3 Cq0 Fq0 Cq1 Fq1 Cp0 Fp0 Cp1 Fp1
 replace id:=id.set2 Bq (.slice sd xd.length xd.length) (.bool bd)
 replace ie:=ie.set2 Bq (.slice sd xd.length xd.length) (.bool bd)
 replace hG:=t_ (g:=w.heap.size + 1) hG (by omega) (.slice sd xd.length xd.length) (.bool bd)
 replace Bp:=e_ Bp (show w.heap.size + 1 + 1 ≠ w.heap.size + 1 by omega) (.slice sd xd.length xd.length) (.bool bd)
 replace Bq:=m_ Bq (.slice sd xd.length xd.length) (.bool bd)
 generalize ((w1_2.setCell ⟨w.heap.size + 1,0,none⟩ (.slice sd xd.length xd.length)).setCell ⟨w.heap.size + 1,1,none⟩ (.bool bd)) = w2 at *
 replace id:=id.set2 Bp (.slice se xe.length xe.length) (.bool be)
 replace ie:=ie.set2 Bp (.slice se xe.length xe.length) (.bool be)
 replace hG:=t_ (g:=w.heap.size + 1 + 1) hG (by omega) (.slice se xe.length xe.length) (.bool be)
 replace Bq:=e_ Bq (show w.heap.size + 1 ≠ w.heap.size + 1 + 1 by omega) (.slice se xe.length xe.length) (.bool be)
 replace Bp:=m_ Bp (.slice se xe.length xe.length) (.bool be)
 generalize ((w2.setCell ⟨w.heap.size + 1 + 1,0,none⟩ (.slice se xe.length xe.length)).setCell ⟨w.heap.size + 1 + 1,1,none⟩ (.bool be)) = w3 at *
 obtain ⟨Cq0,Cq1,Fq0,Fq1⟩:=c_ Bq
 obtain ⟨Cp0,Cp1,Fp0,Fp1⟩:=c_ Bp
 go_wp2_with fail
 clear Cq0 Fq0 Cq1 Fq1 Cp0 Fp0 Cp1 Fp1
 refine wp_region_held_drew (S:=fun w'=>True) (by kernel_rfl) (by exact trivial) (fun hHeld=>?_)
 have gd : w3.grownBy w3.drew none:=k_ (h_ _ _)
 replace Bq:=a_ gd Bq
 replace Bp:=a_ gd Bp
 replace id:=id.kept gd
 replace ie:=ie.kept gd
 replace hG:=d_ hG gd
 clear gd
 generalize w3.drew = w4 at *
 refine wpAnyH_ready (rs:=[0,1]) (by kernel_rfl) (by simp) ?_
 refine AllReadyH.cons rfl (fun KQ hKQ=>?_) (AllReadyH.cons rfl (fun KQ hKQ=>?_) AllReadyH.nil)
 focus
  obtain ⟨c0',c1',c2',c3'⟩:=c_ Bq
  go_simp
  refine hKQ.out _ _ (by exact trivial) (fun hHeld=>?_)
  clear hKQ KQ
  try simp only [ly_]
  refine wpAnyH_ready (rs:=[1,2]) (by kernel_rfl) (by simp) ?_
  refine AllReadyH.cons rfl (fun KQ hKQ=>?_) (AllReadyH.cons rfl (fun KQ hKQ=>?_) AllReadyH.nil)
  focus
   obtain ⟨c0',c1',c2',c3'⟩:=c_ Bp
   go_simp
   refine hKQ.out _ _ (by exact trivial) (fun hHeld=>?_)
   clear hKQ KQ
   try simp only [ly_]
   refine o1_ 2 rfl (fun KQ hKQ=>?_)
   obtain ⟨c0',c1',c2',c3'⟩:=c_ Bq
   go_simp
   clear c0' c1' c2' c3'
   replace id:=id.set2 Bq (.slice sd xd.length xd.length) (.bool bd)
   replace ie:=ie.set2 Bq (.slice sd xd.length xd.length) (.bool bd)
   replace hG:=t_ (g:=w.heap.size + 1) hG (by omega) (.slice sd xd.length xd.length) (.bool bd)
   replace Bp:=e_ Bp (show w.heap.size + 1 + 1 ≠ w.heap.size + 1 by omega) (.slice sd xd.length xd.length) (.bool bd)
   replace Bq:=m_ Bq (.slice sd xd.length xd.length) (.bool bd)
   generalize ((w4.setCell ⟨w.heap.size + 1,0,none⟩ (.slice sd xd.length xd.length)).setCell ⟨w.heap.size + 1,1,none⟩ (.bool bd)) = w5 at *
   refine hKQ.out _ _ (by exact trivial) (fun hHeld=>?_)
   clear hKQ KQ
   try simp only [ly_]
   refine o1_ 3 rfl (fun KQ hKQ=>?_)
   obtain ⟨c0',c1',c2',c3'⟩:=c_ Bp
   go_simp
   clear c0' c1' c2' c3'
   replace id:=id.set2 Bp (.slice se xe.length xe.length) (.bool be)
   replace ie:=ie.set2 Bp (.slice se xe.length xe.length) (.bool be)
   replace hG:=t_ (g:=w.heap.size + 1 + 1) hG (by omega) (.slice se xe.length xe.length) (.bool be)
   replace Bq:=e_ Bq (show w.heap.size + 1 ≠ w.heap.size + 1 + 1 by omega) (.slice se xe.length xe.length) (.bool be)
   replace Bp:=m_ Bp (.slice se xe.length xe.length) (.bool be)
   generalize ((w5.setCell ⟨w.heap.size + 1 + 1,0,none⟩ (.slice se xe.length xe.length)).setCell ⟨w.heap.size + 1 + 1,1,none⟩ (.bool be)) = w6 at *
   refine hKQ.out _ _ (by exact trivial) (fun hHeld=>?_)
   clear hKQ KQ
   try simp only [ly_]
   refine wpAnyH_done (by kernel_rfl) ?_ _
   obtain ⟨o0,o1,_,_⟩:=c_ Bq
   obtain ⟨o2,o3,_,_⟩:=c_ Bp
   have hF : Hid (fy_ w q9 r9 (.returned (.tuple #[.agg #[.slice sd xd.length xd.length,.bool bd],.agg #[.slice se xe.length xe.length,.bool be]])) w6):=⟨_,_,rfl,id,ie,hG⟩
   clear id ie hG
   go_wp2_with fail
   exact bodyPost_ret (v:=.tuple #[.agg #[.slice sd xd.length xd.length,.bool bd],.agg #[.slice se xe.length xe.length,.bool be]]) (by simp [results,Tryz.results83,go_sem,o0,o1,o2,o3]) rfl hF.out
  focus
   obtain ⟨c0',c1',c2',c3'⟩:=c_ Bq
   go_simp
   clear c0' c1' c2' c3'
   replace id:=id.set2 Bq (.slice sd xd.length xd.length) (.bool bd)
   replace ie:=ie.set2 Bq (.slice sd xd.length xd.length) (.bool bd)
   replace hG:=t_ (g:=w.heap.size + 1) hG (by omega) (.slice sd xd.length xd.length) (.bool bd)
   replace Bp:=e_ Bp (show w.heap.size + 1 + 1 ≠ w.heap.size + 1 by omega) (.slice sd xd.length xd.length) (.bool bd)
   replace Bq:=m_ Bq (.slice sd xd.length xd.length) (.bool bd)
   generalize ((w4.setCell ⟨w.heap.size + 1,0,none⟩ (.slice sd xd.length xd.length)).setCell ⟨w.heap.size + 1,1,none⟩ (.bool bd)) = w5 at *
   refine hKQ.out _ _ (by exact trivial) (fun hHeld=>?_)
   clear hKQ KQ
   try simp only [ly_]
   refine o1_ 1 rfl (fun KQ hKQ=>?_)
   obtain ⟨c0',c1',c2',c3'⟩:=c_ Bp
   go_simp
   refine hKQ.out _ _ (by exact trivial) (fun hHeld=>?_)
   clear hKQ KQ
   try simp only [ly_]
   refine o1_ 3 rfl (fun KQ hKQ=>?_)
   obtain ⟨c0',c1',c2',c3'⟩:=c_ Bp
   go_simp
   clear c0' c1' c2' c3'
   replace id:=id.set2 Bp (.slice se xe.length xe.length) (.bool be)
   replace ie:=ie.set2 Bp (.slice se xe.length xe.length) (.bool be)
   replace hG:=t_ (g:=w.heap.size + 1 + 1) hG (by omega) (.slice se xe.length xe.length) (.bool be)
   replace Bq:=e_ Bq (show w.heap.size + 1 ≠ w.heap.size + 1 + 1 by omega) (.slice se xe.length xe.length) (.bool be)
   replace Bp:=m_ Bp (.slice se xe.length xe.length) (.bool be)
   generalize ((w5.setCell ⟨w.heap.size + 1 + 1,0,none⟩ (.slice se xe.length xe.length)).setCell ⟨w.heap.size + 1 + 1,1,none⟩ (.bool be)) = w6 at *
   refine hKQ.out _ _ (by exact trivial) (fun hHeld=>?_)
   clear hKQ KQ
   try simp only [ly_]
   refine wpAnyH_done (by kernel_rfl) ?_ _
   obtain ⟨o0,o1,_,_⟩:=c_ Bq
   obtain ⟨o2,o3,_,_⟩:=c_ Bp
   have hF : Hid (fy_ w q9 r9 (.returned (.tuple #[.agg #[.slice sd xd.length xd.length,.bool bd],.agg #[.slice se xe.length xe.length,.bool be]])) w6):=⟨_,_,rfl,id,ie,hG⟩
   clear id ie hG
   go_wp2_with fail
   exact bodyPost_ret (v:=.tuple #[.agg #[.slice sd xd.length xd.length,.bool bd],.agg #[.slice se xe.length xe.length,.bool be]]) (by simp [results,Tryz.results83,go_sem,o0,o1,o2,o3]) rfl hF.out
 focus
  obtain ⟨c0',c1',c2',c3'⟩:=c_ Bp
  go_simp
  refine hKQ.out _ _ (by exact trivial) (fun hHeld=>?_)
  clear hKQ KQ
  try simp only [ly_]
  refine o1_ 0 rfl (fun KQ hKQ=>?_)
  obtain ⟨c0',c1',c2',c3'⟩:=c_ Bq
  go_simp
  refine hKQ.out _ _ (by exact trivial) (fun hHeld=>?_)
  clear hKQ KQ
  try simp only [ly_]
  refine o1_ 2 rfl (fun KQ hKQ=>?_)
  obtain ⟨c0',c1',c2',c3'⟩:=c_ Bq
  go_simp
  clear c0' c1' c2' c3'
  replace id:=id.set2 Bq (.slice sd xd.length xd.length) (.bool bd)
  replace ie:=ie.set2 Bq (.slice sd xd.length xd.length) (.bool bd)
  replace hG:=t_ (g:=w.heap.size + 1) hG (by omega) (.slice sd xd.length xd.length) (.bool bd)
  replace Bp:=e_ Bp (show w.heap.size + 1 + 1 ≠ w.heap.size + 1 by omega) (.slice sd xd.length xd.length) (.bool bd)
  replace Bq:=m_ Bq (.slice sd xd.length xd.length) (.bool bd)
  generalize ((w4.setCell ⟨w.heap.size + 1,0,none⟩ (.slice sd xd.length xd.length)).setCell ⟨w.heap.size + 1,1,none⟩ (.bool bd)) = w5 at *
  refine hKQ.out _ _ (by exact trivial) (fun hHeld=>?_)
  clear hKQ KQ
  try simp only [ly_]
  refine o1_ 3 rfl (fun KQ hKQ=>?_)
  obtain ⟨c0',c1',c2',c3'⟩:=c_ Bp
  go_simp
  clear c0' c1' c2' c3'
  replace id:=id.set2 Bp (.slice se xe.length xe.length) (.bool be)
  replace ie:=ie.set2 Bp (.slice se xe.length xe.length) (.bool be)
  replace hG:=t_ (g:=w.heap.size + 1 + 1) hG (by omega) (.slice se xe.length xe.length) (.bool be)
  replace Bq:=e_ Bq (show w.heap.size + 1 ≠ w.heap.size + 1 + 1 by omega) (.slice se xe.length xe.length) (.bool be)
  replace Bp:=m_ Bp (.slice se xe.length xe.length) (.bool be)
  generalize ((w5.setCell ⟨w.heap.size + 1 + 1,0,none⟩ (.slice se xe.length xe.length)).setCell ⟨w.heap.size + 1 + 1,1,none⟩ (.bool be)) = w6 at *
  refine hKQ.out _ _ (by exact trivial) (fun hHeld=>?_)
  clear hKQ KQ
  try simp only [ly_]
  refine wpAnyH_done (by kernel_rfl) ?_ _
  obtain ⟨o0,o1,_,_⟩:=c_ Bq
  obtain ⟨o2,o3,_,_⟩:=c_ Bp
  have hF : Hid (fy_ w q9 r9 (.returned (.tuple #[.agg #[.slice sd xd.length xd.length,.bool bd],.agg #[.slice se xe.length xe.length,.bool be]])) w6):=⟨_,_,rfl,id,ie,hG⟩
  clear id ie hG
  go_wp2_with fail
  exact bodyPost_ret (v:=.tuple #[.agg #[.slice sd xd.length xd.length,.bool bd],.agg #[.slice se xe.length xe.length,.bool be]]) (by simp [results,Tryz.results83,go_sem,o0,o1,o2,o3]) rfl hF.out
set_option maxHeartbeats 16000000 in
theorem ax_ (w : World) (va : Value) (r : Rat) (K : Nat) (Ha : RatV w va r) (hK : K ≤ 400000) (ln : r.num.natAbs < B ^ K) (ld : r.den < B ^ K) :
    Calls Tryz.prog 42 #[va] w (x_ w r.floor):=by
 rw [Rat.floor_def]
 have Hln:=H_ ln
 have Hld:=H_ ld
 clear ln ld
 obtain ⟨q9,hq9⟩ : ∃ q,r.num / (r.den : Int) = q:=⟨_,rfl⟩
 obtain ⟨r9,hr9⟩ : ∃ q,r.num % (r.den : Int) = q:=⟨_,rfl⟩
 have HQ : Hid (r.num / (r.den : Int) = q9 ∧ r.num % (r.den : Int) = r9):=⟨hq9,hr9⟩
 rw [hq9]
 clear hq9 hr9
 obtain ⟨sa,xa,ba,sa',xa',ba',rfl,ha,ha'⟩:=Ha
 obtain ⟨hG,Ba,Bq⟩:=en2_ w (.cells #[.slice sa xa.length xa.length,.bool ba,.slice sa' xa'.length xa'.length,.bool ba'] 28) (.cells #[.slice none 0 0,.bool false] 26)
 have oa : RatV w (.agg #[.slice sa xa.length xa.length,.bool ba,.slice sa' xa'.length xa'.length,.bool ba']) (r):=⟨sa,xa,ba,sa',xa',ba',rfl,ha,ha'⟩
 have qa:=oa.kept hG
 clear ha ha'
 go_enter Tryz.func42,Tryz.ntmps42
 obtain ⟨Ca0,Ca1,Ca2,Ca3,Fa0,Fa1,Fa2,Fa3⟩:=b_ Ba
 obtain ⟨Cq0,Cq1,Fq0,Fq1⟩:=c_ Bq
 go_wp2_with fail
 generalize ((w.alloc (.cells #[.slice sa xa.length xa.length,.bool ba,.slice sa' xa'.length xa'.length,.bool ba'] 28)).alloc (.cells #[.slice none 0 0,.bool false] 26)) = w0 at *
 clear Ca0 Fa0 Ca1 Fa1 Ca2 Fa2 Ca3 Fa3 Cq0 Fq0 Cq1 Fq1
 refine (eT_ w0 _ r K qa (by omega) Hln.out Hld.out).mono ?_
 rintro e w1 ⟨_,_,rfl,⟨sd,xd,bd,rfl,hd,vd,td⟩,⟨se,xe,be,rfl,he,ve,te⟩,gw1⟩
 rw [HQ.out.1] at vd td
 rw [HQ.out.2] at ve te
 have id : IntV w1 (.agg #[.slice sd xd.length xd.length,.bool bd]) (q9):=⟨sd,xd,bd,rfl,hd,vd,td⟩
 have ie : IntV w1 (.agg #[.slice se xe.length xe.length,.bool be]) (r9):=⟨se,xe,be,rfl,he,ve,te⟩
 replace Ba:=a_ gw1 Ba
 replace Bq:=a_ gw1 Bq
 replace hG:=d_ hG gw1
 clear gw1
 clear hd vd td
 clear he ve te
 obtain ⟨Ca0,Ca1,Ca2,Ca3,Fa0,Fa1,Fa2,Fa3⟩:=b_ Ba
 obtain ⟨Cq0,Cq1,Fq0,Fq1⟩:=c_ Bq
 have gbw1:=(l_ (wg_ w1 (.cells #[.slice sd xd.length xd.length,.bool bd] 26) none) (.cells #[.slice se xe.length xe.length,.bool be] 26))
 have Bd:=a_ (wg_ _ (.cells #[.slice se xe.length xe.length,.bool be] 26) none) (f_ w1 (.cells #[.slice sd xd.length xd.length,.bool bd] 26) (w1.heap.size) rfl)
 have Be:=(f_ (w1.alloc (.cells #[.slice sd xd.length xd.length,.bool bd] 26)) (.cells #[.slice se xe.length xe.length,.bool be] 26) (w1.heap.size + 1) (by simp))
 have hzw1 : Hid (w.heap.size ≤ w1.heap.size):=H_ hG.size
 have hlaw1 : Hid (w.heap.size < w1.heap.size):=H_ (Array.getElem?_eq_some_iff.1 Ba).1
 have hlqw1 : Hid (w.heap.size + 1 < w1.heap.size):=H_ (Array.getElem?_eq_some_iff.1 Bq).1
 clear Ca0 Fa0 Ca1 Fa1 Ca2 Fa2 Ca3 Fa3 Cq0 Fq0 Cq1 Fq1
 replace Ba:=a_ gbw1 Ba
 replace Bq:=a_ gbw1 Bq
 replace id:=id.kept gbw1
 replace hG:=d_ hG gbw1
 clear gbw1
 obtain ⟨Ca0,Ca1,Ca2,Ca3,Fa0,Fa1,Fa2,Fa3⟩:=b_ Ba
 obtain ⟨Cq0,Cq1,Fq0,Fq1⟩:=c_ Bq
 obtain ⟨Cd0,Cd1,Fd0,Fd1⟩:=c_ Bd
 obtain ⟨Ce0,Ce1,Fe0,Fe1⟩:=c_ Be
 clear Ca0 Fa0 Ca1 Fa1 Ca2 Fa2 Ca3 Fa3 Cq0 Fq0 Cq1 Fq1 Cd0 Fd0 Cd1 Fd1 Ce0 Fe0 Ce1 Fe1
 obtain ⟨k90,k91,k92,k93⟩:=c_ Bq
 obtain ⟨q90,q91,q92,q93⟩:=c_ (m_ Bq (.slice sd xd.length xd.length) (.bool bd))
 have hF : Hid (x_ w (q9) (.returned (.agg #[.slice sd xd.length xd.length,.bool bd])) ((((w1.alloc (.cells #[.slice sd xd.length xd.length,.bool bd] 26)).alloc (.cells #[.slice se xe.length xe.length,.bool be] 26)).setCell ⟨w.heap.size + 1,0,none⟩ (.slice sd xd.length xd.length)).setCell ⟨w.heap.size + 1,1,none⟩ (.bool bd))):=ao_ hG Bq (by omega) id
 clear qa id ie
 obtain ⟨Cd0,Cd1,Fd0,Fd1⟩:=c_ Bd
 go_wp2_with fail
 exact bodyPost_ret (v:=.agg #[.slice sd xd.length xd.length,.bool bd]) (by simp [results,Tryz.results42,go_sem,q90,q91]) rfl hF.out
set_option maxHeartbeats 16000000 in
theorem gc_ (w : World) (va : Value) (x : Int) (K : Nat) (Ha : IntV w va x) (hK : 1 ≤ K ∧ K ≤ 800000) (la : x.natAbs < B ^ K) :
    Calls Tryz.prog 85 #[va] w (lT_ w (decide (x % 2 = 0))):=by
 obtain ⟨n,hn⟩ : ∃ n,(x % 2).sign = n:=⟨_,rfl⟩
 obtain ⟨p,hp⟩ : ∃ p,decide (x % 2 = 0) = p:=⟨_,rfl⟩
 have f1 : (n == 0) = p:=by
  rw [← hn,← hp]
  by_cases h : x % 2 = 0
  · rw [h,decide_eq_true rfl]; rfl
  · rw [decide_eq_false h,Int.sign_eq_one_of_pos (by omega)]; rfl
 have HN:=H_ hn
 have HF1:=H_ f1
 rw [hp]
 have hb2 : (2 : Int).natAbs < B ^ K:=Nat.lt_of_lt_of_le (show 2 < B ^ 1 by unfold B; omega) (Nat.pow_le_pow_right T_ hK.1)
 have HB2 : Hid ((2 : Int).natAbs < B ^ K ∧ (x % 2).natAbs < B ^ K):=⟨hb2,by
  have : (x % 2).natAbs < 2:=by omega
  exact Nat.lt_trans this hb2⟩
 clear hn hp hb2 f1
 have Hla:=H_ la
 clear la
 obtain ⟨sa,xa,ba,rfl,ha,va,ta⟩:=Ha
 obtain ⟨hG,Ba⟩:=en1_ w (.cells #[.slice sa xa.length xa.length,.bool ba] 26)
 have oa : IntV w (.agg #[.slice sa xa.length xa.length,.bool ba]) (x):=⟨sa,xa,ba,rfl,ha,va,ta⟩
 have ia:=oa.kept hG
 clear ha va ta
 go_enter Tryz.func85,Tryz.ntmps85
 obtain ⟨Ca0,Ca1,Fa0,Fa1⟩:=c_ Ba
 go_wp2_with fail
 generalize (w.alloc (.cells #[.slice sa xa.length xa.length,.bool ba] 26)) = w0 at *
 have HG0:=H_ hG
 go_cut [4] (fun p wx=>∃ pe,p = .pointer (some ⟨pe,0,none⟩) ∧ BoxZ wx pe (x % 2) ∧ w.grownBy wx none)
 case first =>
  clear Ca0 Fa0 Ca1 Fa1
  obtain ⟨Ca0,Ca1,Fa0,Fa1⟩:=c_ Ba
  refine wp_region_held_drew (S:=fun w'=>w'.cell? ⟨w.heap.size,0,none⟩ = some (.slice sa xa.length xa.length) ∧ w'.cell? ⟨w.heap.size,1,none⟩ = some (.bool ba)) (by kernel_rfl) (by exact ⟨Ca0,Ca1⟩) (fun hHeld=>?_)
  have gd : w0.grownBy w0.drew none:=k_ (h_ _ _)
  clear Ca0 Fa0 Ca1 Fa1
  replace Ba:=a_ gd Ba
  replace ia:=ia.kept gd
  replace hG:=d_ hG gd
  clear gd
  generalize w0.drew = tw1 at *
  refine tk_ 0 ?_ rfl ?_ ?_
  rotate_left
  · (intro w hSw; (try dsimp only at hSw); go_simp; (try with_reducible rfl))
  try simp only [ly_]
  refine wpAnyH_ready (rs:=[1,7,8]) (by kernel_rfl) (by simp) ?_
  refine AllReadyH.cons rfl (fun KQ hKQ=>?_) (AllReadyH.cons rfl (fun KQ hKQ=>?_) (AllReadyH.cons rfl (fun KQ hKQ=>?_) AllReadyH.nil))
  focus
   go_simp
   go_at_call 24
   refine (ak_ tw1 2 (by omega) (by omega)).mono ?_
   rintro e tw2 ⟨v1,rfl,n1,gtw2⟩
   replace Ba:=a_ gtw2 Ba
   replace ia:=ia.kept gtw2
   replace hG:=d_ hG gtw2
   clear gtw2
   (try go_wp2_with fail)
   refine hKQ.out _ _ (by exact ⟨(c_ Ba).1,(c_ Ba).2.1⟩) (fun hHeld=>?_)
   clear hKQ KQ
   try simp only [ly_]
   refine wpAnyH_ready (rs:=[2,7,8]) (by kernel_rfl) (by simp) ?_
   refine AllReadyH.cons rfl (fun KQ hKQ=>?_) (AllReadyH.cons rfl (fun KQ hKQ=>?_) (AllReadyH.cons rfl (fun KQ hKQ=>?_) AllReadyH.nil))
   focus
    go_simp
    go_at_call 109
    refine (O_ tw2 _ _ x 2 K ia n1 (by omega) Hla.out HB2.out.1 (by decide)).mono ?_
    rintro e tw3 ⟨_,_,rfl,⟨sd,xd,bd,rfl,hd,vd,td⟩,⟨se,xe,be,rfl,he,ve,te⟩,gtw3⟩
    have id : IntV tw3 (.agg #[.slice sd xd.length xd.length,.bool bd]) (x / 2):=⟨sd,xd,bd,rfl,hd,vd,td⟩
    have ie : IntV tw3 (.agg #[.slice se xe.length xe.length,.bool be]) (x % 2):=⟨se,xe,be,rfl,he,ve,te⟩
    replace Ba:=a_ gtw3 Ba
    replace ia:=ia.kept gtw3
    replace n1:=n1.kept gtw3
    replace hG:=d_ hG gtw3
    clear gtw3
    clear hd vd td
    clear he ve te
    (try go_wp2_with fail)
    refine hKQ.out _ _ (by exact ⟨(c_ Ba).1,(c_ Ba).2.1⟩) (fun hHeld=>?_)
    clear hKQ KQ
    try simp only [ly_]
    refine tk_ 3 ?_ rfl ?_ ?_
    rotate_left
    · (intro w hSw; (try dsimp only at hSw); go_simp; (try with_reducible rfl))
    try simp only [ly_]
    refine tk_ 4 ?_ rfl ?_ ?_
    rotate_left
    · (intro w hSw; (try dsimp only at hSw); go_simp; (try with_reducible rfl))
    try simp only [ly_]
    refine tk_ 5 ?_ rfl ?_ ?_
    rotate_left
    · (intro w hSw; (try dsimp only at hSw); go_simp; (try with_reducible rfl))
    try simp only [ly_]
    refine tk_ 6 ?_ rfl ?_ ?_
    rotate_left
    · (intro w hSw; (try dsimp only at hSw); go_simp; (try with_reducible rfl))
    try simp only [ly_]
    refine wpAnyH_ready (rs:=[7,8]) (by kernel_rfl) (by simp) ?_
    refine AllReadyH.cons rfl (fun KQ hKQ=>?_) (AllReadyH.cons rfl (fun KQ hKQ=>?_) AllReadyH.nil)
    focus
     have gA:=wg_ tw3 (.cells #[.slice none 0 0,.bool false] 26) none
     have lohGj : w.heap.size ≤ tw3.heap.size:=hG.size
     have ltaj : w.heap.size < tw3.heap.size:=g_ Ba
     have Bj_:=f_ tw3 (.cells #[.slice none 0 0,.bool false] 26) tw3.heap.size rfl
     replace Ba:=a_ gA Ba
     replace ia:=ia.kept gA
     replace n1:=n1.kept gA
     replace id:=id.kept gA
     replace ie:=ie.kept gA
     replace hG:=d_ hG gA
     clear gA
     go_simp
     generalize (tw3.alloc (.cells #[.slice none 0 0,.bool false] 26)) = tw4 at *
     generalize tw3.heap.size = pj at *
     have Bj:=Bj_
     clear Bj_
     refine hKQ.out _ _ (by exact ⟨(c_ Ba).1,(c_ Ba).2.1⟩) (fun hHeld=>?_)
     clear hKQ KQ
     try simp only [ly_]
     refine o1_ 8 rfl (fun KQ hKQ=>?_)
     have gA:=wg_ tw4 (.cells #[.slice none 0 0,.bool false] 26) none
     have lohGk : w.heap.size ≤ tw4.heap.size:=hG.size
     have ltak : w.heap.size < tw4.heap.size:=g_ Ba
     have ltjk : pj < tw4.heap.size:=g_ Bj
     have Bk_:=f_ tw4 (.cells #[.slice none 0 0,.bool false] 26) tw4.heap.size rfl
     replace Ba:=a_ gA Ba
     replace Bj:=a_ gA Bj
     replace ia:=ia.kept gA
     replace n1:=n1.kept gA
     replace id:=id.kept gA
     replace ie:=ie.kept gA
     replace hG:=d_ hG gA
     clear gA
     go_simp
     generalize (tw4.alloc (.cells #[.slice none 0 0,.bool false] 26)) = tw5 at *
     generalize tw4.heap.size = pk at *
     have Bk:=Bk_
     clear Bk_
     refine hKQ.out _ _ (by exact ⟨(c_ Ba).1,(c_ Ba).2.1⟩) (fun hHeld=>?_)
     clear hKQ KQ
     try simp only [ly_]
    rotate_left 1
    focus
     have gA:=wg_ tw3 (.cells #[.slice none 0 0,.bool false] 26) none
     have lohGk : w.heap.size ≤ tw3.heap.size:=hG.size
     have ltak : w.heap.size < tw3.heap.size:=g_ Ba
     have Bk_:=f_ tw3 (.cells #[.slice none 0 0,.bool false] 26) tw3.heap.size rfl
     replace Ba:=a_ gA Ba
     replace ia:=ia.kept gA
     replace n1:=n1.kept gA
     replace id:=id.kept gA
     replace ie:=ie.kept gA
     replace hG:=d_ hG gA
     clear gA
     go_simp
     generalize (tw3.alloc (.cells #[.slice none 0 0,.bool false] 26)) = tw4 at *
     generalize tw3.heap.size = pk at *
     have Bk:=Bk_
     clear Bk_
     refine hKQ.out _ _ (by exact ⟨(c_ Ba).1,(c_ Ba).2.1⟩) (fun hHeld=>?_)
     clear hKQ KQ
     try simp only [ly_]
     refine o1_ 7 rfl (fun KQ hKQ=>?_)
     have gA:=wg_ tw4 (.cells #[.slice none 0 0,.bool false] 26) none
     have lohGj : w.heap.size ≤ tw4.heap.size:=hG.size
     have ltaj : w.heap.size < tw4.heap.size:=g_ Ba
     have ltkj : pk < tw4.heap.size:=g_ Bk
     have Bj_:=f_ tw4 (.cells #[.slice none 0 0,.bool false] 26) tw4.heap.size rfl
     replace Ba:=a_ gA Ba
     replace Bk:=a_ gA Bk
     replace ia:=ia.kept gA
     replace n1:=n1.kept gA
     replace id:=id.kept gA
     replace ie:=ie.kept gA
     replace hG:=d_ hG gA
     clear gA
     go_simp
     generalize (tw4.alloc (.cells #[.slice none 0 0,.bool false] 26)) = tw5 at *
     generalize tw4.heap.size = pj at *
     have Bj:=Bj_
     clear Bj_
     refine hKQ.out _ _ (by exact ⟨(c_ Ba).1,(c_ Ba).2.1⟩) (fun hHeld=>?_)
     clear hKQ KQ
     try simp only [ly_]
    rotate_left 1
   rotate_left 2
   focus
    have gA:=wg_ tw2 (.cells #[.slice none 0 0,.bool false] 26) none
    have lohGj : w.heap.size ≤ tw2.heap.size:=hG.size
    have ltaj : w.heap.size < tw2.heap.size:=g_ Ba
    have Bj_:=f_ tw2 (.cells #[.slice none 0 0,.bool false] 26) tw2.heap.size rfl
    replace Ba:=a_ gA Ba
    replace ia:=ia.kept gA
    replace n1:=n1.kept gA
    replace hG:=d_ hG gA
    clear gA
    go_simp
    generalize (tw2.alloc (.cells #[.slice none 0 0,.bool false] 26)) = tw3 at *
    generalize tw2.heap.size = pj at *
    have Bj:=Bj_
    clear Bj_
    refine hKQ.out _ _ (by exact ⟨(c_ Ba).1,(c_ Ba).2.1⟩) (fun hHeld=>?_)
    clear hKQ KQ
    try simp only [ly_]
    refine wpAnyH_ready (rs:=[2,8]) (by kernel_rfl) (by simp) ?_
    refine AllReadyH.cons rfl (fun KQ hKQ=>?_) (AllReadyH.cons rfl (fun KQ hKQ=>?_) AllReadyH.nil)
    focus
     go_simp
     go_at_call 109
     refine (O_ tw3 _ _ x 2 K ia n1 (by omega) Hla.out HB2.out.1 (by decide)).mono ?_
     rintro e tw4 ⟨_,_,rfl,⟨sd,xd,bd,rfl,hd,vd,td⟩,⟨se,xe,be,rfl,he,ve,te⟩,gtw4⟩
     have id : IntV tw4 (.agg #[.slice sd xd.length xd.length,.bool bd]) (x / 2):=⟨sd,xd,bd,rfl,hd,vd,td⟩
     have ie : IntV tw4 (.agg #[.slice se xe.length xe.length,.bool be]) (x % 2):=⟨se,xe,be,rfl,he,ve,te⟩
     replace Ba:=a_ gtw4 Ba
     replace Bj:=a_ gtw4 Bj
     replace ia:=ia.kept gtw4
     replace n1:=n1.kept gtw4
     replace hG:=d_ hG gtw4
     clear gtw4
     clear hd vd td
     clear he ve te
     (try go_wp2_with fail)
     refine hKQ.out _ _ (by exact ⟨(c_ Ba).1,(c_ Ba).2.1⟩) (fun hHeld=>?_)
     clear hKQ KQ
     try simp only [ly_]
     refine tk_ 3 ?_ rfl ?_ ?_
     rotate_left
     · (intro w hSw; (try dsimp only at hSw); go_simp; (try with_reducible rfl))
     try simp only [ly_]
     refine tk_ 4 ?_ rfl ?_ ?_
     rotate_left
     · (intro w hSw; (try dsimp only at hSw); go_simp; (try with_reducible rfl))
     try simp only [ly_]
     refine tk_ 5 ?_ rfl ?_ ?_
     rotate_left
     · (intro w hSw; (try dsimp only at hSw); go_simp; (try with_reducible rfl))
     try simp only [ly_]
     refine tk_ 6 ?_ rfl ?_ ?_
     rotate_left
     · (intro w hSw; (try dsimp only at hSw); go_simp; (try with_reducible rfl))
     try simp only [ly_]
     refine o1_ 8 rfl (fun KQ hKQ=>?_)
     have gA:=wg_ tw4 (.cells #[.slice none 0 0,.bool false] 26) none
     have lohGk : w.heap.size ≤ tw4.heap.size:=hG.size
     have ltak : w.heap.size < tw4.heap.size:=g_ Ba
     have ltjk : pj < tw4.heap.size:=g_ Bj
     have Bk_:=f_ tw4 (.cells #[.slice none 0 0,.bool false] 26) tw4.heap.size rfl
     replace Ba:=a_ gA Ba
     replace Bj:=a_ gA Bj
     replace ia:=ia.kept gA
     replace n1:=n1.kept gA
     replace id:=id.kept gA
     replace ie:=ie.kept gA
     replace hG:=d_ hG gA
     clear gA
     go_simp
     generalize (tw4.alloc (.cells #[.slice none 0 0,.bool false] 26)) = tw5 at *
     generalize tw4.heap.size = pk at *
     have Bk:=Bk_
     clear Bk_
     refine hKQ.out _ _ (by exact ⟨(c_ Ba).1,(c_ Ba).2.1⟩) (fun hHeld=>?_)
     clear hKQ KQ
     try simp only [ly_]
    rotate_left 1
    focus
     have gA:=wg_ tw3 (.cells #[.slice none 0 0,.bool false] 26) none
     have lohGk : w.heap.size ≤ tw3.heap.size:=hG.size
     have ltak : w.heap.size < tw3.heap.size:=g_ Ba
     have ltjk : pj < tw3.heap.size:=g_ Bj
     have Bk_:=f_ tw3 (.cells #[.slice none 0 0,.bool false] 26) tw3.heap.size rfl
     replace Ba:=a_ gA Ba
     replace Bj:=a_ gA Bj
     replace ia:=ia.kept gA
     replace n1:=n1.kept gA
     replace hG:=d_ hG gA
     clear gA
     go_simp
     generalize (tw3.alloc (.cells #[.slice none 0 0,.bool false] 26)) = tw4 at *
     generalize tw3.heap.size = pk at *
     have Bk:=Bk_
     clear Bk_
     refine hKQ.out _ _ (by exact ⟨(c_ Ba).1,(c_ Ba).2.1⟩) (fun hHeld=>?_)
     clear hKQ KQ
     try simp only [ly_]
     refine o1_ 2 rfl (fun KQ hKQ=>?_)
     go_simp
     go_at_call 109
     refine (O_ tw4 _ _ x 2 K ia n1 (by omega) Hla.out HB2.out.1 (by decide)).mono ?_
     rintro e tw5 ⟨_,_,rfl,⟨sd,xd,bd,rfl,hd,vd,td⟩,⟨se,xe,be,rfl,he,ve,te⟩,gtw5⟩
     have id : IntV tw5 (.agg #[.slice sd xd.length xd.length,.bool bd]) (x / 2):=⟨sd,xd,bd,rfl,hd,vd,td⟩
     have ie : IntV tw5 (.agg #[.slice se xe.length xe.length,.bool be]) (x % 2):=⟨se,xe,be,rfl,he,ve,te⟩
     replace Ba:=a_ gtw5 Ba
     replace Bj:=a_ gtw5 Bj
     replace Bk:=a_ gtw5 Bk
     replace ia:=ia.kept gtw5
     replace n1:=n1.kept gtw5
     replace hG:=d_ hG gtw5
     clear gtw5
     clear hd vd td
     clear he ve te
     (try go_wp2_with fail)
     refine hKQ.out _ _ (by exact ⟨(c_ Ba).1,(c_ Ba).2.1⟩) (fun hHeld=>?_)
     clear hKQ KQ
     try simp only [ly_]
     refine tk_ 3 ?_ rfl ?_ ?_
     rotate_left
     · (intro w hSw; (try dsimp only at hSw); go_simp; (try with_reducible rfl))
     try simp only [ly_]
     refine tk_ 4 ?_ rfl ?_ ?_
     rotate_left
     · (intro w hSw; (try dsimp only at hSw); go_simp; (try with_reducible rfl))
     try simp only [ly_]
     refine tk_ 5 ?_ rfl ?_ ?_
     rotate_left
     · (intro w hSw; (try dsimp only at hSw); go_simp; (try with_reducible rfl))
     try simp only [ly_]
     refine tk_ 6 ?_ rfl ?_ ?_
     rotate_left
     · (intro w hSw; (try dsimp only at hSw); go_simp; (try with_reducible rfl))
     try simp only [ly_]
    rotate_left 1
   rotate_left 2
   focus
    have gA:=wg_ tw2 (.cells #[.slice none 0 0,.bool false] 26) none
    have lohGk : w.heap.size ≤ tw2.heap.size:=hG.size
    have ltak : w.heap.size < tw2.heap.size:=g_ Ba
    have Bk_:=f_ tw2 (.cells #[.slice none 0 0,.bool false] 26) tw2.heap.size rfl
    replace Ba:=a_ gA Ba
    replace ia:=ia.kept gA
    replace n1:=n1.kept gA
    replace hG:=d_ hG gA
    clear gA
    go_simp
    generalize (tw2.alloc (.cells #[.slice none 0 0,.bool false] 26)) = tw3 at *
    generalize tw2.heap.size = pk at *
    have Bk:=Bk_
    clear Bk_
    refine hKQ.out _ _ (by exact ⟨(c_ Ba).1,(c_ Ba).2.1⟩) (fun hHeld=>?_)
    clear hKQ KQ
    try simp only [ly_]
    refine wpAnyH_ready (rs:=[2,7]) (by kernel_rfl) (by simp) ?_
    refine AllReadyH.cons rfl (fun KQ hKQ=>?_) (AllReadyH.cons rfl (fun KQ hKQ=>?_) AllReadyH.nil)
    focus
     go_simp
     go_at_call 109
     refine (O_ tw3 _ _ x 2 K ia n1 (by omega) Hla.out HB2.out.1 (by decide)).mono ?_
     rintro e tw4 ⟨_,_,rfl,⟨sd,xd,bd,rfl,hd,vd,td⟩,⟨se,xe,be,rfl,he,ve,te⟩,gtw4⟩
     have id : IntV tw4 (.agg #[.slice sd xd.length xd.length,.bool bd]) (x / 2):=⟨sd,xd,bd,rfl,hd,vd,td⟩
     have ie : IntV tw4 (.agg #[.slice se xe.length xe.length,.bool be]) (x % 2):=⟨se,xe,be,rfl,he,ve,te⟩
     replace Ba:=a_ gtw4 Ba
     replace Bk:=a_ gtw4 Bk
     replace ia:=ia.kept gtw4
     replace n1:=n1.kept gtw4
     replace hG:=d_ hG gtw4
     clear gtw4
     clear hd vd td
     clear he ve te
     (try go_wp2_with fail)
     refine hKQ.out _ _ (by exact ⟨(c_ Ba).1,(c_ Ba).2.1⟩) (fun hHeld=>?_)
     clear hKQ KQ
     try simp only [ly_]
     refine tk_ 3 ?_ rfl ?_ ?_
     rotate_left
     · (intro w hSw; (try dsimp only at hSw); go_simp; (try with_reducible rfl))
     try simp only [ly_]
     refine tk_ 4 ?_ rfl ?_ ?_
     rotate_left
     · (intro w hSw; (try dsimp only at hSw); go_simp; (try with_reducible rfl))
     try simp only [ly_]
     refine tk_ 5 ?_ rfl ?_ ?_
     rotate_left
     · (intro w hSw; (try dsimp only at hSw); go_simp; (try with_reducible rfl))
     try simp only [ly_]
     refine tk_ 6 ?_ rfl ?_ ?_
     rotate_left
     · (intro w hSw; (try dsimp only at hSw); go_simp; (try with_reducible rfl))
     try simp only [ly_]
     refine o1_ 7 rfl (fun KQ hKQ=>?_)
     have gA:=wg_ tw4 (.cells #[.slice none 0 0,.bool false] 26) none
     have lohGj : w.heap.size ≤ tw4.heap.size:=hG.size
     have ltaj : w.heap.size < tw4.heap.size:=g_ Ba
     have ltkj : pk < tw4.heap.size:=g_ Bk
     have Bj_:=f_ tw4 (.cells #[.slice none 0 0,.bool false] 26) tw4.heap.size rfl
     replace Ba:=a_ gA Ba
     replace Bk:=a_ gA Bk
     replace ia:=ia.kept gA
     replace n1:=n1.kept gA
     replace id:=id.kept gA
     replace ie:=ie.kept gA
     replace hG:=d_ hG gA
     clear gA
     go_simp
     generalize (tw4.alloc (.cells #[.slice none 0 0,.bool false] 26)) = tw5 at *
     generalize tw4.heap.size = pj at *
     have Bj:=Bj_
     clear Bj_
     refine hKQ.out _ _ (by exact ⟨(c_ Ba).1,(c_ Ba).2.1⟩) (fun hHeld=>?_)
     clear hKQ KQ
     try simp only [ly_]
    rotate_left 1
    focus
     have gA:=wg_ tw3 (.cells #[.slice none 0 0,.bool false] 26) none
     have lohGj : w.heap.size ≤ tw3.heap.size:=hG.size
     have ltaj : w.heap.size < tw3.heap.size:=g_ Ba
     have ltkj : pk < tw3.heap.size:=g_ Bk
     have Bj_:=f_ tw3 (.cells #[.slice none 0 0,.bool false] 26) tw3.heap.size rfl
     replace Ba:=a_ gA Ba
     replace Bk:=a_ gA Bk
     replace ia:=ia.kept gA
     replace n1:=n1.kept gA
     replace hG:=d_ hG gA
     clear gA
     go_simp
     generalize (tw3.alloc (.cells #[.slice none 0 0,.bool false] 26)) = tw4 at *
     generalize tw3.heap.size = pj at *
     have Bj:=Bj_
     clear Bj_
     refine hKQ.out _ _ (by exact ⟨(c_ Ba).1,(c_ Ba).2.1⟩) (fun hHeld=>?_)
     clear hKQ KQ
     try simp only [ly_]
     refine o1_ 2 rfl (fun KQ hKQ=>?_)
     go_simp
     go_at_call 109
     refine (O_ tw4 _ _ x 2 K ia n1 (by omega) Hla.out HB2.out.1 (by decide)).mono ?_
     rintro e tw5 ⟨_,_,rfl,⟨sd,xd,bd,rfl,hd,vd,td⟩,⟨se,xe,be,rfl,he,ve,te⟩,gtw5⟩
     have id : IntV tw5 (.agg #[.slice sd xd.length xd.length,.bool bd]) (x / 2):=⟨sd,xd,bd,rfl,hd,vd,td⟩
     have ie : IntV tw5 (.agg #[.slice se xe.length xe.length,.bool be]) (x % 2):=⟨se,xe,be,rfl,he,ve,te⟩
     replace Ba:=a_ gtw5 Ba
     replace Bk:=a_ gtw5 Bk
     replace Bj:=a_ gtw5 Bj
     replace ia:=ia.kept gtw5
     replace n1:=n1.kept gtw5
     replace hG:=d_ hG gtw5
     clear gtw5
     clear hd vd td
     clear he ve te
     (try go_wp2_with fail)
     refine hKQ.out _ _ (by exact ⟨(c_ Ba).1,(c_ Ba).2.1⟩) (fun hHeld=>?_)
     clear hKQ KQ
     try simp only [ly_]
     refine tk_ 3 ?_ rfl ?_ ?_
     rotate_left
     · (intro w hSw; (try dsimp only at hSw); go_simp; (try with_reducible rfl))
     try simp only [ly_]
     refine tk_ 4 ?_ rfl ?_ ?_
     rotate_left
     · (intro w hSw; (try dsimp only at hSw); go_simp; (try with_reducible rfl))
     try simp only [ly_]
     refine tk_ 5 ?_ rfl ?_ ?_
     rotate_left
     · (intro w hSw; (try dsimp only at hSw); go_simp; (try with_reducible rfl))
     try simp only [ly_]
     refine tk_ 6 ?_ rfl ?_ ?_
     rotate_left
     · (intro w hSw; (try dsimp only at hSw); go_simp; (try with_reducible rfl))
     try simp only [ly_]
    rotate_left 1
   rotate_left 2
  rotate_left 6
  focus
   have gA:=wg_ tw1 (.cells #[.slice none 0 0,.bool false] 26) none
   have lohGj : w.heap.size ≤ tw1.heap.size:=hG.size
   have ltaj : w.heap.size < tw1.heap.size:=g_ Ba
   have Bj_:=f_ tw1 (.cells #[.slice none 0 0,.bool false] 26) tw1.heap.size rfl
   replace Ba:=a_ gA Ba
   replace ia:=ia.kept gA
   replace hG:=d_ hG gA
   clear gA
   go_simp
   generalize (tw1.alloc (.cells #[.slice none 0 0,.bool false] 26)) = tw2 at *
   generalize tw1.heap.size = pj at *
   have Bj:=Bj_
   clear Bj_
   refine hKQ.out _ _ (by exact ⟨(c_ Ba).1,(c_ Ba).2.1⟩) (fun hHeld=>?_)
   clear hKQ KQ
   try simp only [ly_]
   refine wpAnyH_ready (rs:=[1,8]) (by kernel_rfl) (by simp) ?_
   refine AllReadyH.cons rfl (fun KQ hKQ=>?_) (AllReadyH.cons rfl (fun KQ hKQ=>?_) AllReadyH.nil)
   focus
    go_simp
    go_at_call 24
    refine (ak_ tw2 2 (by omega) (by omega)).mono ?_
    rintro e tw3 ⟨v1,rfl,n1,gtw3⟩
    replace Ba:=a_ gtw3 Ba
    replace Bj:=a_ gtw3 Bj
    replace ia:=ia.kept gtw3
    replace hG:=d_ hG gtw3
    clear gtw3
    (try go_wp2_with fail)
    refine hKQ.out _ _ (by exact ⟨(c_ Ba).1,(c_ Ba).2.1⟩) (fun hHeld=>?_)
    clear hKQ KQ
    try simp only [ly_]
    refine wpAnyH_ready (rs:=[2,8]) (by kernel_rfl) (by simp) ?_
    refine AllReadyH.cons rfl (fun KQ hKQ=>?_) (AllReadyH.cons rfl (fun KQ hKQ=>?_) AllReadyH.nil)
    focus
     go_simp
     go_at_call 109
     refine (O_ tw3 _ _ x 2 K ia n1 (by omega) Hla.out HB2.out.1 (by decide)).mono ?_
     rintro e tw4 ⟨_,_,rfl,⟨sd,xd,bd,rfl,hd,vd,td⟩,⟨se,xe,be,rfl,he,ve,te⟩,gtw4⟩
     have id : IntV tw4 (.agg #[.slice sd xd.length xd.length,.bool bd]) (x / 2):=⟨sd,xd,bd,rfl,hd,vd,td⟩
     have ie : IntV tw4 (.agg #[.slice se xe.length xe.length,.bool be]) (x % 2):=⟨se,xe,be,rfl,he,ve,te⟩
     replace Ba:=a_ gtw4 Ba
     replace Bj:=a_ gtw4 Bj
     replace ia:=ia.kept gtw4
     replace n1:=n1.kept gtw4
     replace hG:=d_ hG gtw4
     clear gtw4
     clear hd vd td
     clear he ve te
     (try go_wp2_with fail)
     refine hKQ.out _ _ (by exact ⟨(c_ Ba).1,(c_ Ba).2.1⟩) (fun hHeld=>?_)
     clear hKQ KQ
     try simp only [ly_]
     refine tk_ 3 ?_ rfl ?_ ?_
     rotate_left
     · (intro w hSw; (try dsimp only at hSw); go_simp; (try with_reducible rfl))
     try simp only [ly_]
     refine tk_ 4 ?_ rfl ?_ ?_
     rotate_left
     · (intro w hSw; (try dsimp only at hSw); go_simp; (try with_reducible rfl))
     try simp only [ly_]
     refine tk_ 5 ?_ rfl ?_ ?_
     rotate_left
     · (intro w hSw; (try dsimp only at hSw); go_simp; (try with_reducible rfl))
     try simp only [ly_]
     refine tk_ 6 ?_ rfl ?_ ?_
     rotate_left
     · (intro w hSw; (try dsimp only at hSw); go_simp; (try with_reducible rfl))
     try simp only [ly_]
     refine o1_ 8 rfl (fun KQ hKQ=>?_)
     have gA:=wg_ tw4 (.cells #[.slice none 0 0,.bool false] 26) none
     have lohGk : w.heap.size ≤ tw4.heap.size:=hG.size
     have ltak : w.heap.size < tw4.heap.size:=g_ Ba
     have ltjk : pj < tw4.heap.size:=g_ Bj
     have Bk_:=f_ tw4 (.cells #[.slice none 0 0,.bool false] 26) tw4.heap.size rfl
     replace Ba:=a_ gA Ba
     replace Bj:=a_ gA Bj
     replace ia:=ia.kept gA
     replace n1:=n1.kept gA
     replace id:=id.kept gA
     replace ie:=ie.kept gA
     replace hG:=d_ hG gA
     clear gA
     go_simp
     generalize (tw4.alloc (.cells #[.slice none 0 0,.bool false] 26)) = tw5 at *
     generalize tw4.heap.size = pk at *
     have Bk:=Bk_
     clear Bk_
     refine hKQ.out _ _ (by exact ⟨(c_ Ba).1,(c_ Ba).2.1⟩) (fun hHeld=>?_)
     clear hKQ KQ
     try simp only [ly_]
    rotate_left 1
    focus
     have gA:=wg_ tw3 (.cells #[.slice none 0 0,.bool false] 26) none
     have lohGk : w.heap.size ≤ tw3.heap.size:=hG.size
     have ltak : w.heap.size < tw3.heap.size:=g_ Ba
     have ltjk : pj < tw3.heap.size:=g_ Bj
     have Bk_:=f_ tw3 (.cells #[.slice none 0 0,.bool false] 26) tw3.heap.size rfl
     replace Ba:=a_ gA Ba
     replace Bj:=a_ gA Bj
     replace ia:=ia.kept gA
     replace n1:=n1.kept gA
     replace hG:=d_ hG gA
     clear gA
     go_simp
     generalize (tw3.alloc (.cells #[.slice none 0 0,.bool false] 26)) = tw4 at *
     generalize tw3.heap.size = pk at *
     have Bk:=Bk_
     clear Bk_
     refine hKQ.out _ _ (by exact ⟨(c_ Ba).1,(c_ Ba).2.1⟩) (fun hHeld=>?_)
     clear hKQ KQ
     try simp only [ly_]
     refine o1_ 2 rfl (fun KQ hKQ=>?_)
     go_simp
     go_at_call 109
     refine (O_ tw4 _ _ x 2 K ia n1 (by omega) Hla.out HB2.out.1 (by decide)).mono ?_
     rintro e tw5 ⟨_,_,rfl,⟨sd,xd,bd,rfl,hd,vd,td⟩,⟨se,xe,be,rfl,he,ve,te⟩,gtw5⟩
     have id : IntV tw5 (.agg #[.slice sd xd.length xd.length,.bool bd]) (x / 2):=⟨sd,xd,bd,rfl,hd,vd,td⟩
     have ie : IntV tw5 (.agg #[.slice se xe.length xe.length,.bool be]) (x % 2):=⟨se,xe,be,rfl,he,ve,te⟩
     replace Ba:=a_ gtw5 Ba
     replace Bj:=a_ gtw5 Bj
     replace Bk:=a_ gtw5 Bk
     replace ia:=ia.kept gtw5
     replace n1:=n1.kept gtw5
     replace hG:=d_ hG gtw5
     clear gtw5
     clear hd vd td
     clear he ve te
     (try go_wp2_with fail)
     refine hKQ.out _ _ (by exact ⟨(c_ Ba).1,(c_ Ba).2.1⟩) (fun hHeld=>?_)
     clear hKQ KQ
     try simp only [ly_]
     refine tk_ 3 ?_ rfl ?_ ?_
     rotate_left
     · (intro w hSw; (try dsimp only at hSw); go_simp; (try with_reducible rfl))
     try simp only [ly_]
     refine tk_ 4 ?_ rfl ?_ ?_
     rotate_left
     · (intro w hSw; (try dsimp only at hSw); go_simp; (try with_reducible rfl))
     try simp only [ly_]
     refine tk_ 5 ?_ rfl ?_ ?_
     rotate_left
     · (intro w hSw; (try dsimp only at hSw); go_simp; (try with_reducible rfl))
     try simp only [ly_]
     refine tk_ 6 ?_ rfl ?_ ?_
     rotate_left
     · (intro w hSw; (try dsimp only at hSw); go_simp; (try with_reducible rfl))
     try simp only [ly_]
    rotate_left 1
   rotate_left 2
   focus
    have gA:=wg_ tw2 (.cells #[.slice none 0 0,.bool false] 26) none
    have lohGk : w.heap.size ≤ tw2.heap.size:=hG.size
    have ltak : w.heap.size < tw2.heap.size:=g_ Ba
    have ltjk : pj < tw2.heap.size:=g_ Bj
    have Bk_:=f_ tw2 (.cells #[.slice none 0 0,.bool false] 26) tw2.heap.size rfl
    replace Ba:=a_ gA Ba
    replace Bj:=a_ gA Bj
    replace ia:=ia.kept gA
    replace hG:=d_ hG gA
    clear gA
    go_simp
    generalize (tw2.alloc (.cells #[.slice none 0 0,.bool false] 26)) = tw3 at *
    generalize tw2.heap.size = pk at *
    have Bk:=Bk_
    clear Bk_
    refine hKQ.out _ _ (by exact ⟨(c_ Ba).1,(c_ Ba).2.1⟩) (fun hHeld=>?_)
    clear hKQ KQ
    try simp only [ly_]
    refine o1_ 1 rfl (fun KQ hKQ=>?_)
    go_simp
    go_at_call 24
    refine (ak_ tw3 2 (by omega) (by omega)).mono ?_
    rintro e tw4 ⟨v1,rfl,n1,gtw4⟩
    replace Ba:=a_ gtw4 Ba
    replace Bj:=a_ gtw4 Bj
    replace Bk:=a_ gtw4 Bk
    replace ia:=ia.kept gtw4
    replace hG:=d_ hG gtw4
    clear gtw4
    (try go_wp2_with fail)
    refine hKQ.out _ _ (by exact ⟨(c_ Ba).1,(c_ Ba).2.1⟩) (fun hHeld=>?_)
    clear hKQ KQ
    try simp only [ly_]
    refine o1_ 2 rfl (fun KQ hKQ=>?_)
    go_simp
    go_at_call 109
    refine (O_ tw4 _ _ x 2 K ia n1 (by omega) Hla.out HB2.out.1 (by decide)).mono ?_
    rintro e tw5 ⟨_,_,rfl,⟨sd,xd,bd,rfl,hd,vd,td⟩,⟨se,xe,be,rfl,he,ve,te⟩,gtw5⟩
    have id : IntV tw5 (.agg #[.slice sd xd.length xd.length,.bool bd]) (x / 2):=⟨sd,xd,bd,rfl,hd,vd,td⟩
    have ie : IntV tw5 (.agg #[.slice se xe.length xe.length,.bool be]) (x % 2):=⟨se,xe,be,rfl,he,ve,te⟩
    replace Ba:=a_ gtw5 Ba
    replace Bj:=a_ gtw5 Bj
    replace Bk:=a_ gtw5 Bk
    replace ia:=ia.kept gtw5
    replace n1:=n1.kept gtw5
    replace hG:=d_ hG gtw5
    clear gtw5
    clear hd vd td
    clear he ve te
    (try go_wp2_with fail)
    refine hKQ.out _ _ (by exact ⟨(c_ Ba).1,(c_ Ba).2.1⟩) (fun hHeld=>?_)
    clear hKQ KQ
    try simp only [ly_]
    refine tk_ 3 ?_ rfl ?_ ?_
    rotate_left
    · (intro w hSw; (try dsimp only at hSw); go_simp; (try with_reducible rfl))
    try simp only [ly_]
    refine tk_ 4 ?_ rfl ?_ ?_
    rotate_left
    · (intro w hSw; (try dsimp only at hSw); go_simp; (try with_reducible rfl))
    try simp only [ly_]
    refine tk_ 5 ?_ rfl ?_ ?_
    rotate_left
    · (intro w hSw; (try dsimp only at hSw); go_simp; (try with_reducible rfl))
    try simp only [ly_]
    refine tk_ 6 ?_ rfl ?_ ?_
    rotate_left
    · (intro w hSw; (try dsimp only at hSw); go_simp; (try with_reducible rfl))
    try simp only [ly_]
   rotate_left 1
  rotate_left 3
  focus
   have gA:=wg_ tw1 (.cells #[.slice none 0 0,.bool false] 26) none
   have lohGk : w.heap.size ≤ tw1.heap.size:=hG.size
   have ltak : w.heap.size < tw1.heap.size:=g_ Ba
   have Bk_:=f_ tw1 (.cells #[.slice none 0 0,.bool false] 26) tw1.heap.size rfl
   replace Ba:=a_ gA Ba
   replace ia:=ia.kept gA
   replace hG:=d_ hG gA
   clear gA
   go_simp
   generalize (tw1.alloc (.cells #[.slice none 0 0,.bool false] 26)) = tw2 at *
   generalize tw1.heap.size = pk at *
   have Bk:=Bk_
   clear Bk_
   refine hKQ.out _ _ (by exact ⟨(c_ Ba).1,(c_ Ba).2.1⟩) (fun hHeld=>?_)
   clear hKQ KQ
   try simp only [ly_]
   refine wpAnyH_ready (rs:=[1,7]) (by kernel_rfl) (by simp) ?_
   refine AllReadyH.cons rfl (fun KQ hKQ=>?_) (AllReadyH.cons rfl (fun KQ hKQ=>?_) AllReadyH.nil)
   focus
    go_simp
    go_at_call 24
    refine (ak_ tw2 2 (by omega) (by omega)).mono ?_
    rintro e tw3 ⟨v1,rfl,n1,gtw3⟩
    replace Ba:=a_ gtw3 Ba
    replace Bk:=a_ gtw3 Bk
    replace ia:=ia.kept gtw3
    replace hG:=d_ hG gtw3
    clear gtw3
    (try go_wp2_with fail)
    refine hKQ.out _ _ (by exact ⟨(c_ Ba).1,(c_ Ba).2.1⟩) (fun hHeld=>?_)
    clear hKQ KQ
    try simp only [ly_]
    refine wpAnyH_ready (rs:=[2,7]) (by kernel_rfl) (by simp) ?_
    refine AllReadyH.cons rfl (fun KQ hKQ=>?_) (AllReadyH.cons rfl (fun KQ hKQ=>?_) AllReadyH.nil)
    focus
     go_simp
     go_at_call 109
     refine (O_ tw3 _ _ x 2 K ia n1 (by omega) Hla.out HB2.out.1 (by decide)).mono ?_
     rintro e tw4 ⟨_,_,rfl,⟨sd,xd,bd,rfl,hd,vd,td⟩,⟨se,xe,be,rfl,he,ve,te⟩,gtw4⟩
     have id : IntV tw4 (.agg #[.slice sd xd.length xd.length,.bool bd]) (x / 2):=⟨sd,xd,bd,rfl,hd,vd,td⟩
     have ie : IntV tw4 (.agg #[.slice se xe.length xe.length,.bool be]) (x % 2):=⟨se,xe,be,rfl,he,ve,te⟩
     replace Ba:=a_ gtw4 Ba
     replace Bk:=a_ gtw4 Bk
     replace ia:=ia.kept gtw4
     replace n1:=n1.kept gtw4
     replace hG:=d_ hG gtw4
     clear gtw4
     clear hd vd td
     clear he ve te
     (try go_wp2_with fail)
     refine hKQ.out _ _ (by exact ⟨(c_ Ba).1,(c_ Ba).2.1⟩) (fun hHeld=>?_)
     clear hKQ KQ
     try simp only [ly_]
     refine tk_ 3 ?_ rfl ?_ ?_
     rotate_left
     · (intro w hSw; (try dsimp only at hSw); go_simp; (try with_reducible rfl))
     try simp only [ly_]
     refine tk_ 4 ?_ rfl ?_ ?_
     rotate_left
     · (intro w hSw; (try dsimp only at hSw); go_simp; (try with_reducible rfl))
     try simp only [ly_]
     refine tk_ 5 ?_ rfl ?_ ?_
     rotate_left
     · (intro w hSw; (try dsimp only at hSw); go_simp; (try with_reducible rfl))
     try simp only [ly_]
     refine tk_ 6 ?_ rfl ?_ ?_
     rotate_left
     · (intro w hSw; (try dsimp only at hSw); go_simp; (try with_reducible rfl))
     try simp only [ly_]
     refine o1_ 7 rfl (fun KQ hKQ=>?_)
     have gA:=wg_ tw4 (.cells #[.slice none 0 0,.bool false] 26) none
     have lohGj : w.heap.size ≤ tw4.heap.size:=hG.size
     have ltaj : w.heap.size < tw4.heap.size:=g_ Ba
     have ltkj : pk < tw4.heap.size:=g_ Bk
     have Bj_:=f_ tw4 (.cells #[.slice none 0 0,.bool false] 26) tw4.heap.size rfl
     replace Ba:=a_ gA Ba
     replace Bk:=a_ gA Bk
     replace ia:=ia.kept gA
     replace n1:=n1.kept gA
     replace id:=id.kept gA
     replace ie:=ie.kept gA
     replace hG:=d_ hG gA
     clear gA
     go_simp
     generalize (tw4.alloc (.cells #[.slice none 0 0,.bool false] 26)) = tw5 at *
     generalize tw4.heap.size = pj at *
     have Bj:=Bj_
     clear Bj_
     refine hKQ.out _ _ (by exact ⟨(c_ Ba).1,(c_ Ba).2.1⟩) (fun hHeld=>?_)
     clear hKQ KQ
     try simp only [ly_]
    rotate_left 1
    focus
     have gA:=wg_ tw3 (.cells #[.slice none 0 0,.bool false] 26) none
     have lohGj : w.heap.size ≤ tw3.heap.size:=hG.size
     have ltaj : w.heap.size < tw3.heap.size:=g_ Ba
     have ltkj : pk < tw3.heap.size:=g_ Bk
     have Bj_:=f_ tw3 (.cells #[.slice none 0 0,.bool false] 26) tw3.heap.size rfl
     replace Ba:=a_ gA Ba
     replace Bk:=a_ gA Bk
     replace ia:=ia.kept gA
     replace n1:=n1.kept gA
     replace hG:=d_ hG gA
     clear gA
     go_simp
     generalize (tw3.alloc (.cells #[.slice none 0 0,.bool false] 26)) = tw4 at *
     generalize tw3.heap.size = pj at *
     have Bj:=Bj_
     clear Bj_
     refine hKQ.out _ _ (by exact ⟨(c_ Ba).1,(c_ Ba).2.1⟩) (fun hHeld=>?_)
     clear hKQ KQ
     try simp only [ly_]
     refine o1_ 2 rfl (fun KQ hKQ=>?_)
     go_simp
     go_at_call 109
     refine (O_ tw4 _ _ x 2 K ia n1 (by omega) Hla.out HB2.out.1 (by decide)).mono ?_
     rintro e tw5 ⟨_,_,rfl,⟨sd,xd,bd,rfl,hd,vd,td⟩,⟨se,xe,be,rfl,he,ve,te⟩,gtw5⟩
     have id : IntV tw5 (.agg #[.slice sd xd.length xd.length,.bool bd]) (x / 2):=⟨sd,xd,bd,rfl,hd,vd,td⟩
     have ie : IntV tw5 (.agg #[.slice se xe.length xe.length,.bool be]) (x % 2):=⟨se,xe,be,rfl,he,ve,te⟩
     replace Ba:=a_ gtw5 Ba
     replace Bk:=a_ gtw5 Bk
     replace Bj:=a_ gtw5 Bj
     replace ia:=ia.kept gtw5
     replace n1:=n1.kept gtw5
     replace hG:=d_ hG gtw5
     clear gtw5
     clear hd vd td
     clear he ve te
     (try go_wp2_with fail)
     refine hKQ.out _ _ (by exact ⟨(c_ Ba).1,(c_ Ba).2.1⟩) (fun hHeld=>?_)
     clear hKQ KQ
     try simp only [ly_]
     refine tk_ 3 ?_ rfl ?_ ?_
     rotate_left
     · (intro w hSw; (try dsimp only at hSw); go_simp; (try with_reducible rfl))
     try simp only [ly_]
     refine tk_ 4 ?_ rfl ?_ ?_
     rotate_left
     · (intro w hSw; (try dsimp only at hSw); go_simp; (try with_reducible rfl))
     try simp only [ly_]
     refine tk_ 5 ?_ rfl ?_ ?_
     rotate_left
     · (intro w hSw; (try dsimp only at hSw); go_simp; (try with_reducible rfl))
     try simp only [ly_]
     refine tk_ 6 ?_ rfl ?_ ?_
     rotate_left
     · (intro w hSw; (try dsimp only at hSw); go_simp; (try with_reducible rfl))
     try simp only [ly_]
    rotate_left 1
   rotate_left 2
   focus
    have gA:=wg_ tw2 (.cells #[.slice none 0 0,.bool false] 26) none
    have lohGj : w.heap.size ≤ tw2.heap.size:=hG.size
    have ltaj : w.heap.size < tw2.heap.size:=g_ Ba
    have ltkj : pk < tw2.heap.size:=g_ Bk
    have Bj_:=f_ tw2 (.cells #[.slice none 0 0,.bool false] 26) tw2.heap.size rfl
    replace Ba:=a_ gA Ba
    replace Bk:=a_ gA Bk
    replace ia:=ia.kept gA
    replace hG:=d_ hG gA
    clear gA
    go_simp
    generalize (tw2.alloc (.cells #[.slice none 0 0,.bool false] 26)) = tw3 at *
    generalize tw2.heap.size = pj at *
    have Bj:=Bj_
    clear Bj_
    refine hKQ.out _ _ (by exact ⟨(c_ Ba).1,(c_ Ba).2.1⟩) (fun hHeld=>?_)
    clear hKQ KQ
    try simp only [ly_]
    refine o1_ 1 rfl (fun KQ hKQ=>?_)
    go_simp
    go_at_call 24
    refine (ak_ tw3 2 (by omega) (by omega)).mono ?_
    rintro e tw4 ⟨v1,rfl,n1,gtw4⟩
    replace Ba:=a_ gtw4 Ba
    replace Bk:=a_ gtw4 Bk
    replace Bj:=a_ gtw4 Bj
    replace ia:=ia.kept gtw4
    replace hG:=d_ hG gtw4
    clear gtw4
    (try go_wp2_with fail)
    refine hKQ.out _ _ (by exact ⟨(c_ Ba).1,(c_ Ba).2.1⟩) (fun hHeld=>?_)
    clear hKQ KQ
    try simp only [ly_]
    refine o1_ 2 rfl (fun KQ hKQ=>?_)
    go_simp
    go_at_call 109
    refine (O_ tw4 _ _ x 2 K ia n1 (by omega) Hla.out HB2.out.1 (by decide)).mono ?_
    rintro e tw5 ⟨_,_,rfl,⟨sd,xd,bd,rfl,hd,vd,td⟩,⟨se,xe,be,rfl,he,ve,te⟩,gtw5⟩
    have id : IntV tw5 (.agg #[.slice sd xd.length xd.length,.bool bd]) (x / 2):=⟨sd,xd,bd,rfl,hd,vd,td⟩
    have ie : IntV tw5 (.agg #[.slice se xe.length xe.length,.bool be]) (x % 2):=⟨se,xe,be,rfl,he,ve,te⟩
    replace Ba:=a_ gtw5 Ba
    replace Bk:=a_ gtw5 Bk
    replace Bj:=a_ gtw5 Bj
    replace ia:=ia.kept gtw5
    replace n1:=n1.kept gtw5
    replace hG:=d_ hG gtw5
    clear gtw5
    clear hd vd td
    clear he ve te
    (try go_wp2_with fail)
    refine hKQ.out _ _ (by exact ⟨(c_ Ba).1,(c_ Ba).2.1⟩) (fun hHeld=>?_)
    clear hKQ KQ
    try simp only [ly_]
    refine tk_ 3 ?_ rfl ?_ ?_
    rotate_left
    · (intro w hSw; (try dsimp only at hSw); go_simp; (try with_reducible rfl))
    try simp only [ly_]
    refine tk_ 4 ?_ rfl ?_ ?_
    rotate_left
    · (intro w hSw; (try dsimp only at hSw); go_simp; (try with_reducible rfl))
    try simp only [ly_]
    refine tk_ 5 ?_ rfl ?_ ?_
    rotate_left
    · (intro w hSw; (try dsimp only at hSw); go_simp; (try with_reducible rfl))
    try simp only [ly_]
    refine tk_ 6 ?_ rfl ?_ ?_
    rotate_left
    · (intro w hSw; (try dsimp only at hSw); go_simp; (try with_reducible rfl))
    try simp only [ly_]
   rotate_left 1
  rotate_left 3
  all_goals (
   refine o1_ 9 rfl (fun KQ hKQ=>?_)
   obtain ⟨c0',c1',c2',c3'⟩:=c_ Bj
   go_simp
   clear c0' c1' c2' c3'
   replace ia:=ia.set2 Bj (.slice sd xd.length xd.length) (.bool bd)
   replace n1:=n1.set2 Bj (.slice sd xd.length xd.length) (.bool bd)
   replace id:=id.set2 Bj (.slice sd xd.length xd.length) (.bool bd)
   replace ie:=ie.set2 Bj (.slice sd xd.length xd.length) (.bool bd)
   replace hG:=t_ (g:=pj) hG (by omega) (.slice sd xd.length xd.length) (.bool bd)
   replace Ba:=e_ Ba (show w.heap.size ≠ pj by omega) (.slice sd xd.length xd.length) (.bool bd)
   replace Bk:=e_ Bk (show pk ≠ pj by omega) (.slice sd xd.length xd.length) (.bool bd)
   replace Bj:=m_ Bj (.slice sd xd.length xd.length) (.bool bd)
   generalize ((tw5.setCell ⟨pj,0,none⟩ (.slice sd xd.length xd.length)).setCell ⟨pj,1,none⟩ (.bool bd)) = tw6 at *
   refine hKQ.out _ _ (by exact ⟨(c_ Ba).1,(c_ Ba).2.1⟩) (fun hHeld=>?_)
   clear hKQ KQ
   try simp only [ly_]
   refine o1_ 10 rfl (fun KQ hKQ=>?_)
   obtain ⟨c0',c1',c2',c3'⟩:=c_ Bk
   go_simp
   clear c0' c1' c2' c3'
   replace ia:=ia.set2 Bk (.slice se xe.length xe.length) (.bool be)
   replace n1:=n1.set2 Bk (.slice se xe.length xe.length) (.bool be)
   replace id:=id.set2 Bk (.slice se xe.length xe.length) (.bool be)
   replace ie:=ie.set2 Bk (.slice se xe.length xe.length) (.bool be)
   replace hG:=t_ (g:=pk) hG (by omega) (.slice se xe.length xe.length) (.bool be)
   replace Ba:=e_ Ba (show w.heap.size ≠ pk by omega) (.slice se xe.length xe.length) (.bool be)
   replace Bj:=e_ Bj (show pj ≠ pk by omega) (.slice se xe.length xe.length) (.bool be)
   replace Bk:=m_ Bk (.slice se xe.length xe.length) (.bool be)
   generalize ((tw6.setCell ⟨pk,0,none⟩ (.slice se xe.length xe.length)).setCell ⟨pk,1,none⟩ (.bool be)) = tw7 at *
   refine hKQ.out _ _ (by exact ⟨(c_ Ba).1,(c_ Ba).2.1⟩) (fun hHeld=>?_)
   clear hKQ KQ
   try simp only [ly_]
   refine tk_ 11 ?_ rfl ?_ ?_
   rotate_left
   · (intro w hSw; (try dsimp only at hSw); go_simp; (try with_reducible rfl))
   try simp only [ly_]
   refine wpAnyH_done (by kernel_rfl) ?_ _
   go_wp2_with fail
   go_meet
   exact ⟨pk,rfl,⟨_,_,_,Bk,ie⟩,hG⟩)
 case rest =>
  clear hG ia Ba
  obtain ⟨pe,rfl,Ke,hG⟩:=hcut
  obtain ⟨se,xe,be,Be,ie⟩:=Ke.open
  have f1:=HF1.out
  obtain ⟨Ce0,Ce1,Fe0,Fe1⟩:=c_ Be
  go_wp2_with fail
  clear Ce0 Fe0 Ce1 Fe1
  refine (N_ wc _ (x % 2) K ie (by omega) HB2.out.2).mono ?_
  rintro e w1 ⟨rfl,gw1⟩
  rw [HN.out]
  replace Be:=a_ gw1 Be
  replace hG:=d_ hG gw1
  clear gw1
  obtain ⟨Ce0,Ce1,Fe0,Fe1⟩:=c_ Be
  go_wp2_with fail
  go_ret
  exact ⟨rfl,hG⟩
set_option maxHeartbeats 16000000 in
theorem E_ (w : World) (va : Value) (r : Rat) (K : Nat) (Ha : RatV w va r) (hK : 1 ≤ K ∧ K ≤ 400000) (ln : r.num.natAbs < B ^ K) (ld : r.den < B ^ K) :
    Calls Tryz.prog 44 #[va] w (x_ w (bE_ r)):=by
 obtain ⟨q9,hq9⟩ : ∃ q,r.num / (r.den : Int) = q:=⟨_,rfl⟩
 obtain ⟨r9,hr9⟩ : ∃ q,r.num % (r.den : Int) = q:=⟨_,rfl⟩
 obtain ⟨c9,hc9⟩ : ∃ c,bt_ (r9 + r9) (r.den : Int) = c:=⟨_,rfl⟩
 obtain ⟨N9,hN9⟩ : ∃ z,bE_ r = z:=⟨_,rfl⟩
 have hr : N9 = if c9 = -1 then q9 else if c9 = 1 then q9 + 1 else if q9 % 2 = 0 then q9 else q9 + 1:=by
  rw [← hN9]
  unfold bE_
  rw [hq9,hr9,hc9]
 have KEY : Hid ((c9 = -1 ∧ Hid (N9 = q9)) ∨ (c9 = 1 ∧ Hid (N9 = q9 + 1)) ∨ (c9 = 0 ∧ Hid (decide (q9 % 2 = 0) = true) ∧ Hid (N9 = q9)) ∨ (c9 = 0 ∧ Hid (decide (q9 % 2 = 0) = false) ∧ Hid (N9 = q9 + 1))):=by
  have hcc : c9 = -1 ∨ c9 = 1 ∨ c9 = 0:=by
   rw [← hc9]; unfold bt_
   rcases Int.lt_trichotomy (r9 + r9) (r.den : Int) with h | h | h
   · left; rw [if_pos h]
   · right; right; rw [if_neg (by omega),if_pos h]
   · right; left; rw [if_neg (by omega),if_neg (by omega)]
  rcases hcc with h | h | h
  · left; rw [if_pos h] at hr; exact ⟨h,hr⟩
  · right; left; rw [if_neg (by omega),if_pos h] at hr; exact ⟨h,hr⟩
  · right; right
    rw [if_neg (by omega),if_neg (by omega)] at hr
    by_cases h2 : q9 % 2 = 0
    · left; rw [if_pos h2] at hr; exact ⟨h,decide_eq_true h2,hr⟩
    · right; rw [if_neg h2] at hr; exact ⟨h,decide_eq_false h2,hr⟩
 have hqb : q9.natAbs < B ^ K:=by rw [← hq9]; exact Nat.lt_of_le_of_lt (Int.natAbs_ediv_le_natAbs _ _) ln
 have hrb : r9.natAbs < B ^ K:=by
  have h1:=r.den_pos
  have h2:=Int.emod_nonneg r.num (show (r.den : Int) ≠ 0 by omega)
  have h3:=Int.emod_lt_of_pos r.num (show (0 : Int) < (r.den : Int) by omega)
  rw [hr9] at h2 h3
  omega
 have h1b : (1 : Int).natAbs < B ^ K:=Nat.lt_of_lt_of_le (show 1 < B ^ 1 by unfold B; omega) (Nat.pow_le_pow_right T_ hK.1)
 have HD : Hid ((r.den : Int).natAbs < B ^ (K + 1)):=by show _ < _; rw [Int.natAbs_natCast]; exact bw ld (by omega)
 have HB : Hid (q9.natAbs < B ^ K ∧ r9.natAbs < B ^ K ∧ (1 : Int).natAbs < B ^ K ∧ (r9 + r9).natAbs < B ^ (K + 1)):=⟨hqb,hrb,h1b,gf_ hrb hrb⟩
 have HQ : Hid (r.num / (r.den : Int) = q9 ∧ r.num % (r.den : Int) = r9):=⟨hq9,hr9⟩
 have HC:=H_ hc9
 rw [hN9]
 clear hq9 hr9 hc9 hqb hrb h1b hr hN9
 have Hln:=H_ ln
 have Hld:=H_ ld
 clear ln ld
 obtain ⟨sa,xa,ba,sa',xa',ba',rfl,ha,ha'⟩:=Ha
 obtain ⟨hG,Ba,Bq⟩:=en2_ w (.cells #[.slice sa xa.length xa.length,.bool ba,.slice sa' xa'.length xa'.length,.bool ba'] 28) (.cells #[.slice none 0 0,.bool false] 26)
 have oa : RatV w (.agg #[.slice sa xa.length xa.length,.bool ba,.slice sa' xa'.length xa'.length,.bool ba']) (r):=⟨sa,xa,ba,sa',xa',ba',rfl,ha,ha'⟩
 have qa:=oa.kept hG
 clear ha ha'
 go_enter Tryz.func44,Tryz.ntmps44
 obtain ⟨Ca0,Ca1,Ca2,Ca3,Fa0,Fa1,Fa2,Fa3⟩:=b_ Ba
 obtain ⟨Cq0,Cq1,Fq0,Fq1⟩:=c_ Bq
 go_wp2_with fail
 generalize ((w.alloc (.cells #[.slice sa xa.length xa.length,.bool ba,.slice sa' xa'.length xa'.length,.bool ba'] 28)).alloc (.cells #[.slice none 0 0,.bool false] 26)) = w0 at *
 clear Ca0 Fa0 Ca1 Fa1 Ca2 Fa2 Ca3 Fa3 Cq0 Fq0 Cq1 Fq1
 refine (eT_ w0 _ r K qa (by omega) Hln.out Hld.out).mono ?_
 rintro e w1 ⟨_,_,rfl,⟨sd,xd,bd,rfl,hd,vd,td⟩,⟨se,xe,be,rfl,he,ve,te⟩,gw1⟩
 rw [HQ.out.1] at vd td
 rw [HQ.out.2] at ve te
 have id : IntV w1 (.agg #[.slice sd xd.length xd.length,.bool bd]) (q9):=⟨sd,xd,bd,rfl,hd,vd,td⟩
 have ie : IntV w1 (.agg #[.slice se xe.length xe.length,.bool be]) (r9):=⟨se,xe,be,rfl,he,ve,te⟩
 replace Ba:=a_ gw1 Ba
 replace Bq:=a_ gw1 Bq
 replace qa:=qa.kept gw1
 replace hG:=d_ hG gw1
 clear gw1
 clear hd vd td
 clear he ve te
 obtain ⟨Ca0,Ca1,Ca2,Ca3,Fa0,Fa1,Fa2,Fa3⟩:=b_ Ba
 obtain ⟨Cq0,Cq1,Fq0,Fq1⟩:=c_ Bq
 have gbw1:=(l_ (wg_ w1 (.cells #[.slice sd xd.length xd.length,.bool bd] 26) none) (.cells #[.slice se xe.length xe.length,.bool be] 26))
 have Bd:=a_ (wg_ _ (.cells #[.slice se xe.length xe.length,.bool be] 26) none) (f_ w1 (.cells #[.slice sd xd.length xd.length,.bool bd] 26) (w1.heap.size) rfl)
 have Be:=(f_ (w1.alloc (.cells #[.slice sd xd.length xd.length,.bool bd] 26)) (.cells #[.slice se xe.length xe.length,.bool be] 26) (w1.heap.size + 1) (by simp))
 have hzw1 : Hid (w.heap.size ≤ w1.heap.size):=H_ hG.size
 have hlaw1 : Hid (w.heap.size < w1.heap.size):=H_ (Array.getElem?_eq_some_iff.1 Ba).1
 have hlqw1 : Hid (w.heap.size + 1 < w1.heap.size):=H_ (Array.getElem?_eq_some_iff.1 Bq).1
 clear Ca0 Fa0 Ca1 Fa1 Ca2 Fa2 Ca3 Fa3 Cq0 Fq0 Cq1 Fq1
 replace Ba:=a_ gbw1 Ba
 replace Bq:=a_ gbw1 Bq
 replace qa:=qa.kept gbw1
 replace id:=id.kept gbw1
 replace ie:=ie.kept gbw1
 replace hG:=d_ hG gbw1
 clear gbw1
 obtain ⟨Ca0,Ca1,Ca2,Ca3,Fa0,Fa1,Fa2,Fa3⟩:=b_ Ba
 obtain ⟨Cq0,Cq1,Fq0,Fq1⟩:=c_ Bq
 obtain ⟨Cd0,Cd1,Fd0,Fd1⟩:=c_ Bd
 obtain ⟨Ce0,Ce1,Fe0,Fe1⟩:=c_ Be
 go_wp2_with fail
 generalize ((w1.alloc (.cells #[.slice sd xd.length xd.length,.bool bd] 26)).alloc (.cells #[.slice se xe.length xe.length,.bool be] 26)) = w2 at *
 generalize w1.heap.size = aw1 at *
 replace hzw1:=hzw1.out
 replace hlaw1:=hlaw1.out
 replace hlqw1:=hlqw1.out
 have HG0:=H_ hG
 have Ha9:=H_ Ba
 have Hd9:=H_ Bd
 have He9:=H_ Be
 have Hq9:=H_ Bq
 have I9 : Hid (RatV w2 (.agg #[.slice sa xa.length xa.length,.bool ba,.slice sa' xa'.length xa'.length,.bool ba']) r ∧ IntV w2 (.agg #[.slice sd xd.length xd.length,.bool bd]) q9 ∧ IntV w2 (.agg #[.slice se xe.length xe.length,.bool be]) r9):=⟨qa,id,ie⟩
 have hX : w2.grownBy w2 none:=h_ _ _
 have hs0 : w.heap.size + 1 < w2.heap.size:=(Array.getElem?_eq_some_iff.1 Bq).1
 go_cut [5] (fun p wx=>∃ ph,p = .pointer (some ⟨ph,0,none⟩) ∧ BoxZ wx ph (q9 + 1) ∧ w.heap.size ≤ ph ∧ w2.grownBy wx none)
 case first =>
  clear Ca0 Fa0 Ca1 Fa1 Ca2 Fa2 Ca3 Fa3 Cq0 Fq0 Cq1 Fq1 Cd0 Fd0 Cd1 Fd1 Ce0 Fe0 Ce1 Fe1
  clear Ba Bq Be
  clear qa ie
  obtain ⟨Cd0,Cd1,Fd0,Fd1⟩:=c_ Bd
  refine wp_region_held_drew (S:=fun w'=>w'.cell? ⟨aw1,0,none⟩ = some (.slice sd xd.length xd.length) ∧ w'.cell? ⟨aw1,1,none⟩ = some (.bool bd)) (by kernel_rfl) (by exact ⟨Cd0,Cd1⟩) (fun hHeld=>?_)
  have gd : w2.grownBy w2.drew none:=k_ (h_ _ _)
  clear Cd0 Fd0 Cd1 Fd1
  replace Bd:=a_ gd Bd
  replace id:=id.kept gd
  replace hG:=d_ hG gd
  replace hX:=d_ hX gd
  clear gd
  generalize w2.drew = tw3 at *
  refine tk_ 0 ?_ rfl ?_ ?_
  rotate_left
  · (intro w hSw; (try dsimp only at hSw); go_simp; (try with_reducible rfl))
  try simp only [ly_]
  refine wpAnyH_ready (rs:=[1,3]) (by kernel_rfl) (by simp) ?_
  refine AllReadyH.cons rfl (fun KQ hKQ=>?_) (AllReadyH.cons rfl (fun KQ hKQ=>?_) AllReadyH.nil)
  focus
   go_simp
   go_at_call 24
   refine (ak_ tw3 1 (by omega) (by omega)).mono ?_
   rintro e tw4 ⟨v1,rfl,n1,gtw4⟩
   replace Bd:=a_ gtw4 Bd
   replace id:=id.kept gtw4
   replace hG:=d_ hG gtw4
   replace hX:=d_ hX gtw4
   clear gtw4
   (try go_wp2_with fail)
   refine hKQ.out _ _ (by exact ⟨(c_ Bd).1,(c_ Bd).2.1⟩) (fun hHeld=>?_)
   clear hKQ KQ
   try simp only [ly_]
   refine wpAnyH_ready (rs:=[2,3]) (by kernel_rfl) (by simp) ?_
   refine AllReadyH.cons rfl (fun KQ hKQ=>?_) (AllReadyH.cons rfl (fun KQ hKQ=>?_) AllReadyH.nil)
   focus
    go_simp
    go_at_call 49
    refine (aP_ tw4 _ _ q9 1 K id n1 (by omega) HB.out.1 HB.out.2.2.1).mono ?_
    rintro e tw5 ⟨_,rfl,⟨sh,xh,bh,rfl,hh,vh,th⟩,gtw5⟩
    have ih : IntV tw5 (.agg #[.slice sh xh.length xh.length,.bool bh]) (q9 + 1):=⟨sh,xh,bh,rfl,hh,vh,th⟩
    replace Bd:=a_ gtw5 Bd
    replace id:=id.kept gtw5
    replace n1:=n1.kept gtw5
    replace hG:=d_ hG gtw5
    replace hX:=d_ hX gtw5
    clear gtw5
    clear hh vh th
    (try go_wp2_with fail)
    refine hKQ.out _ _ (by exact ⟨(c_ Bd).1,(c_ Bd).2.1⟩) (fun hHeld=>?_)
    clear hKQ KQ
    try simp only [ly_]
    refine o1_ 3 rfl (fun KQ hKQ=>?_)
    have gA:=wg_ tw5 (.cells #[.slice none 0 0,.bool false] 26) none
    have lohGk : w.heap.size ≤ tw5.heap.size:=hG.size
    have lohXk : w2.heap.size ≤ tw5.heap.size:=hX.size
    have ltdk : aw1 < tw5.heap.size:=g_ Bd
    have Bk_:=f_ tw5 (.cells #[.slice none 0 0,.bool false] 26) tw5.heap.size rfl
    replace Bd:=a_ gA Bd
    replace id:=id.kept gA
    replace n1:=n1.kept gA
    replace ih:=ih.kept gA
    replace hG:=d_ hG gA
    replace hX:=d_ hX gA
    clear gA
    go_simp
    generalize (tw5.alloc (.cells #[.slice none 0 0,.bool false] 26)) = tw6 at *
    generalize tw5.heap.size = pk at *
    have Bk:=Bk_
    clear Bk_
    refine hKQ.out _ _ (by exact ⟨(c_ Bd).1,(c_ Bd).2.1⟩) (fun hHeld=>?_)
    clear hKQ KQ
    try simp only [ly_]
   rotate_left 1
   focus
    have gA:=wg_ tw4 (.cells #[.slice none 0 0,.bool false] 26) none
    have lohGk : w.heap.size ≤ tw4.heap.size:=hG.size
    have lohXk : w2.heap.size ≤ tw4.heap.size:=hX.size
    have ltdk : aw1 < tw4.heap.size:=g_ Bd
    have Bk_:=f_ tw4 (.cells #[.slice none 0 0,.bool false] 26) tw4.heap.size rfl
    replace Bd:=a_ gA Bd
    replace id:=id.kept gA
    replace n1:=n1.kept gA
    replace hG:=d_ hG gA
    replace hX:=d_ hX gA
    clear gA
    go_simp
    generalize (tw4.alloc (.cells #[.slice none 0 0,.bool false] 26)) = tw5 at *
    generalize tw4.heap.size = pk at *
    have Bk:=Bk_
    clear Bk_
    refine hKQ.out _ _ (by exact ⟨(c_ Bd).1,(c_ Bd).2.1⟩) (fun hHeld=>?_)
    clear hKQ KQ
    try simp only [ly_]
    refine o1_ 2 rfl (fun KQ hKQ=>?_)
    go_simp
    go_at_call 49
    refine (aP_ tw5 _ _ q9 1 K id n1 (by omega) HB.out.1 HB.out.2.2.1).mono ?_
    rintro e tw6 ⟨_,rfl,⟨sh,xh,bh,rfl,hh,vh,th⟩,gtw6⟩
    have ih : IntV tw6 (.agg #[.slice sh xh.length xh.length,.bool bh]) (q9 + 1):=⟨sh,xh,bh,rfl,hh,vh,th⟩
    replace Bd:=a_ gtw6 Bd
    replace Bk:=a_ gtw6 Bk
    replace id:=id.kept gtw6
    replace n1:=n1.kept gtw6
    replace hG:=d_ hG gtw6
    replace hX:=d_ hX gtw6
    clear gtw6
    clear hh vh th
    (try go_wp2_with fail)
    refine hKQ.out _ _ (by exact ⟨(c_ Bd).1,(c_ Bd).2.1⟩) (fun hHeld=>?_)
    clear hKQ KQ
    try simp only [ly_]
   rotate_left 1
  rotate_left 2
  focus
   have gA:=wg_ tw3 (.cells #[.slice none 0 0,.bool false] 26) none
   have lohGk : w.heap.size ≤ tw3.heap.size:=hG.size
   have lohXk : w2.heap.size ≤ tw3.heap.size:=hX.size
   have ltdk : aw1 < tw3.heap.size:=g_ Bd
   have Bk_:=f_ tw3 (.cells #[.slice none 0 0,.bool false] 26) tw3.heap.size rfl
   replace Bd:=a_ gA Bd
   replace id:=id.kept gA
   replace hG:=d_ hG gA
   replace hX:=d_ hX gA
   clear gA
   go_simp
   generalize (tw3.alloc (.cells #[.slice none 0 0,.bool false] 26)) = tw4 at *
   generalize tw3.heap.size = pk at *
   have Bk:=Bk_
   clear Bk_
   refine hKQ.out _ _ (by exact ⟨(c_ Bd).1,(c_ Bd).2.1⟩) (fun hHeld=>?_)
   clear hKQ KQ
   try simp only [ly_]
   refine o1_ 1 rfl (fun KQ hKQ=>?_)
   go_simp
   go_at_call 24
   refine (ak_ tw4 1 (by omega) (by omega)).mono ?_
   rintro e tw5 ⟨v1,rfl,n1,gtw5⟩
   replace Bd:=a_ gtw5 Bd
   replace Bk:=a_ gtw5 Bk
   replace id:=id.kept gtw5
   replace hG:=d_ hG gtw5
   replace hX:=d_ hX gtw5
   clear gtw5
   (try go_wp2_with fail)
   refine hKQ.out _ _ (by exact ⟨(c_ Bd).1,(c_ Bd).2.1⟩) (fun hHeld=>?_)
   clear hKQ KQ
   try simp only [ly_]
   refine o1_ 2 rfl (fun KQ hKQ=>?_)
   go_simp
   go_at_call 49
   refine (aP_ tw5 _ _ q9 1 K id n1 (by omega) HB.out.1 HB.out.2.2.1).mono ?_
   rintro e tw6 ⟨_,rfl,⟨sh,xh,bh,rfl,hh,vh,th⟩,gtw6⟩
   have ih : IntV tw6 (.agg #[.slice sh xh.length xh.length,.bool bh]) (q9 + 1):=⟨sh,xh,bh,rfl,hh,vh,th⟩
   replace Bd:=a_ gtw6 Bd
   replace Bk:=a_ gtw6 Bk
   replace id:=id.kept gtw6
   replace n1:=n1.kept gtw6
   replace hG:=d_ hG gtw6
   replace hX:=d_ hX gtw6
   clear gtw6
   clear hh vh th
   (try go_wp2_with fail)
   refine hKQ.out _ _ (by exact ⟨(c_ Bd).1,(c_ Bd).2.1⟩) (fun hHeld=>?_)
   clear hKQ KQ
   try simp only [ly_]
  rotate_left 1
  all_goals (
   refine o1_ 4 rfl (fun KQ hKQ=>?_)
   obtain ⟨c0',c1',c2',c3'⟩:=c_ Bk
   go_simp
   clear c0' c1' c2' c3'
   replace id:=id.set2 Bk (.slice sh xh.length xh.length) (.bool bh)
   replace n1:=n1.set2 Bk (.slice sh xh.length xh.length) (.bool bh)
   replace ih:=ih.set2 Bk (.slice sh xh.length xh.length) (.bool bh)
   replace hG:=t_ (g:=pk) hG (by omega) (.slice sh xh.length xh.length) (.bool bh)
   replace hX:=t_ (g:=pk) hX (by omega) (.slice sh xh.length xh.length) (.bool bh)
   replace Bd:=e_ Bd (show aw1 ≠ pk by omega) (.slice sh xh.length xh.length) (.bool bh)
   replace Bk:=m_ Bk (.slice sh xh.length xh.length) (.bool bh)
   generalize ((tw6.setCell ⟨pk,0,none⟩ (.slice sh xh.length xh.length)).setCell ⟨pk,1,none⟩ (.bool bh)) = tw7 at *
   refine hKQ.out _ _ (by exact ⟨(c_ Bd).1,(c_ Bd).2.1⟩) (fun hHeld=>?_)
   clear hKQ KQ
   try simp only [ly_]
   refine wpAnyH_done (by kernel_rfl) ?_ _
   go_wp2_with fail
   go_meet
   exact ⟨pk,rfl,⟨_,_,_,Bk,ih⟩,by omega,hX⟩)
 case rest =>
  clear hG hX hs0 qa id ie Ba Bq Bd Be
  obtain ⟨ph,rfl,Kh,lh,hX⟩:=hcut
  obtain ⟨sh,xh,bh,Bh,ih⟩:=Kh.open
  have hG:=d_ HG0.out hX
  have Ba:=a_ hX Ha9.out
  have Bd:=a_ hX Hd9.out
  have Be:=a_ hX He9.out
  have Bq:=a_ hX Hq9.out
  have qa:=I9.out.1.kept hX
  have id:=I9.out.2.1.kept hX
  have ie:=I9.out.2.2.kept hX
  clear hX
  obtain ⟨Ca0,Ca1,Ca2,Ca3,Fa0,Fa1,Fa2,Fa3⟩:=b_ Ba
  obtain ⟨Cd0,Cd1,Fd0,Fd1⟩:=c_ Bd
  obtain ⟨Ce0,Ce1,Fe0,Fe1⟩:=c_ Be
  obtain ⟨Cq0,Cq1,Fq0,Fq1⟩:=c_ Bq
  obtain ⟨Ch0,Ch1,Fh0,Fh1⟩:=c_ Bh
  go_wp2_with fail
  go_region_held3 (fun w'=>w'.cell? ⟨aw1 + 1,0,none⟩ = some (.slice se xe.length xe.length) ∧ w'.cell? ⟨aw1 + 1,1,none⟩ = some (.bool be) ∧ w'.cell? ⟨w.heap.size,0,none⟩ = some (.slice sa xa.length xa.length) ∧ w'.cell? ⟨w.heap.size,1,none⟩ = some (.bool ba) ∧ w'.cell? ⟨w.heap.size,2,none⟩ = some (.slice sa' xa'.length xa'.length) ∧ w'.cell? ⟨w.heap.size,3,none⟩ = some (.bool ba'))
   (first | assumption | exact ⟨Ce0,Ce1,Ca0,Ca1,Ca2,Ca3⟩ | go_keep)
   (first
     | (go_at_call 49; (with_reducible refine (aP_ wc.drew _ _ r9 r9 K (ie.kept (k_ (h_ _ _))) (ie.kept (k_ (h_ _ _))) (by omega) HB.out.2.1 HB.out.2.1).mono ?_); rintro e w3_1 ⟨v1,rfl,n1,gw3_1⟩; have hGw3_1:=o_ wc gw3_1 rfl rfl rfl rfl; have hSw3_1:=(n_ (hGw3_1.cell Ce0 (by simp)) (n_ (hGw3_1.cell Ce1 (by simp)) (n_ (hGw3_1.cell Ca0 (by simp)) (n_ (hGw3_1.cell Ca1 (by simp)) (n_ (hGw3_1.cell Ca2 (by simp)) (hGw3_1.cell Ca3 (by simp))))))); clear gw3_1)
     | (go_at_call 66; (with_reducible refine (u_ w3_1 _ r K (qa.kept hGw3_1) (by omega) Hld.out).mono ?_); rintro e w3_2 ⟨v2,rfl,n2,gw3_2⟩; have hGw3_2:=d_ hGw3_1 gw3_2; replace n1:=n1.kept gw3_2; have hSw3_2:=(n_ (hGw3_2.cell Ce0 (by simp)) (n_ (hGw3_2.cell Ce1 (by simp)) (n_ (hGw3_2.cell Ca0 (by simp)) (n_ (hGw3_2.cell Ca1 (by simp)) (n_ (hGw3_2.cell Ca2 (by simp)) (hGw3_2.cell Ca3 (by simp))))))); clear gw3_2)
     | (go_at_call 48; (with_reducible refine (bw_ w3_2 _ _ (r9 + r9) (r.den : Int) (K + 1) n1 n2 (by omega) HB.out.2.2.2 HD.out).mono ?_); rintro e w3_3 ⟨rfl,gw3_3⟩; rw [HC.out]; have hGw3_3:=d_ hGw3_2 gw3_3; replace n1:=n1.kept gw3_3; replace n2:=n2.kept gw3_3; have hSw3_3:=(n_ (hGw3_3.cell Ce0 (by simp)) (n_ (hGw3_3.cell Ce1 (by simp)) (n_ (hGw3_3.cell Ca0 (by simp)) (n_ (hGw3_3.cell Ca1 (by simp)) (n_ (hGw3_3.cell Ca2 (by simp)) (hGw3_3.cell Ca3 (by simp))))))); clear gw3_3))
  replace Ba:=a_ hGw3_3 Ba
  replace Bd:=a_ hGw3_3 Bd
  replace Be:=a_ hGw3_3 Be
  replace Bq:=a_ hGw3_3 Bq
  replace Bh:=a_ hGw3_3 Bh
  replace id:=id.kept hGw3_3
  replace ih:=ih.kept hGw3_3
  replace hG:=d_ hG hGw3_3
  clear Ca0 Fa0 Ca1 Fa1 Ca2 Fa2 Ca3 Fa3 Cd0 Fd0 Cd1 Fd1 Ce0 Fe0 Ce1 Fe1 Cq0 Fq0 Cq1 Fq1 Ch0 Fh0 Ch1 Fh1
  rcases KEY.out with ⟨hc,HR⟩ | ⟨hc,HR⟩ | ⟨hc,HSG,HR⟩ | ⟨hc,HSG,HR⟩
  · skip
    subst hc
    obtain ⟨Cd0,Cd1,Fd0,Fd1⟩:=c_ Bd
    obtain ⟨Ch0,Ch1,Fh0,Fh1⟩:=c_ Bh
    have iN : IntV w3_3 (.agg #[.slice sd xd.length xd.length,.bool bd]) N9:=by rw [HR.out]; exact id
    clear Cd0 Fd0 Cd1 Fd1 Ch0 Fh0 Ch1 Fh1
    obtain ⟨k90,k91,k92,k93⟩:=c_ Bq
    obtain ⟨q90,q91,q92,q93⟩:=c_ (m_ Bq (.slice sd xd.length xd.length) (.bool bd))
    have hF : Hid (x_ w (N9) (.returned (.agg #[.slice sd xd.length xd.length,.bool bd])) ((w3_3.setCell ⟨w.heap.size + 1,0,none⟩ (.slice sd xd.length xd.length)).setCell ⟨w.heap.size + 1,1,none⟩ (.bool bd))):=ao_ hG Bq (by omega) iN
    clear qa id ie ih iN
    obtain ⟨Cd0,Cd1,Fd0,Fd1⟩:=c_ Bd
    go_wp2_with fail
    exact bodyPost_ret (v:=.agg #[.slice sd xd.length xd.length,.bool bd]) (by simp [results,Tryz.results44,go_sem,q90,q91]) rfl hF.out
  · skip
    subst hc
    obtain ⟨Cd0,Cd1,Fd0,Fd1⟩:=c_ Bd
    obtain ⟨Ch0,Ch1,Fh0,Fh1⟩:=c_ Bh
    have iN : IntV w3_3 (.agg #[.slice sh xh.length xh.length,.bool bh]) N9:=by rw [HR.out]; exact ih
    clear Cd0 Fd0 Cd1 Fd1 Ch0 Fh0 Ch1 Fh1
    obtain ⟨k90,k91,k92,k93⟩:=c_ Bq
    obtain ⟨q90,q91,q92,q93⟩:=c_ (m_ Bq (.slice sh xh.length xh.length) (.bool bh))
    have hF : Hid (x_ w (N9) (.returned (.agg #[.slice sh xh.length xh.length,.bool bh])) ((w3_3.setCell ⟨w.heap.size + 1,0,none⟩ (.slice sh xh.length xh.length)).setCell ⟨w.heap.size + 1,1,none⟩ (.bool bh))):=ao_ hG Bq (by omega) iN
    clear qa id ie ih iN
    obtain ⟨Ch0,Ch1,Fh0,Fh1⟩:=c_ Bh
    go_wp2_with fail
    exact bodyPost_ret (v:=.agg #[.slice sh xh.length xh.length,.bool bh]) (by simp [results,Tryz.results44,go_sem,q90,q91]) rfl hF.out
  · skip
    subst hc
    obtain ⟨Ca0,Ca1,Ca2,Ca3,Fa0,Fa1,Fa2,Fa3⟩:=b_ Ba
    obtain ⟨Cd0,Cd1,Fd0,Fd1⟩:=c_ Bd
    obtain ⟨Ce0,Ce1,Fe0,Fe1⟩:=c_ Be
    obtain ⟨Cq0,Cq1,Fq0,Fq1⟩:=c_ Bq
    obtain ⟨Ch0,Ch1,Fh0,Fh1⟩:=c_ Bh
    go_wp2_with fail
    clear Ca0 Fa0 Ca1 Fa1 Ca2 Fa2 Ca3 Fa3 Cd0 Fd0 Cd1 Fd1 Ce0 Fe0 Ce1 Fe1 Cq0 Fq0 Cq1 Fq1 Ch0 Fh0 Ch1 Fh1
    refine (gc_ w3_3 _ q9 K id (by omega) HB.out.1).mono ?_
    rintro e n2w4 ⟨rfl,gn2w4⟩
    rw [HSG.out]
    replace Ba:=a_ gn2w4 Ba
    replace Bd:=a_ gn2w4 Bd
    replace Be:=a_ gn2w4 Be
    replace Bq:=a_ gn2w4 Bq
    replace Bh:=a_ gn2w4 Bh
    replace id:=id.kept gn2w4
    replace hG:=d_ hG gn2w4
    clear gn2w4
    obtain ⟨Ca0,Ca1,Ca2,Ca3,Fa0,Fa1,Fa2,Fa3⟩:=b_ Ba
    obtain ⟨Cd0,Cd1,Fd0,Fd1⟩:=c_ Bd
    obtain ⟨Ce0,Ce1,Fe0,Fe1⟩:=c_ Be
    obtain ⟨Cq0,Cq1,Fq0,Fq1⟩:=c_ Bq
    obtain ⟨Ch0,Ch1,Fh0,Fh1⟩:=c_ Bh
    have iN : IntV n2w4 (.agg #[.slice sd xd.length xd.length,.bool bd]) N9:=by rw [HR.out]; exact id
    clear Ca0 Fa0 Ca1 Fa1 Ca2 Fa2 Ca3 Fa3 Cd0 Fd0 Cd1 Fd1 Ce0 Fe0 Ce1 Fe1 Cq0 Fq0 Cq1 Fq1 Ch0 Fh0 Ch1 Fh1
    obtain ⟨k90,k91,k92,k93⟩:=c_ Bq
    obtain ⟨q90,q91,q92,q93⟩:=c_ (m_ Bq (.slice sd xd.length xd.length) (.bool bd))
    have hF : Hid (x_ w (N9) (.returned (.agg #[.slice sd xd.length xd.length,.bool bd])) ((n2w4.setCell ⟨w.heap.size + 1,0,none⟩ (.slice sd xd.length xd.length)).setCell ⟨w.heap.size + 1,1,none⟩ (.bool bd))):=ao_ hG Bq (by omega) iN
    clear qa id ie ih iN
    obtain ⟨Cd0,Cd1,Fd0,Fd1⟩:=c_ Bd
    go_wp2_with fail
    exact bodyPost_ret (v:=.agg #[.slice sd xd.length xd.length,.bool bd]) (by simp [results,Tryz.results44,go_sem,q90,q91]) rfl hF.out
  · skip
    subst hc
    obtain ⟨Ca0,Ca1,Ca2,Ca3,Fa0,Fa1,Fa2,Fa3⟩:=b_ Ba
    obtain ⟨Cd0,Cd1,Fd0,Fd1⟩:=c_ Bd
    obtain ⟨Ce0,Ce1,Fe0,Fe1⟩:=c_ Be
    obtain ⟨Cq0,Cq1,Fq0,Fq1⟩:=c_ Bq
    obtain ⟨Ch0,Ch1,Fh0,Fh1⟩:=c_ Bh
    go_wp2_with fail
    clear Ca0 Fa0 Ca1 Fa1 Ca2 Fa2 Ca3 Fa3 Cd0 Fd0 Cd1 Fd1 Ce0 Fe0 Ce1 Fe1 Cq0 Fq0 Cq1 Fq1 Ch0 Fh0 Ch1 Fh1
    refine (gc_ w3_3 _ q9 K id (by omega) HB.out.1).mono ?_
    rintro e n3w4 ⟨rfl,gn3w4⟩
    rw [HSG.out]
    replace Ba:=a_ gn3w4 Ba
    replace Bd:=a_ gn3w4 Bd
    replace Be:=a_ gn3w4 Be
    replace Bq:=a_ gn3w4 Bq
    replace Bh:=a_ gn3w4 Bh
    replace ih:=ih.kept gn3w4
    replace hG:=d_ hG gn3w4
    clear gn3w4
    obtain ⟨Ca0,Ca1,Ca2,Ca3,Fa0,Fa1,Fa2,Fa3⟩:=b_ Ba
    obtain ⟨Cd0,Cd1,Fd0,Fd1⟩:=c_ Bd
    obtain ⟨Ce0,Ce1,Fe0,Fe1⟩:=c_ Be
    obtain ⟨Cq0,Cq1,Fq0,Fq1⟩:=c_ Bq
    obtain ⟨Ch0,Ch1,Fh0,Fh1⟩:=c_ Bh
    have iN : IntV n3w4 (.agg #[.slice sh xh.length xh.length,.bool bh]) N9:=by rw [HR.out]; exact ih
    clear Ca0 Fa0 Ca1 Fa1 Ca2 Fa2 Ca3 Fa3 Cd0 Fd0 Cd1 Fd1 Ce0 Fe0 Ce1 Fe1 Cq0 Fq0 Cq1 Fq1 Ch0 Fh0 Ch1 Fh1
    obtain ⟨k90,k91,k92,k93⟩:=c_ Bq
    obtain ⟨q90,q91,q92,q93⟩:=c_ (m_ Bq (.slice sh xh.length xh.length) (.bool bh))
    have hF : Hid (x_ w (N9) (.returned (.agg #[.slice sh xh.length xh.length,.bool bh])) ((n3w4.setCell ⟨w.heap.size + 1,0,none⟩ (.slice sh xh.length xh.length)).setCell ⟨w.heap.size + 1,1,none⟩ (.bool bh))):=ao_ hG Bq (by omega) iN
    clear qa id ie ih iN
    obtain ⟨Ch0,Ch1,Fh0,Fh1⟩:=c_ Bh
    go_wp2_with fail
    exact bodyPost_ret (v:=.agg #[.slice sh xh.length xh.length,.bool bh]) (by simp [results,Tryz.results44,go_sem,q90,q91]) rfl hF.out
end Go.Proofs.YtgbbdgioohaknaaGreatDoor
