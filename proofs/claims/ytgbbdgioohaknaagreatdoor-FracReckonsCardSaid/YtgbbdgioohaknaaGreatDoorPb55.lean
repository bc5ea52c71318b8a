/- What the laws lean on, part 55. -/
import Derived.Deep.RegionHeld3
import Derived.Deep.CutRange
import Derived.Test.YtgbbdgioohaknaaGreatDoorPb21
import Derived.Test.YtgbbdgioohaknaaGreatDoorPb36
import Derived.Test.YtgbbdgioohaknaaGreatDoorPb54
namespace Go.Proofs.YtgbbdgioohaknaaGreatDoor
open Go.RowKit Mat
set_option maxRecDepth 100000
set_option linter.unusedVariables false
set_option linter.unusedSimpArgs false
theorem hw_ {a b : Rat} (ha : a.den = 1) (hb : b.den = 1) : (a * b).num = a.num * b.num ∧ dn (a * b) = 0:=by
 constructor
 · rw [gO_,ha,hb]; simp
 · unfold dn; rw [if_pos (by rw [gP_,ha,hb]; simp)]
set_option maxHeartbeats 16000000 in
theorem ag_ (w : World) (va vb : Value) (r t : Rat) (K : Nat) (Ha : RatV w va r) (Hb : RatV w vb t) (hK : K ≤ 300000) (ln : r.num.natAbs < B ^ K) (ld : r.den < B ^ K) (mn : t.num.natAbs < B ^ K) (md : t.den < B ^ K) (hTab : Tab w) :
    Calls Tryz.prog 37 #[va,vb] w (aa_ w (r * t)):=by
 have HTB : Hid (∀ W,w.grownBy W none → Tab W):=fun W hW=>hTab.kept hW (by simp)
 clear hTab
 have Hln:=H_ ln
 have Hld:=H_ ld
 have Hmn:=H_ mn
 have Hmd:=H_ md
 clear ln ld mn md
 have HRW : Hid (r.den = 1 → t.den = 1 → (r * t).num = r.num * t.num ∧ dn (r * t) = 0):=fun h1 h2=>hw_ h1 h2
 have hg : (decide (r.den = 1) = true ∧ decide (t.den = 1) = true) ∨ (decide (r.den = 1) = true ∧ decide (t.den = 1) = false) ∨ decide (r.den = 1) = false:=by
  by_cases h1 : r.den = 1
  · by_cases h2 : t.den = 1
    · left; exact ⟨decide_eq_true h1,decide_eq_true h2⟩
    · right; left; exact ⟨decide_eq_true h1,decide_eq_false h2⟩
  · right; right; exact decide_eq_false h1
 obtain ⟨o1,ho1⟩ : ∃ o,decide (r.den = 1) = o:=⟨_,rfl⟩
 obtain ⟨o2,ho2⟩ : ∃ o,decide (t.den = 1) = o:=⟨_,rfl⟩
 rw [ho1,ho2] at hg
 have HO1:=H_ ho1
 have HO2:=H_ ho2
 clear ho1 ho2
 rcases hg with ⟨rfl,rfl⟩ | ⟨rfl,rfl⟩ | rfl
 · skip
   obtain ⟨sa,xa,ba,sa',xa',ba',rfl,ha,ha'⟩:=Ha
   obtain ⟨sb,xb,bb,sb',xb',bb',rfl,hb,hb'⟩:=Hb
   obtain ⟨hG,Ba,Bb,Bq⟩:=en3_ w (.cells #[.slice sa xa.length xa.length,.bool ba,.slice sa' xa'.length xa'.length,.bool ba'] 28) (.cells #[.slice sb xb.length xb.length,.bool bb,.slice sb' xb'.length xb'.length,.bool bb'] 28) (.cells #[.slice none 0 0,.bool false,.slice none 0 0,.bool false] 28)
   have oa : RatV w (.agg #[.slice sa xa.length xa.length,.bool ba,.slice sa' xa'.length xa'.length,.bool ba']) (r):=⟨sa,xa,ba,sa',xa',ba',rfl,ha,ha'⟩
   have qa:=oa.kept hG
   have ia:=(show IntV w (.agg #[.slice sa xa.length xa.length,.bool ba]) (r).num from ha).kept hG
   have ia':=(show IntV w (.agg #[.slice sa' xa'.length xa'.length,.bool ba']) (dn (r)) from ha').kept hG
   have ob : RatV w (.agg #[.slice sb xb.length xb.length,.bool bb,.slice sb' xb'.length xb'.length,.bool bb']) (t):=⟨sb,xb,bb,sb',xb',bb',rfl,hb,hb'⟩
   have qb:=ob.kept hG
   have ib:=(show IntV w (.agg #[.slice sb xb.length xb.length,.bool bb]) (t).num from hb).kept hG
   have ib':=(show IntV w (.agg #[.slice sb' xb'.length xb'.length,.bool bb']) (dn (t)) from hb').kept hG
   clear ha ha'
   clear hb hb'
   go_enter Tryz.func37,Tryz.ntmps37
   obtain ⟨Ca0,Ca1,Ca2,Ca3,Fa0,Fa1,Fa2,Fa3⟩:=b_ Ba
   obtain ⟨Cb0,Cb1,Cb2,Cb3,Fb0,Fb1,Fb2,Fb3⟩:=b_ Bb
   obtain ⟨Cq0,Cq1,Cq2,Cq3,Fq0,Fq1,Fq2,Fq3⟩:=b_ Bq
   go_wp2_with fail
   generalize (((w.alloc (.cells #[.slice sa xa.length xa.length,.bool ba,.slice sa' xa'.length xa'.length,.bool ba'] 28)).alloc (.cells #[.slice sb xb.length xb.length,.bool bb,.slice sb' xb'.length xb'.length,.bool bb'] 28)).alloc (.cells #[.slice none 0 0,.bool false,.slice none 0 0,.bool false] 28)) = w0 at *
   clear Ca0 Fa0 Ca1 Fa1 Ca2 Fa2 Ca3 Fa3 Cb0 Fb0 Cb1 Fb1 Cb2 Fb2 Cb3 Fb3 Cq0 Fq0 Cq1 Fq1 Cq2 Fq2 Cq3 Fq3
   refine (B_ w0 _ r K qa (by omega) Hld.out).mono ?_
   rintro e c0w1 ⟨rfl,gc0w1⟩
   rw [HO1.out]
   replace Ba:=a_ gc0w1 Ba
   replace Bb:=a_ gc0w1 Bb
   replace Bq:=a_ gc0w1 Bq
   replace ia:=ia.kept gc0w1
   replace qb:=qb.kept gc0w1
   replace ib:=ib.kept gc0w1
   replace hG:=d_ hG gc0w1
   clear gc0w1
   obtain ⟨Ca0,Ca1,Ca2,Ca3,Fa0,Fa1,Fa2,Fa3⟩:=b_ Ba
   obtain ⟨Cb0,Cb1,Cb2,Cb3,Fb0,Fb1,Fb2,Fb3⟩:=b_ Bb
   obtain ⟨Cq0,Cq1,Cq2,Cq3,Fq0,Fq1,Fq2,Fq3⟩:=b_ Bq
   go_wp2_with fail
   clear Ca0 Fa0 Ca1 Fa1 Ca2 Fa2 Ca3 Fa3 Cb0 Fb0 Cb1 Fb1 Cb2 Fb2 Cb3 Fb3 Cq0 Fq0 Cq1 Fq1 Cq2 Fq2 Cq3 Fq3
   refine (B_ c0w1 _ t K qb (by omega) Hmd.out).mono ?_
   rintro e c0w2 ⟨rfl,gc0w2⟩
   rw [HO2.out]
   replace Ba:=a_ gc0w2 Ba
   replace Bb:=a_ gc0w2 Bb
   replace Bq:=a_ gc0w2 Bq
   replace ia:=ia.kept gc0w2
   replace ib:=ib.kept gc0w2
   replace hG:=d_ hG gc0w2
   clear gc0w2
   obtain ⟨Ca0,Ca1,Ca2,Ca3,Fa0,Fa1,Fa2,Fa3⟩:=b_ Ba
   obtain ⟨Cb0,Cb1,Cb2,Cb3,Fb0,Fb1,Fb2,Fb3⟩:=b_ Bb
   obtain ⟨Cq0,Cq1,Cq2,Cq3,Fq0,Fq1,Fq2,Fq3⟩:=b_ Bq
   go_wp2_with fail
   clear Ca0 Fa0 Ca1 Fa1 Ca2 Fa2 Ca3 Fa3 Cb0 Fb0 Cb1 Fb1 Cb2 Fb2 Cb3 Fb3 Cq0 Fq0 Cq1 Fq1 Cq2 Fq2 Cq3 Fq3
   refine (Y_ c0w2 _ _ r.num t.num K ia ib (by omega) Hln.out Hmn.out).mono ?_
   rintro e c0w3 ⟨_,rfl,⟨sd,xd,bd,rfl,hd,vd,td⟩,gc0w3⟩
   have id : IntV c0w3 (.agg #[.slice sd xd.length xd.length,.bool bd]) (r.num * t.num):=⟨sd,xd,bd,rfl,hd,vd,td⟩
   replace Ba:=a_ gc0w3 Ba
   replace Bb:=a_ gc0w3 Bb
   replace Bq:=a_ gc0w3 Bq
   replace hG:=d_ hG gc0w3
   clear gc0w3
   clear hd vd td
   obtain ⟨Ca0,Ca1,Ca2,Ca3,Fa0,Fa1,Fa2,Fa3⟩:=b_ Ba
   obtain ⟨Cb0,Cb1,Cb2,Cb3,Fb0,Fb1,Fb2,Fb3⟩:=b_ Bb
   obtain ⟨Cq0,Cq1,Cq2,Cq3,Fq0,Fq1,Fq2,Fq3⟩:=b_ Bq
   obtain ⟨hw1,hw2⟩:=HRW.out (of_decide_eq_true HO1.out) (of_decide_eq_true HO2.out)
   have qd : RatV c0w3 (.agg #[.slice sd xd.length xd.length,.bool bd,.slice none 0 0,.bool false]) (r * t):=⟨_,_,_,none,[],false,rfl,by rw [hw1]; exact id,by rw [hw2]; exact IntV.zero _⟩
   clear hw1 hw2
   clear Ca0 Fa0 Ca1 Fa1 Ca2 Fa2 Ca3 Fa3 Cb0 Fb0 Cb1 Fb1 Cb2 Fb2 Cb3 Fb3 Cq0 Fq0 Cq1 Fq1 Cq2 Fq2 Cq3 Fq3
   obtain ⟨k90,k91,k92,k93,k94,k95,k96,k97⟩:=b_ Bq
   obtain ⟨q90,q91,q92,q93,q94,q95,q96,q97⟩:=b_ (r_ Bq (.slice sd xd.length xd.length) (.bool bd) (.slice none 0 0) (.bool false))
   have hF : Hid (aa_ w (r * t) (.returned (.agg #[.slice sd xd.length xd.length,.bool bd,.slice none 0 0,.bool false])) ((((c0w3.setCell ⟨w.heap.size + 1 + 1,0,none⟩ (.slice sd xd.length xd.length)).setCell ⟨w.heap.size + 1 + 1,1,none⟩ (.bool bd)).setCell ⟨w.heap.size + 1 + 1,2,none⟩ (.slice none 0 0)).setCell ⟨w.heap.size + 1 + 1,3,none⟩ (.bool false))):=X_ hG Bq (by omega) qd
   clear qa ia ia' qb ib ib' id qd
   go_wp2_with fail
   exact bodyPost_ret (v:=.agg #[.slice sd xd.length xd.length,.bool bd,.slice none 0 0,.bool false]) (by simp [results,Tryz.results37,go_sem,q90,q91,q92,q93]) rfl hF.out
 · skip
   obtain ⟨sa,xa,ba,sa',xa',ba',rfl,ha,ha'⟩:=Ha
   obtain ⟨sb,xb,bb,sb',xb',bb',rfl,hb,hb'⟩:=Hb
   obtain ⟨hG,Ba,Bb,Bq⟩:=en3_ w (.cells #[.slice sa xa.length xa.length,.bool ba,.slice sa' xa'.length xa'.length,.bool ba'] 28) (.cells #[.slice sb xb.length xb.length,.bool bb,.slice sb' xb'.length xb'.length,.bool bb'] 28) (.cells #[.slice none 0 0,.bool false,.slice none 0 0,.bool false] 28)
   have oa : RatV w (.agg #[.slice sa xa.length xa.length,.bool ba,.slice sa' xa'.length xa'.length,.bool ba']) (r):=⟨sa,xa,ba,sa',xa',ba',rfl,ha,ha'⟩
   have qa:=oa.kept hG
   have ia:=(show IntV w (.agg #[.slice sa xa.length xa.length,.bool ba]) (r).num from ha).kept hG
   have ia':=(show IntV w (.agg #[.slice sa' xa'.length xa'.length,.bool ba']) (dn (r)) from ha').kept hG
   have ob : RatV w (.agg #[.slice sb xb.length xb.length,.bool bb,.slice sb' xb'.length xb'.length,.bool bb']) (t):=⟨sb,xb,bb,sb',xb',bb',rfl,hb,hb'⟩
   have qb:=ob.kept hG
   have ib:=(show IntV w (.agg #[.slice sb xb.length xb.length,.bool bb]) (t).num from hb).kept hG
   have ib':=(show IntV w (.agg #[.slice sb' xb'.length xb'.length,.bool bb']) (dn (t)) from hb').kept hG
   clear ha ha'
   clear hb hb'
   go_enter Tryz.func37,Tryz.ntmps37
   obtain ⟨Ca0,Ca1,Ca2,Ca3,Fa0,Fa1,Fa2,Fa3⟩:=b_ Ba
   obtain ⟨Cb0,Cb1,Cb2,Cb3,Fb0,Fb1,Fb2,Fb3⟩:=b_ Bb
   obtain ⟨Cq0,Cq1,Cq2,Cq3,Fq0,Fq1,Fq2,Fq3⟩:=b_ Bq
   go_wp2_with fail
   generalize (((w.alloc (.cells #[.slice sa xa.length xa.length,.bool ba,.slice sa' xa'.length xa'.length,.bool ba'] 28)).alloc (.cells #[.slice sb xb.length xb.length,.bool bb,.slice sb' xb'.length xb'.length,.bool bb'] 28)).alloc (.cells #[.slice none 0 0,.bool false,.slice none 0 0,.bool false] 28)) = w0 at *
   clear Ca0 Fa0 Ca1 Fa1 Ca2 Fa2 Ca3 Fa3 Cb0 Fb0 Cb1 Fb1 Cb2 Fb2 Cb3 Fb3 Cq0 Fq0 Cq1 Fq1 Cq2 Fq2 Cq3 Fq3
   refine (B_ w0 _ r K qa (by omega) Hld.out).mono ?_
   rintro e c1w1 ⟨rfl,gc1w1⟩
   rw [HO1.out]
   replace Ba:=a_ gc1w1 Ba
   replace Bb:=a_ gc1w1 Bb
   replace Bq:=a_ gc1w1 Bq
   replace qa:=qa.kept gc1w1
   replace ia:=ia.kept gc1w1
   replace qb:=qb.kept gc1w1
   replace ib:=ib.kept gc1w1
   replace hG:=d_ hG gc1w1
   clear gc1w1
   obtain ⟨Ca0,Ca1,Ca2,Ca3,Fa0,Fa1,Fa2,Fa3⟩:=b_ Ba
   obtain ⟨Cb0,Cb1,Cb2,Cb3,Fb0,Fb1,Fb2,Fb3⟩:=b_ Bb
   obtain ⟨Cq0,Cq1,Cq2,Cq3,Fq0,Fq1,Fq2,Fq3⟩:=b_ Bq
   go_wp2_with fail
   clear Ca0 Fa0 Ca1 Fa1 Ca2 Fa2 Ca3 Fa3 Cb0 Fb0 Cb1 Fb1 Cb2 Fb2 Cb3 Fb3 Cq0 Fq0 Cq1 Fq1 Cq2 Fq2 Cq3 Fq3
   refine (B_ c1w1 _ t K qb (by omega) Hmd.out).mono ?_
   rintro e c1w2 ⟨rfl,gc1w2⟩
   rw [HO2.out]
   replace Ba:=a_ gc1w2 Ba
   replace Bb:=a_ gc1w2 Bb
   replace Bq:=a_ gc1w2 Bq
   replace qa:=qa.kept gc1w2
   replace ia:=ia.kept gc1w2
   replace qb:=qb.kept gc1w2
   replace ib:=ib.kept gc1w2
   replace hG:=d_ hG gc1w2
   clear gc1w2
   obtain ⟨Ca0,Ca1,Ca2,Ca3,Fa0,Fa1,Fa2,Fa3⟩:=b_ Ba
   obtain ⟨Cb0,Cb1,Cb2,Cb3,Fb0,Fb1,Fb2,Fb3⟩:=b_ Bb
   obtain ⟨Cq0,Cq1,Cq2,Cq3,Fq0,Fq1,Fq2,Fq3⟩:=b_ Bq
   go_wp2_with fail
   have HT3 : Hid (∀ W,c1w2.grownBy W none → Tab W):=fun W hW=>HTB.out _ (d_ hG hW)
   go_region_held3 (fun w'=>w'.cell? ⟨w.heap.size,0,none⟩ = some (.slice sa xa.length xa.length) ∧ w'.cell? ⟨w.heap.size,1,none⟩ = some (.bool ba) ∧ w'.cell? ⟨w.heap.size,2,none⟩ = some (.slice sa' xa'.length xa'.length) ∧ w'.cell? ⟨w.heap.size,3,none⟩ = some (.bool ba') ∧ w'.cell? ⟨w.heap.size + 1,0,none⟩ = some (.slice sb xb.length xb.length) ∧ w'.cell? ⟨w.heap.size + 1,1,none⟩ = some (.bool bb) ∧ w'.cell? ⟨w.heap.size + 1,2,none⟩ = some (.slice sb' xb'.length xb'.length) ∧ w'.cell? ⟨w.heap.size + 1,3,none⟩ = some (.bool bb'))
    (first | assumption | exact ⟨Ca0,Ca1,Ca2,Ca3,Cb0,Cb1,Cb2,Cb3⟩ | exact HSc1w3_30 | go_keep)
    (first
      | (go_at_call 66; (with_reducible refine (u_ c1w2.drew _ r K (qa.kept (k_ (h_ _ _))) (by omega) Hld.out).mono ?_); rintro e c1w3_1 ⟨v1,rfl,n1,gc1w3_1⟩; have hGc1w3_1:=o_ c1w2 gc1w3_1 rfl rfl rfl rfl; have hSc1w3_1:=(n_ (hGc1w3_1.cell Ca0 (by simp)) (n_ (hGc1w3_1.cell Ca1 (by simp)) (n_ (hGc1w3_1.cell Ca2 (by simp)) (n_ (hGc1w3_1.cell Ca3 (by simp)) (n_ (hGc1w3_1.cell Cb0 (by simp)) (n_ (hGc1w3_1.cell Cb1 (by simp)) (n_ (hGc1w3_1.cell Cb2 (by simp)) (hGc1w3_1.cell Cb3 (by simp))))))))); clear gc1w3_1)
      | (go_at_call 66; (with_reducible refine (u_ c1w3_1 _ t K (qb.kept hGc1w3_1) (by omega) Hmd.out).mono ?_); rintro e c1w3_2 ⟨v2,rfl,n2,gc1w3_2⟩; have hGc1w3_2:=d_ hGc1w3_1 gc1w3_2; replace n1:=n1.kept gc1w3_2; have hSc1w3_2:=(n_ (hGc1w3_2.cell Ca0 (by simp)) (n_ (hGc1w3_2.cell Ca1 (by simp)) (n_ (hGc1w3_2.cell Ca2 (by simp)) (n_ (hGc1w3_2.cell Ca3 (by simp)) (n_ (hGc1w3_2.cell Cb0 (by simp)) (n_ (hGc1w3_2.cell Cb1 (by simp)) (n_ (hGc1w3_2.cell Cb2 (by simp)) (hGc1w3_2.cell Cb3 (by simp))))))))); clear gc1w3_2)
      | (go_at_call 77; (with_reducible refine (by_ c1w3_2 _ _ _ _ r t K (ia.kept hGc1w3_2) n1 (ib.kept hGc1w3_2) n2 (by omega) Hln.out Hld.out Hmn.out Hmd.out (HT3.out _ hGc1w3_2)).mono ?_); rintro e c1w3_3 ⟨_,rfl,⟨sd,xd,bd,sd',xd',bd',rfl,hd,hd'⟩,gc1w3_3⟩; have hGc1w3_3:=d_ hGc1w3_2 gc1w3_3; replace n1:=n1.kept gc1w3_3; replace n2:=n2.kept gc1w3_3; have qd : RatV c1w3_3 (.agg #[.slice sd xd.length xd.length,.bool bd,.slice sd' xd'.length xd'.length,.bool bd']) (r * t):=⟨sd,xd,bd,sd',xd',bd',rfl,hd,hd'⟩; have hSc1w3_3:=(n_ (hGc1w3_3.cell Ca0 (by simp)) (n_ (hGc1w3_3.cell Ca1 (by simp)) (n_ (hGc1w3_3.cell Ca2 (by simp)) (n_ (hGc1w3_3.cell Ca3 (by simp)) (n_ (hGc1w3_3.cell Cb0 (by simp)) (n_ (hGc1w3_3.cell Cb1 (by simp)) (n_ (hGc1w3_3.cell Cb2 (by simp)) (hGc1w3_3.cell Cb3 (by simp))))))))); clear gc1w3_3; clear hd hd'; (obtain ⟨dq0,dq1,dq2,dq3,dq4,dq5,dq6,dq7⟩:=b_ (a_ hGc1w3_3 Bq)); have HSc1w3_30:=(n_ ((b_ (i_ (a_ hGc1w3_3 Ba) (show w.heap.size ≠ w.heap.size + 1 + 1 by omega) (.slice sd xd.length xd.length) (.bool bd) (.slice sd' xd'.length xd'.length) (.bool bd'))).1) (n_ ((b_ (i_ (a_ hGc1w3_3 Ba) (show w.heap.size ≠ w.heap.size + 1 + 1 by omega) (.slice sd xd.length xd.length) (.bool bd) (.slice sd' xd'.length xd'.length) (.bool bd'))).2.1) (n_ ((b_ (i_ (a_ hGc1w3_3 Ba) (show w.heap.size ≠ w.heap.size + 1 + 1 by omega) (.slice sd xd.length xd.length) (.bool bd) (.slice sd' xd'.length xd'.length) (.bool bd'))).2.2.1) (n_ ((b_ (i_ (a_ hGc1w3_3 Ba) (show w.heap.size ≠ w.heap.size + 1 + 1 by omega) (.slice sd xd.length xd.length) (.bool bd) (.slice sd' xd'.length xd'.length) (.bool bd'))).2.2.2.1) (n_ ((b_ (i_ (a_ hGc1w3_3 Bb) (show w.heap.size + 1 ≠ w.heap.size + 1 + 1 by omega) (.slice sd xd.length xd.length) (.bool bd) (.slice sd' xd'.length xd'.length) (.bool bd'))).1) (n_ ((b_ (i_ (a_ hGc1w3_3 Bb) (show w.heap.size + 1 ≠ w.heap.size + 1 + 1 by omega) (.slice sd xd.length xd.length) (.bool bd) (.slice sd' xd'.length xd'.length) (.bool bd'))).2.1) (n_ ((b_ (i_ (a_ hGc1w3_3 Bb) (show w.heap.size + 1 ≠ w.heap.size + 1 + 1 by omega) (.slice sd xd.length xd.length) (.bool bd) (.slice sd' xd'.length xd'.length) (.bool bd'))).2.2.1) ((b_ (i_ (a_ hGc1w3_3 Bb) (show w.heap.size + 1 ≠ w.heap.size + 1 + 1 by omega) (.slice sd xd.length xd.length) (.bool bd) (.slice sd' xd'.length xd'.length) (.bool bd'))).2.2.2.1))))))))))
   replace Bq:=a_ hGc1w3_3 Bq
   replace hG:=d_ hG hGc1w3_3
   clear Ca0 Fa0 Ca1 Fa1 Ca2 Fa2 Ca3 Fa3 Cb0 Fb0 Cb1 Fb1 Cb2 Fb2 Cb3 Fb3 Cq0 Fq0 Cq1 Fq1 Cq2 Fq2 Cq3 Fq3
   obtain ⟨k90,k91,k92,k93,k94,k95,k96,k97⟩:=b_ Bq
   obtain ⟨q90,q91,q92,q93,q94,q95,q96,q97⟩:=b_ (r_ Bq (.slice sd xd.length xd.length) (.bool bd) (.slice sd' xd'.length xd'.length) (.bool bd'))
   have hF : Hid (aa_ w (r * t) (.returned (.agg #[.slice sd xd.length xd.length,.bool bd,.slice sd' xd'.length xd'.length,.bool bd'])) ((((c1w3_3.setCell ⟨w.heap.size + 1 + 1,0,none⟩ (.slice sd xd.length xd.length)).setCell ⟨w.heap.size + 1 + 1,1,none⟩ (.bool bd)).setCell ⟨w.heap.size + 1 + 1,2,none⟩ (.slice sd' xd'.length xd'.length)).setCell ⟨w.heap.size + 1 + 1,3,none⟩ (.bool bd'))):=X_ hG Bq (by omega) qd
   clear qa ia ia' qb ib ib' n1 n2 qd
   go_wp2_with fail
   exact bodyPost_ret (v:=.agg #[.slice sd xd.length xd.length,.bool bd,.slice sd' xd'.length xd'.length,.bool bd']) (by simp [results,Tryz.results37,go_sem,q90,q91,q92,q93]) rfl hF.out
 · skip
   obtain ⟨sa,xa,ba,sa',xa',ba',rfl,ha,ha'⟩:=Ha
   obtain ⟨sb,xb,bb,sb',xb',bb',rfl,hb,hb'⟩:=Hb
   obtain ⟨hG,Ba,Bb,Bq⟩:=en3_ w (.cells #[.slice sa xa.length xa.length,.bool ba,.slice sa' xa'.length xa'.length,.bool ba'] 28) (.cells #[.slice sb xb.length xb.length,.bool bb,.slice sb' xb'.length xb'.length,.bool bb'] 28) (.cells #[.slice none 0 0,.bool false,.slice none 0 0,.bool false] 28)
   have oa : RatV w (.agg #[.slice sa xa.length xa.length,.bool ba,.slice sa' xa'.length xa'.length,.bool ba']) (r):=⟨sa,xa,ba,sa',xa',ba',rfl,ha,ha'⟩
   have qa:=oa.kept hG
   have ia:=(show IntV w (.agg #[.slice sa xa.length xa.length,.bool ba]) (r).num from ha).kept hG
   have ia':=(show IntV w (.agg #[.slice sa' xa'.length xa'.length,.bool ba']) (dn (r)) from ha').kept hG
   have ob : RatV w (.agg #[.slice sb xb.length xb.length,.bool bb,.slice sb' xb'.length xb'.length,.bool bb']) (t):=⟨sb,xb,bb,sb',xb',bb',rfl,hb,hb'⟩
   have qb:=ob.kept hG
   have ib:=(show IntV w (.agg #[.slice sb xb.length xb.length,.bool bb]) (t).num from hb).kept hG
   have ib':=(show IntV w (.agg #[.slice sb' xb'.length xb'.length,.bool bb']) (dn (t)) from hb').kept hG
   clear ha ha'
   clear hb hb'
   go_enter Tryz.func37,Tryz.ntmps37
   obtain ⟨Ca0,Ca1,Ca2,Ca3,Fa0,Fa1,Fa2,Fa3⟩:=b_ Ba
   obtain ⟨Cb0,Cb1,Cb2,Cb3,Fb0,Fb1,Fb2,Fb3⟩:=b_ Bb
   obtain ⟨Cq0,Cq1,Cq2,Cq3,Fq0,Fq1,Fq2,Fq3⟩:=b_ Bq
   go_wp2_with fail
   generalize (((w.alloc (.cells #[.slice sa xa.length xa.length,.bool ba,.slice sa' xa'.length xa'.length,.bool ba'] 28)).alloc (.cells #[.slice sb xb.length xb.length,.bool bb,.slice sb' xb'.length xb'.length,.bool bb'] 28)).alloc (.cells #[.slice none 0 0,.bool false,.slice none 0 0,.bool false] 28)) = w0 at *
   clear Ca0 Fa0 Ca1 Fa1 Ca2 Fa2 Ca3 Fa3 Cb0 Fb0 Cb1 Fb1 Cb2 Fb2 Cb3 Fb3 Cq0 Fq0 Cq1 Fq1 Cq2 Fq2 Cq3 Fq3
   refine (B_ w0 _ r K qa (by omega) Hld.out).mono ?_
   rintro e c2w1 ⟨rfl,gc2w1⟩
   rw [HO1.out]
   replace Ba:=a_ gc2w1 Ba
   replace Bb:=a_ gc2w1 Bb
   replace Bq:=a_ gc2w1 Bq
   replace qa:=qa.kept gc2w1
   replace ia:=ia.kept gc2w1
   replace qb:=qb.kept gc2w1
   replace ib:=ib.kept gc2w1
   replace hG:=d_ hG gc2w1
   clear gc2w1
   obtain ⟨Ca0,Ca1,Ca2,Ca3,Fa0,Fa1,Fa2,Fa3⟩:=b_ Ba
   obtain ⟨Cb0,Cb1,Cb2,Cb3,Fb0,Fb1,Fb2,Fb3⟩:=b_ Bb
   obtain ⟨Cq0,Cq1,Cq2,Cq3,Fq0,Fq1,Fq2,Fq3⟩:=b_ Bq
   go_wp2_with fail
   have HT3 : Hid (∀ W,c2w1.grownBy W none → Tab W):=fun W hW=>HTB.out _ (d_ hG hW)
   go_region_held3 (fun w'=>w'.cell? ⟨w.heap.size,0,none⟩ = some (.slice sa xa.length xa.length) ∧ w'.cell? ⟨w.heap.size,1,none⟩ = some (.bool ba) ∧ w'.cell? ⟨w.heap.size,2,none⟩ = some (.slice sa' xa'.length xa'.length) ∧ w'.cell? ⟨w.heap.size,3,none⟩ = some (.bool ba') ∧ w'.cell? ⟨w.heap.size + 1,0,none⟩ = some (.slice sb xb.length xb.length) ∧ w'.cell? ⟨w.heap.size + 1,1,none⟩ = some (.bool bb) ∧ w'.cell? ⟨w.heap.size + 1,2,none⟩ = some (.slice sb' xb'.length xb'.length) ∧ w'.cell? ⟨w.heap.size + 1,3,none⟩ = some (.bool bb'))
    (first | assumption | exact ⟨Ca0,Ca1,Ca2,Ca3,Cb0,Cb1,Cb2,Cb3⟩ | exact HSc2w2_30 | go_keep)
    (first
      | (go_at_call 66; (with_reducible refine (u_ c2w1.drew _ r K (qa.kept (k_ (h_ _ _))) (by omega) Hld.out).mono ?_); rintro e c2w2_1 ⟨v1,rfl,n1,gc2w2_1⟩; have hGc2w2_1:=o_ c2w1 gc2w2_1 rfl rfl rfl rfl; have hSc2w2_1:=(n_ (hGc2w2_1.cell Ca0 (by simp)) (n_ (hGc2w2_1.cell Ca1 (by simp)) (n_ (hGc2w2_1.cell Ca2 (by simp)) (n_ (hGc2w2_1.cell Ca3 (by simp)) (n_ (hGc2w2_1.cell Cb0 (by simp)) (n_ (hGc2w2_1.cell Cb1 (by simp)) (n_ (hGc2w2_1.cell Cb2 (by simp)) (hGc2w2_1.cell Cb3 (by simp))))))))); clear gc2w2_1)
      | (go_at_call 66; (with_reducible refine (u_ c2w2_1 _ t K (qb.kept hGc2w2_1) (by omega) Hmd.out).mono ?_); rintro e c2w2_2 ⟨v2,rfl,n2,gc2w2_2⟩; have hGc2w2_2:=d_ hGc2w2_1 gc2w2_2; replace n1:=n1.kept gc2w2_2; have hSc2w2_2:=(n_ (hGc2w2_2.cell Ca0 (by simp)) (n_ (hGc2w2_2.cell Ca1 (by simp)) (n_ (hGc2w2_2.cell Ca2 (by simp)) (n_ (hGc2w2_2.cell Ca3 (by simp)) (n_ (hGc2w2_2.cell Cb0 (by simp)) (n_ (hGc2w2_2.cell Cb1 (by simp)) (n_ (hGc2w2_2.cell Cb2 (by simp)) (hGc2w2_2.cell Cb3 (by simp))))))))); clear gc2w2_2)
      | (go_at_call 77; (with_reducible refine (by_ c2w2_2 _ _ _ _ r t K (ia.kept hGc2w2_2) n1 (ib.kept hGc2w2_2) n2 (by omega) Hln.out Hld.out Hmn.out Hmd.out (HT3.out _ hGc2w2_2)).mono ?_); rintro e c2w2_3 ⟨_,rfl,⟨sd,xd,bd,sd',xd',bd',rfl,hd,hd'⟩,gc2w2_3⟩; have hGc2w2_3:=d_ hGc2w2_2 gc2w2_3; replace n1:=n1.kept gc2w2_3; replace n2:=n2.kept gc2w2_3; have qd : RatV c2w2_3 (.agg #[.slice sd xd.length xd.length,.bool bd,.slice sd' xd'.length xd'.length,.bool bd']) (r * t):=⟨sd,xd,bd,sd',xd',bd',rfl,hd,hd'⟩; have hSc2w2_3:=(n_ (hGc2w2_3.cell Ca0 (by simp)) (n_ (hGc2w2_3.cell Ca1 (by simp)) (n_ (hGc2w2_3.cell Ca2 (by simp)) (n_ (hGc2w2_3.cell Ca3 (by simp)) (n_ (hGc2w2_3.cell Cb0 (by simp)) (n_ (hGc2w2_3.cell Cb1 (by simp)) (n_ (hGc2w2_3.cell Cb2 (by simp)) (hGc2w2_3.cell Cb3 (by simp))))))))); clear gc2w2_3; clear hd hd'; (obtain ⟨dq0,dq1,dq2,dq3,dq4,dq5,dq6,dq7⟩:=b_ (a_ hGc2w2_3 Bq)); have HSc2w2_30:=(n_ ((b_ (i_ (a_ hGc2w2_3 Ba) (show w.heap.size ≠ w.heap.size + 1 + 1 by omega) (.slice sd xd.length xd.length) (.bool bd) (.slice sd' xd'.length xd'.length) (.bool bd'))).1) (n_ ((b_ (i_ (a_ hGc2w2_3 Ba) (show w.heap.size ≠ w.heap.size + 1 + 1 by omega) (.slice sd xd.length xd.length) (.bool bd) (.slice sd' xd'.length xd'.length) (.bool bd'))).2.1) (n_ ((b_ (i_ (a_ hGc2w2_3 Ba) (show w.heap.size ≠ w.heap.size + 1 + 1 by omega) (.slice sd xd.length xd.length) (.bool bd) (.slice sd' xd'.length xd'.length) (.bool bd'))).2.2.1) (n_ ((b_ (i_ (a_ hGc2w2_3 Ba) (show w.heap.size ≠ w.heap.size + 1 + 1 by omega) (.slice sd xd.length xd.length) (.bool bd) (.slice sd' xd'.length xd'.length) (.bool bd'))).2.2.2.1) (n_ ((b_ (i_ (a_ hGc2w2_3 Bb) (show w.heap.size + 1 ≠ w.heap.size + 1 + 1 by omega) (.slice sd xd.length xd.length) (.bool bd) (.slice sd' xd'.length xd'.length) (.bool bd'))).1) (n_ ((b_ (i_ (a_ hGc2w2_3 Bb) (show w.heap.size + 1 ≠ w.heap.size + 1 + 1 by omega) (.slice sd xd.length xd.length) (.bool bd) (.slice sd' xd'.length xd'.length) (.bool bd'))).2.1) (n_ ((b_ (i_ (a_ hGc2w2_3 Bb) (show w.heap.size + 1 ≠ w.heap.size + 1 + 1 by omega) (.slice sd xd.length xd.length) (.bool bd) (.slice sd' xd'.length xd'.length) (.bool bd'))).2.2.1) ((b_ (i_ (a_ hGc2w2_3 Bb) (show w.heap.size + 1 ≠ w.heap.size + 1 + 1 by omega) (.slice sd xd.length xd.length) (.bool bd) (.slice sd' xd'.length xd'.length) (.bool bd'))).2.2.2.1))))))))))
   replace Bq:=a_ hGc2w2_3 Bq
   replace hG:=d_ hG hGc2w2_3
   clear Ca0 Fa0 Ca1 Fa1 Ca2 Fa2 Ca3 Fa3 Cb0 Fb0 Cb1 Fb1 Cb2 Fb2 Cb3 Fb3 Cq0 Fq0 Cq1 Fq1 Cq2 Fq2 Cq3 Fq3
   obtain ⟨k90,k91,k92,k93,k94,k95,k96,k97⟩:=b_ Bq
   obtain ⟨q90,q91,q92,q93,q94,q95,q96,q97⟩:=b_ (r_ Bq (.slice sd xd.length xd.length) (.bool bd) (.slice sd' xd'.length xd'.length) (.bool bd'))
   have hF : Hid (aa_ w (r * t) (.returned (.agg #[.slice sd xd.length xd.length,.bool bd,.slice sd' xd'.length xd'.length,.bool bd'])) ((((c2w2_3.setCell ⟨w.heap.size + 1 + 1,0,none⟩ (.slice sd xd.length xd.length)).setCell ⟨w.heap.size + 1 + 1,1,none⟩ (.bool bd)).setCell ⟨w.heap.size + 1 + 1,2,none⟩ (.slice sd' xd'.length xd'.length)).setCell ⟨w.heap.size + 1 + 1,3,none⟩ (.bool bd'))):=X_ hG Bq (by omega) qd
   clear qa ia ia' qb ib ib' n1 n2 qd
   go_wp2_with fail
   exact bodyPost_ret (v:=.agg #[.slice sd xd.length xd.length,.bool bd,.slice sd' xd'.length xd'.length,.bool bd']) (by simp [results,Tryz.results37,go_sem,q90,q91,q92,q93]) rfl hF.out
theorem RatV.parts {W : World} {s s' : Option Addr} {xs xs' : List Nat} {b b' : Bool} {r : Rat} (h : RatV W (.agg #[.slice s xs.length xs.length,.bool b,.slice s' xs'.length xs'.length,.bool b']) r) : IntV W (.agg #[.slice s xs.length xs.length,.bool b]) r.num ∧ IntV W (.agg #[.slice s' xs'.length xs'.length,.bool b']) (dn r):=by
 obtain ⟨s1,x1,b1,s2,x2,b2,e,h1,h2⟩:=h
 injection e with e
 injection e with e
 simp only [List.cons.injEq,Value.slice.injEq,Value.bool.injEq,and_true] at e
 obtain ⟨⟨e1,e2,_⟩,e3,⟨e4,e5,_⟩,e6⟩:=e
 rw [e1,e3,e4,e6]
 simp only [e2,e5]
 exact ⟨h1,h2⟩
set_option maxHeartbeats 16000000 in
theorem ct_ (w : World) (va vb : Value) (r t : Rat) (K : Nat) (Ha : RatV w va r) (Hb : RatV w vb t) (hK : K ≤ 300000) (ln : r.num.natAbs < B ^ K) (ld : r.den < B ^ K) (mn : t.num.natAbs < B ^ K) (md : t.den < B ^ K) (hTab : Tab w) :
    Calls Tryz.prog 31 #[va,vb] w (V_ w (r / t) (if t = 0 then 5 else 0)):=by
 have HTB : Hid (∀ W,w.grownBy W none → Tab W):=fun W hW=>hTab.kept hW (by simp)
 clear hTab
 have hy : (t.num.sign = 0 ∧ Hid (t.num = 0)) ∨ (t.num.sign = -1 ∧ Hid (t.num < 0)) ∨ (t.num.sign = 1 ∧ Hid (0 < t.num)):=by
  rcases bl_ t.num with ⟨h,e⟩ | ⟨h,e⟩ | ⟨h,e⟩
  · right; left; exact ⟨e,h⟩
  · left; exact ⟨e,h⟩
  · right; right; exact ⟨e,h⟩
 have HTD : Hid ((t.den : Int).natAbs < B ^ K):=by show _ < _; rw [Int.natAbs_natCast]; exact md
 have Hln:=H_ ln
 have Hld:=H_ ld
 have Hmn:=H_ mn
 have Hmd:=H_ md
 clear ln ld mn md
 rcases hy with ⟨hs,HY⟩ | ⟨hs,HY⟩ | ⟨hs,HY⟩
 · skip
   have ht0 : t = 0:=Rat.num_eq_zero.1 HY.out
   rw [if_pos ht0,show r / t = 0 by rw [ht0,Rat.div_def,Rat.inv_zero,Rat.mul_zero]]
   clear ht0
   have HS:=H_ hs
   clear hs
   obtain ⟨sa,xa,ba,sa',xa',ba',rfl,ha,ha'⟩:=Ha
   obtain ⟨sb,xb,bb,sb',xb',bb',rfl,hb,hb'⟩:=Hb
   obtain ⟨hG,Ba,Bb,Bq⟩:=en3_ w (.cells #[.slice sa xa.length xa.length,.bool ba,.slice sa' xa'.length xa'.length,.bool ba'] 28) (.cells #[.slice sb xb.length xb.length,.bool bb,.slice sb' xb'.length xb'.length,.bool bb'] 28) (.cells #[.slice none 0 0,.bool false,.slice none 0 0,.bool false] 28)
   have oa : RatV w (.agg #[.slice sa xa.length xa.length,.bool ba,.slice sa' xa'.length xa'.length,.bool ba']) (r):=⟨sa,xa,ba,sa',xa',ba',rfl,ha,ha'⟩
   have qa:=oa.kept hG
   have ia:=(show IntV w (.agg #[.slice sa xa.length xa.length,.bool ba]) (r).num from ha).kept hG
   have ia':=(show IntV w (.agg #[.slice sa' xa'.length xa'.length,.bool ba']) (dn (r)) from ha').kept hG
   have ob : RatV w (.agg #[.slice sb xb.length xb.length,.bool bb,.slice sb' xb'.length xb'.length,.bool bb']) (t):=⟨sb,xb,bb,sb',xb',bb',rfl,hb,hb'⟩
   have qb:=ob.kept hG
   have ib:=(show IntV w (.agg #[.slice sb xb.length xb.length,.bool bb]) (t).num from hb).kept hG
   have ib':=(show IntV w (.agg #[.slice sb' xb'.length xb'.length,.bool bb']) (dn (t)) from hb').kept hG
   clear ha ha'
   clear hb hb'
   go_enter Tryz.func31,Tryz.ntmps31
   obtain ⟨Ca0,Ca1,Ca2,Ca3,Fa0,Fa1,Fa2,Fa3⟩:=b_ Ba
   obtain ⟨Cb0,Cb1,Cb2,Cb3,Fb0,Fb1,Fb2,Fb3⟩:=b_ Bb
   obtain ⟨Cq0,Cq1,Cq2,Cq3,Fq0,Fq1,Fq2,Fq3⟩:=b_ Bq
   go_wp2_with fail
   generalize (((w.alloc (.cells #[.slice sa xa.length xa.length,.bool ba,.slice sa' xa'.length xa'.length,.bool ba'] 28)).alloc (.cells #[.slice sb xb.length xb.length,.bool bb,.slice sb' xb'.length xb'.length,.bool bb'] 28)).alloc (.cells #[.slice none 0 0,.bool false,.slice none 0 0,.bool false] 28)) = w0 at *
   have Ha9:=H_ Ba
   have Hb9:=H_ Bb
   have Hq9:=H_ Bq
   have I9 : Hid (RatV w0 (.agg #[.slice sa xa.length xa.length,.bool ba,.slice sa' xa'.length xa'.length,.bool ba']) r ∧ RatV w0 (.agg #[.slice sb xb.length xb.length,.bool bb,.slice sb' xb'.length xb'.length,.bool bb']) t):=⟨qa,qb⟩
   have HG0:=H_ hG
   have hX : w0.grownBy w0 none:=h_ _ _
   have hs0 : w.heap.size + 1 + 1 < w0.heap.size:=(Array.getElem?_eq_some_iff.1 Bq).1
   have HS0:=H_ hs0
   go_cut [6,7] (fun p q wx=>∃ pe pj,p = .pointer (some ⟨pe,0,none⟩) ∧ q = .pointer (some ⟨pj,0,none⟩) ∧ BoxZ wx pe (t.den : Int) ∧ BoxZ wx pj t.num ∧ w.heap.size + 1 + 1 < pe ∧ pe ≠ pj ∧ w.heap.size + 1 + 1 < pj ∧ w0.grownBy wx none)
   case first =>
    clear Ca0 Fa0 Ca1 Fa1 Ca2 Fa2 Ca3 Fa3 Cb0 Fb0 Cb1 Fb1 Cb2 Fb2 Cb3 Fb3 Cq0 Fq0 Cq1 Fq1 Cq2 Fq2 Cq3 Fq3
    clear Ba Bq
    clear qa ia ia' ib'
    obtain ⟨Cb0,Cb1,Cb2,Cb3,Fb0,Fb1,Fb2,Fb3⟩:=b_ Bb
    refine wp_region_held_drew (S:=fun w'=>w'.cell? ⟨w.heap.size + 1,0,none⟩ = some (.slice sb xb.length xb.length) ∧ w'.cell? ⟨w.heap.size + 1,1,none⟩ = some (.bool bb) ∧ w'.cell? ⟨w.heap.size + 1,2,none⟩ = some (.slice sb' xb'.length xb'.length) ∧ w'.cell? ⟨w.heap.size + 1,3,none⟩ = some (.bool bb')) (by kernel_rfl) (by exact ⟨Cb0,Cb1,Cb2,Cb3⟩) (fun hHeld=>?_)
    have gd : w0.grownBy w0.drew none:=k_ (h_ _ _)
    clear Cb0 Fb0 Cb1 Fb1 Cb2 Fb2 Cb3 Fb3
    replace Bb:=a_ gd Bb
    replace qb:=qb.kept gd
    replace ib:=ib.kept gd
    replace hG:=d_ hG gd
    replace hX:=d_ hX gd
    clear gd
    generalize w0.drew = d0tw1 at *
    refine tk_ 0 ?_ rfl ?_ ?_
    rotate_left
    · (intro w hSw; (try dsimp only at hSw); go_simp; (try with_reducible rfl))
    try simp only [ly_]
    refine tk_ 2 ?_ rfl ?_ ?_
    rotate_left
    · (intro w hSw; (try dsimp only at hSw); go_simp; (try with_reducible rfl))
    try simp only [ly_]
    refine tk_ 3 ?_ rfl ?_ ?_
    rotate_left
    · (intro w hSw; (try dsimp only at hSw); go_simp; (try with_reducible rfl))
    try simp only [ly_]
    refine wpAnyH_ready (rs:=[1,4,5]) (by kernel_rfl) (by simp) ?_
    refine AllReadyH.cons rfl (fun KQ hKQ=>?_) (AllReadyH.cons rfl (fun KQ hKQ=>?_) (AllReadyH.cons rfl (fun KQ hKQ=>?_) AllReadyH.nil))
    focus
     go_simp
     go_at_call 66
     refine (u_ d0tw1 _ t K qb (by omega) Hmd.out).mono ?_
     rintro e d0tw2 ⟨_,rfl,⟨se,xe,be,rfl,he,ve,te⟩,gd0tw2⟩
     have ie : IntV d0tw2 (.agg #[.slice se xe.length xe.length,.bool be]) ((t.den : Int)):=⟨se,xe,be,rfl,he,ve,te⟩
     replace Bb:=a_ gd0tw2 Bb
     replace qb:=qb.kept gd0tw2
     replace ib:=ib.kept gd0tw2
     replace hG:=d_ hG gd0tw2
     replace hX:=d_ hX gd0tw2
     clear gd0tw2
     clear he ve te
     (try go_wp2_with fail)
     refine hKQ.out _ _ (by exact ⟨(b_ Bb).1,(b_ Bb).2.1,(b_ Bb).2.2.1,(b_ Bb).2.2.2.1⟩) (fun hHeld=>?_)
     clear hKQ KQ
     try simp only [ly_]
     refine wpAnyH_ready (rs:=[4,5]) (by kernel_rfl) (by simp) ?_
     refine AllReadyH.cons rfl (fun KQ hKQ=>?_) (AllReadyH.cons rfl (fun KQ hKQ=>?_) AllReadyH.nil)
     focus
      have gA:=wg_ d0tw2 (.cells #[.slice none 0 0,.bool false] 26) none
      have lohGk : w.heap.size ≤ d0tw2.heap.size:=hG.size
      have lohXk : w0.heap.size ≤ d0tw2.heap.size:=hX.size
      have ltbk : w.heap.size + 1 < d0tw2.heap.size:=g_ Bb
      have Bk_:=f_ d0tw2 (.cells #[.slice none 0 0,.bool false] 26) d0tw2.heap.size rfl
      replace Bb:=a_ gA Bb
      replace qb:=qb.kept gA
      replace ib:=ib.kept gA
      replace ie:=ie.kept gA
      replace hG:=d_ hG gA
      replace hX:=d_ hX gA
      clear gA
      go_simp
      generalize (d0tw2.alloc (.cells #[.slice none 0 0,.bool false] 26)) = d0tw3 at *
      generalize d0tw2.heap.size = pk at *
      have Bk:=Bk_
      clear Bk_
      refine hKQ.out _ _ (by exact ⟨(b_ Bb).1,(b_ Bb).2.1,(b_ Bb).2.2.1,(b_ Bb).2.2.2.1⟩) (fun hHeld=>?_)
      clear hKQ KQ
      try simp only [ly_]
      refine o1_ 5 rfl (fun KQ hKQ=>?_)
      have gA:=wg_ d0tw3 (.cells #[.slice none 0 0,.bool false] 26) none
      have lohGl : w.heap.size ≤ d0tw3.heap.size:=hG.size
      have lohXl : w0.heap.size ≤ d0tw3.heap.size:=hX.size
      have ltbl : w.heap.size + 1 < d0tw3.heap.size:=g_ Bb
      have ltkl : pk < d0tw3.heap.size:=g_ Bk
      have Bl_:=f_ d0tw3 (.cells #[.slice none 0 0,.bool false] 26) d0tw3.heap.size rfl
      replace Bb:=a_ gA Bb
      replace Bk:=a_ gA Bk
      replace qb:=qb.kept gA
      replace ib:=ib.kept gA
      replace ie:=ie.kept gA
      replace hG:=d_ hG gA
      replace hX:=d_ hX gA
      clear gA
      go_simp
      generalize (d0tw3.alloc (.cells #[.slice none 0 0,.bool false] 26)) = d0tw4 at *
      generalize d0tw3.heap.size = pl at *
      have Bl:=Bl_
      clear Bl_
      refine hKQ.out _ _ (by exact ⟨(b_ Bb).1,(b_ Bb).2.1,(b_ Bb).2.2.1,(b_ Bb).2.2.2.1⟩) (fun hHeld=>?_)
      clear hKQ KQ
      try simp only [ly_]
     rotate_left 1
     focus
      have gA:=wg_ d0tw2 (.cells #[.slice none 0 0,.bool false] 26) none
      have lohGl : w.heap.size ≤ d0tw2.heap.size:=hG.size
      have lohXl : w0.heap.size ≤ d0tw2.heap.size:=hX.size
      have ltbl : w.heap.size + 1 < d0tw2.heap.size:=g_ Bb
      have Bl_:=f_ d0tw2 (.cells #[.slice none 0 0,.bool false] 26) d0tw2.heap.size rfl
      replace Bb:=a_ gA Bb
      replace qb:=qb.kept gA
      replace ib:=ib.kept gA
      replace ie:=ie.kept gA
      replace hG:=d_ hG gA
      replace hX:=d_ hX gA
      clear gA
      go_simp
      generalize (d0tw2.alloc (.cells #[.slice none 0 0,.bool false] 26)) = d0tw3 at *
      generalize d0tw2.heap.size = pl at *
      have Bl:=Bl_
      clear Bl_
      refine hKQ.out _ _ (by exact ⟨(b_ Bb).1,(b_ Bb).2.1,(b_ Bb).2.2.1,(b_ Bb).2.2.2.1⟩) (fun hHeld=>?_)
      clear hKQ KQ
      try simp only [ly_]
      refine o1_ 4 rfl (fun KQ hKQ=>?_)
      have gA:=wg_ d0tw3 (.cells #[.slice none 0 0,.bool false] 26) none
      have lohGk : w.heap.size ≤ d0tw3.heap.size:=hG.size
      have lohXk : w0.heap.size ≤ d0tw3.heap.size:=hX.size
      have ltbk : w.heap.size + 1 < d0tw3.heap.size:=g_ Bb
      have ltlk : pl < d0tw3.heap.size:=g_ Bl
      have Bk_:=f_ d0tw3 (.cells #[.slice none 0 0,.bool false] 26) d0tw3.heap.size rfl
      replace Bb:=a_ gA Bb
      replace Bl:=a_ gA Bl
      replace qb:=qb.kept gA
      replace ib:=ib.kept gA
      replace ie:=ie.kept gA
      replace hG:=d_ hG gA
      replace hX:=d_ hX gA
      clear gA
      go_simp
      generalize (d0tw3.alloc (.cells #[.slice none 0 0,.bool false] 26)) = d0tw4 at *
      generalize d0tw3.heap.size = pk at *
      have Bk:=Bk_
      clear Bk_
      refine hKQ.out _ _ (by exact ⟨(b_ Bb).1,(b_ Bb).2.1,(b_ Bb).2.2.1,(b_ Bb).2.2.2.1⟩) (fun hHeld=>?_)
      clear hKQ KQ
      try simp only [ly_]
     rotate_left 1
    rotate_left 2
    focus
     have gA:=wg_ d0tw1 (.cells #[.slice none 0 0,.bool false] 26) none
     have lohGk : w.heap.size ≤ d0tw1.heap.size:=hG.size
     have lohXk : w0.heap.size ≤ d0tw1.heap.size:=hX.size
     have ltbk : w.heap.size + 1 < d0tw1.heap.size:=g_ Bb
     have Bk_:=f_ d0tw1 (.cells #[.slice none 0 0,.bool false] 26) d0tw1.heap.size rfl
     replace Bb:=a_ gA Bb
     replace qb:=qb.kept gA
     replace ib:=ib.kept gA
     replace hG:=d_ hG gA
     replace hX:=d_ hX gA
     clear gA
     go_simp
     generalize (d0tw1.alloc (.cells #[.slice none 0 0,.bool false] 26)) = d0tw2 at *
     generalize d0tw1.heap.size = pk at *
     have Bk:=Bk_
     clear Bk_
     refine hKQ.out _ _ (by exact ⟨(b_ Bb).1,(b_ Bb).2.1,(b_ Bb).2.2.1,(b_ Bb).2.2.2.1⟩) (fun hHeld=>?_)
     clear hKQ KQ
     try simp only [ly_]
     refine wpAnyH_ready (rs:=[1,5]) (by kernel_rfl) (by simp) ?_
     refine AllReadyH.cons rfl (fun KQ hKQ=>?_) (AllReadyH.cons rfl (fun KQ hKQ=>?_) AllReadyH.nil)
     focus
      go_simp
      go_at_call 66
      refine (u_ d0tw2 _ t K qb (by omega) Hmd.out).mono ?_
      rintro e d0tw3 ⟨_,rfl,⟨se,xe,be,rfl,he,ve,te⟩,gd0tw3⟩
      have ie : IntV d0tw3 (.agg #[.slice se xe.length xe.length,.bool be]) ((t.den : Int)):=⟨se,xe,be,rfl,he,ve,te⟩
      replace Bb:=a_ gd0tw3 Bb
      replace Bk:=a_ gd0tw3 Bk
      replace qb:=qb.kept gd0tw3
      replace ib:=ib.kept gd0tw3
      replace hG:=d_ hG gd0tw3
      replace hX:=d_ hX gd0tw3
      clear gd0tw3
      clear he ve te
      (try go_wp2_with fail)
      refine hKQ.out _ _ (by exact ⟨(b_ Bb).1,(b_ Bb).2.1,(b_ Bb).2.2.1,(b_ Bb).2.2.2.1⟩) (fun hHeld=>?_)
      clear hKQ KQ
      try simp only [ly_]
      refine o1_ 5 rfl (fun KQ hKQ=>?_)
      have gA:=wg_ d0tw3 (.cells #[.slice none 0 0,.bool false] 26) none
      have lohGl : w.heap.size ≤ d0tw3.heap.size:=hG.size
      have lohXl : w0.heap.size ≤ d0tw3.heap.size:=hX.size
      have ltbl : w.heap.size + 1 < d0tw3.heap.size:=g_ Bb
      have ltkl : pk < d0tw3.heap.size:=g_ Bk
      have Bl_:=f_ d0tw3 (.cells #[.slice none 0 0,.bool false] 26) d0tw3.heap.size rfl
      replace Bb:=a_ gA Bb
      replace Bk:=a_ gA Bk
      replace qb:=qb.kept gA
      replace ib:=ib.kept gA
      replace ie:=ie.kept gA
      replace hG:=d_ hG gA
      replace hX:=d_ hX gA
      clear gA
      go_simp
      generalize (d0tw3.alloc (.cells #[.slice none 0 0,.bool false] 26)) = d0tw4 at *
      generalize d0tw3.heap.size = pl at *
      have Bl:=Bl_
      clear Bl_
      refine hKQ.out _ _ (by exact ⟨(b_ Bb).1,(b_ Bb).2.1,(b_ Bb).2.2.1,(b_ Bb).2.2.2.1⟩) (fun hHeld=>?_)
      clear hKQ KQ
      try simp only [ly_]
     rotate_left 1
     focus
      have gA:=wg_ d0tw2 (.cells #[.slice none 0 0,.bool false] 26) none
      have lohGl : w.heap.size ≤ d0tw2.heap.size:=hG.size
      have lohXl : w0.heap.size ≤ d0tw2.heap.size:=hX.size
      have ltbl : w.heap.size + 1 < d0tw2.heap.size:=g_ Bb
      have ltkl : pk < d0tw2.heap.size:=g_ Bk
      have Bl_:=f_ d0tw2 (.cells #[.slice none 0 0,.bool false] 26) d0tw2.heap.size rfl
      replace Bb:=a_ gA Bb
      replace Bk:=a_ gA Bk
      replace qb:=qb.kept gA
      replace ib:=ib.kept gA
      replace hG:=d_ hG gA
      replace hX:=d_ hX gA
      clear gA
      go_simp
      generalize (d0tw2.alloc (.cells #[.slice none 0 0,.bool false] 26)) = d0tw3 at *
      generalize d0tw2.heap.size = pl at *
      have Bl:=Bl_
      clear Bl_
      refine hKQ.out _ _ (by exact ⟨(b_ Bb).1,(b_ Bb).2.1,(b_ Bb).2.2.1,(b_ Bb).2.2.2.1⟩) (fun hHeld=>?_)
      clear hKQ KQ
      try simp only [ly_]
      refine o1_ 1 rfl (fun KQ hKQ=>?_)
      go_simp
      go_at_call 66
      refine (u_ d0tw3 _ t K qb (by omega) Hmd.out).mono ?_
      rintro e d0tw4 ⟨_,rfl,⟨se,xe,be,rfl,he,ve,te⟩,gd0tw4⟩
      have ie : IntV d0tw4 (.agg #[.slice se xe.length xe.length,.bool be]) ((t.den : Int)):=⟨se,xe,be,rfl,he,ve,te⟩
      replace Bb:=a_ gd0tw4 Bb
      replace Bk:=a_ gd0tw4 Bk
      replace Bl:=a_ gd0tw4 Bl
      replace qb:=qb.kept gd0tw4
      replace ib:=ib.kept gd0tw4
      replace hG:=d_ hG gd0tw4
      replace hX:=d_ hX gd0tw4
      clear gd0tw4
      clear he ve te
      (try go_wp2_with fail)
      refine hKQ.out _ _ (by exact ⟨(b_ Bb).1,(b_ Bb).2.1,(b_ Bb).2.2.1,(b_ Bb).2.2.2.1⟩) (fun hHeld=>?_)
      clear hKQ KQ
      try simp only [ly_]
     rotate_left 1
    rotate_left 2
    focus
     have gA:=wg_ d0tw1 (.cells #[.slice none 0 0,.bool false] 26) none
     have lohGl : w.heap.size ≤ d0tw1.heap.size:=hG.size
     have lohXl : w0.heap.size ≤ d0tw1.heap.size:=hX.size
     have ltbl : w.heap.size + 1 < d0tw1.heap.size:=g_ Bb
     have Bl_:=f_ d0tw1 (.cells #[.slice none 0 0,.bool false] 26) d0tw1.heap.size rfl
     replace Bb:=a_ gA Bb
     replace qb:=qb.kept gA
     replace ib:=ib.kept gA
     replace hG:=d_ hG gA
     replace hX:=d_ hX gA
     clear gA
     go_simp
     generalize (d0tw1.alloc (.cells #[.slice none 0 0,.bool false] 26)) = d0tw2 at *
     generalize d0tw1.heap.size = pl at *
     have Bl:=Bl_
     clear Bl_
     refine hKQ.out _ _ (by exact ⟨(b_ Bb).1,(b_ Bb).2.1,(b_ Bb).2.2.1,(b_ Bb).2.2.2.1⟩) (fun hHeld=>?_)
     clear hKQ KQ
     try simp only [ly_]
     refine wpAnyH_ready (rs:=[1,4]) (by kernel_rfl) (by simp) ?_
     refine AllReadyH.cons rfl (fun KQ hKQ=>?_) (AllReadyH.cons rfl (fun KQ hKQ=>?_) AllReadyH.nil)
     focus
      go_simp
      go_at_call 66
      refine (u_ d0tw2 _ t K qb (by omega) Hmd.out).mono ?_
      rintro e d0tw3 ⟨_,rfl,⟨se,xe,be,rfl,he,ve,te⟩,gd0tw3⟩
      have ie : IntV d0tw3 (.agg #[.slice se xe.length xe.length,.bool be]) ((t.den : Int)):=⟨se,xe,be,rfl,he,ve,te⟩
      replace Bb:=a_ gd0tw3 Bb
      replace Bl:=a_ gd0tw3 Bl
      replace qb:=qb.kept gd0tw3
      replace ib:=ib.kept gd0tw3
      replace hG:=d_ hG gd0tw3
      replace hX:=d_ hX gd0tw3
      clear gd0tw3
      clear he ve te
      (try go_wp2_with fail)
      refine hKQ.out _ _ (by exact ⟨(b_ Bb).1,(b_ Bb).2.1,(b_ Bb).2.2.1,(b_ Bb).2.2.2.1⟩) (fun hHeld=>?_)
      clear hKQ KQ
      try simp only [ly_]
      refine o1_ 4 rfl (fun KQ hKQ=>?_)
      have gA:=wg_ d0tw3 (.cells #[.slice none 0 0,.bool false] 26) none
      have lohGk : w.heap.size ≤ d0tw3.heap.size:=hG.size
      have lohXk : w0.heap.size ≤ d0tw3.heap.size:=hX.size
      have ltbk : w.heap.size + 1 < d0tw3.heap.size:=g_ Bb
      have ltlk : pl < d0tw3.heap.size:=g_ Bl
      have Bk_:=f_ d0tw3 (.cells #[.slice none 0 0,.bool false] 26) d0tw3.heap.size rfl
      replace Bb:=a_ gA Bb
      replace Bl:=a_ gA Bl
      replace qb:=qb.kept gA
      replace ib:=ib.kept gA
      replace ie:=ie.kept gA
      replace hG:=d_ hG gA
      replace hX:=d_ hX gA
      clear gA
      go_simp
      generalize (d0tw3.alloc (.cells #[.slice none 0 0,.bool false] 26)) = d0tw4 at *
      generalize d0tw3.heap.size = pk at *
      have Bk:=Bk_
      clear Bk_
      refine hKQ.out _ _ (by exact ⟨(b_ Bb).1,(b_ Bb).2.1,(b_ Bb).2.2.1,(b_ Bb).2.2.2.1⟩) (fun hHeld=>?_)
      clear hKQ KQ
      try simp only [ly_]
     rotate_left 1
     focus
      have gA:=wg_ d0tw2 (.cells #[.slice none 0 0,.bool false] 26) none
      have lohGk : w.heap.size ≤ d0tw2.heap.size:=hG.size
      have lohXk : w0.heap.size ≤ d0tw2.heap.size:=hX.size
      have ltbk : w.heap.size + 1 < d0tw2.heap.size:=g_ Bb
      have ltlk : pl < d0tw2.heap.size:=g_ Bl
      have Bk_:=f_ d0tw2 (.cells #[.slice none 0 0,.bool false] 26) d0tw2.heap.size rfl
      replace Bb:=a_ gA Bb
      replace Bl:=a_ gA Bl
      replace qb:=qb.kept gA
      replace ib:=ib.kept gA
      replace hG:=d_ hG gA
      replace hX:=d_ hX gA
      clear gA
      go_simp
      generalize (d0tw2.alloc (.cells #[.slice none 0 0,.bool false] 26)) = d0tw3 at *
      generalize d0tw2.heap.size = pk at *
      have Bk:=Bk_
      clear Bk_
      refine hKQ.out _ _ (by exact ⟨(b_ Bb).1,(b_ Bb).2.1,(b_ Bb).2.2.1,(b_ Bb).2.2.2.1⟩) (fun hHeld=>?_)
      clear hKQ KQ
      try simp only [ly_]
      refine o1_ 1 rfl (fun KQ hKQ=>?_)
      go_simp
      go_at_call 66
      refine (u_ d0tw3 _ t K qb (by omega) Hmd.out).mono ?_
      rintro e d0tw4 ⟨_,rfl,⟨se,xe,be,rfl,he,ve,te⟩,gd0tw4⟩
      have ie : IntV d0tw4 (.agg #[.slice se xe.length xe.length,.bool be]) ((t.den : Int)):=⟨se,xe,be,rfl,he,ve,te⟩
      replace Bb:=a_ gd0tw4 Bb
      replace Bl:=a_ gd0tw4 Bl
      replace Bk:=a_ gd0tw4 Bk
      replace qb:=qb.kept gd0tw4
      replace ib:=ib.kept gd0tw4
      replace hG:=d_ hG gd0tw4
      replace hX:=d_ hX gd0tw4
      clear gd0tw4
      clear he ve te
      (try go_wp2_with fail)
      refine hKQ.out _ _ (by exact ⟨(b_ Bb).1,(b_ Bb).2.1,(b_ Bb).2.2.1,(b_ Bb).2.2.2.1⟩) (fun hHeld=>?_)
      clear hKQ KQ
      try simp only [ly_]
     rotate_left 1
    rotate_left 2
    all_goals (
     refine o1_ 6 rfl (fun KQ hKQ=>?_)
     obtain ⟨c0',c1',c2',c3'⟩:=c_ Bk
     go_simp
     clear c0' c1' c2' c3'
     replace qb:=qb.set2 Bk (.slice se xe.length xe.length) (.bool be)
     replace ib:=ib.set2 Bk (.slice se xe.length xe.length) (.bool be)
     replace ie:=ie.set2 Bk (.slice se xe.length xe.length) (.bool be)
     replace hG:=t_ (g:=pk) hG (by omega) (.slice se xe.length xe.length) (.bool be)
     replace hX:=t_ (g:=pk) hX (by omega) (.slice se xe.length xe.length) (.bool be)
     replace Bb:=e_ Bb (show w.heap.size + 1 ≠ pk by omega) (.slice se xe.length xe.length) (.bool be)
     replace Bl:=e_ Bl (show pl ≠ pk by omega) (.slice se xe.length xe.length) (.bool be)
     replace Bk:=m_ Bk (.slice se xe.length xe.length) (.bool be)
     generalize ((d0tw4.setCell ⟨pk,0,none⟩ (.slice se xe.length xe.length)).setCell ⟨pk,1,none⟩ (.bool be)) = d0tw5 at *
     refine hKQ.out _ _ (by exact ⟨(b_ Bb).1,(b_ Bb).2.1,(b_ Bb).2.2.1,(b_ Bb).2.2.2.1⟩) (fun hHeld=>?_)
     clear hKQ KQ
     try simp only [ly_]
     refine o1_ 7 rfl (fun KQ hKQ=>?_)
     obtain ⟨c0',c1',c2',c3'⟩:=c_ Bl
     go_simp
     clear c0' c1' c2' c3'
     replace qb:=qb.set2 Bl (.slice sb xb.length xb.length) (.bool bb)
     replace ib:=ib.set2 Bl (.slice sb xb.length xb.length) (.bool bb)
     replace ie:=ie.set2 Bl (.slice sb xb.length xb.length) (.bool bb)
     replace hG:=t_ (g:=pl) hG (by omega) (.slice sb xb.length xb.length) (.bool bb)
     replace hX:=t_ (g:=pl) hX (by omega) (.slice sb xb.length xb.length) (.bool bb)
     replace Bb:=e_ Bb (show w.heap.size + 1 ≠ pl by omega) (.slice sb xb.length xb.length) (.bool bb)
     replace Bk:=e_ Bk (show pk ≠ pl by omega) (.slice sb xb.length xb.length) (.bool bb)
     replace Bl:=m_ Bl (.slice sb xb.length xb.length) (.bool bb)
     generalize ((d0tw5.setCell ⟨pl,0,none⟩ (.slice sb xb.length xb.length)).setCell ⟨pl,1,none⟩ (.bool bb)) = d0tw6 at *
     refine hKQ.out _ _ (by exact ⟨(b_ Bb).1,(b_ Bb).2.1,(b_ Bb).2.2.1,(b_ Bb).2.2.2.1⟩) (fun hHeld=>?_)
     clear hKQ KQ
     try simp only [ly_]
     refine wpAnyH_done (by kernel_rfl) ?_ _
     go_wp2_with fail
     go_meet
     exact ⟨pk,pl,rfl,rfl,⟨_,_,_,Bk,ie⟩,⟨_,_,_,Bl,ib⟩,by omega,by omega,by omega,hX⟩)
   case rest =>
    clear hG hX hs0 qa ia ia' qb ib ib' Ba Bb Bq
    obtain ⟨pe,pj,rfl,rfl,Ke,Kj,le,lej,lj,hX⟩:=hcut
    obtain ⟨se,xe,be,Be,ie⟩:=Ke.open
    obtain ⟨sj,xj,bj,Bj,ij⟩:=Kj.open
    have hG:=d_ HG0.out hX
    have Ba:=a_ hX Ha9.out
    have Bb:=a_ hX Hb9.out
    have Bq:=a_ hX Hq9.out
    have qa:=I9.out.1.kept hX
    have qb:=I9.out.2.kept hX
    clear hX
    obtain ⟨Ca0,Ca1,Ca2,Ca3,Fa0,Fa1,Fa2,Fa3⟩:=b_ Ba
    obtain ⟨Cb0,Cb1,Cb2,Cb3,Fb0,Fb1,Fb2,Fb3⟩:=b_ Bb
    obtain ⟨Cq0,Cq1,Cq2,Cq3,Fq0,Fq1,Fq2,Fq3⟩:=b_ Bq
    obtain ⟨Ce0,Ce1,Fe0,Fe1⟩:=c_ Be
    obtain ⟨Cj0,Cj1,Fj0,Fj1⟩:=c_ Bj
    go_wp2_with fail
    clear Ca0 Fa0 Ca1 Fa1 Ca2 Fa2 Ca3 Fa3 Cb0 Fb0 Cb1 Fb1 Cb2 Fb2 Cb3 Fb3 Cq0 Fq0 Cq1 Fq1 Cq2 Fq2 Cq3 Fq3 Ce0 Fe0 Ce1 Fe1 Cj0 Fj0 Cj1 Fj1
    refine (S_ wc _ t K qb (by omega) Hmn.out).mono ?_
    rintro e d0w1 ⟨rfl,gd0w1⟩
    rw [HS.out]
    replace Ba:=a_ gd0w1 Ba
    replace Bb:=a_ gd0w1 Bb
    replace Bq:=a_ gd0w1 Bq
    replace Be:=a_ gd0w1 Be
    replace Bj:=a_ gd0w1 Bj
    replace hG:=d_ hG gd0w1
    clear gd0w1
    obtain ⟨Ca0,Ca1,Ca2,Ca3,Fa0,Fa1,Fa2,Fa3⟩:=b_ Ba
    obtain ⟨Cb0,Cb1,Cb2,Cb3,Fb0,Fb1,Fb2,Fb3⟩:=b_ Bb
    obtain ⟨Cq0,Cq1,Cq2,Cq3,Fq0,Fq1,Fq2,Fq3⟩:=b_ Bq
    obtain ⟨Ce0,Ce1,Fe0,Fe1⟩:=c_ Be
    obtain ⟨Cj0,Cj1,Fj0,Fj1⟩:=c_ Bj
    have qd : RatV d0w1 (.agg #[.slice none 0 0,.bool false,.slice none 0 0,.bool false]) 0:=RatV.zero _
    clear Ca0 Fa0 Ca1 Fa1 Ca2 Fa2 Ca3 Fa3 Cb0 Fb0 Cb1 Fb1 Cb2 Fb2 Cb3 Fb3 Cq0 Fq0 Cq1 Fq1 Cq2 Fq2 Cq3 Fq3 Ce0 Fe0 Ce1 Fe1 Cj0 Fj0 Cj1 Fj1
    obtain ⟨k90,k91,k92,k93,k94,k95,k96,k97⟩:=b_ Bq
    obtain ⟨q90,q91,q92,q93,q94,q95,q96,q97⟩:=b_ (r_ Bq (.slice none 0 0) (.bool false) (.slice none 0 0) (.bool false))
    have hF : Hid (V_ w (0) 5 (.returned (.tuple #[.agg #[.slice none 0 0,.bool false,.slice none 0 0,.bool false],.int .i64 5])) ((((d0w1.setCell ⟨w.heap.size + 1 + 1,0,none⟩ (.slice none 0 0)).setCell ⟨w.heap.size + 1 + 1,1,none⟩ (.bool false)).setCell ⟨w.heap.size + 1 + 1,2,none⟩ (.slice none 0 0)).setCell ⟨w.heap.size + 1 + 1,3,none⟩ (.bool false))):=av_ hG Bq (by omega) qd
    clear qa qb ie ij qd
    obtain ⟨Ca0,Ca1,Ca2,Ca3,Fa0,Fa1,Fa2,Fa3⟩:=b_ Ba
    obtain ⟨Cb0,Cb1,Cb2,Cb3,Fb0,Fb1,Fb2,Fb3⟩:=b_ Bb
    obtain ⟨Ce0,Ce1,Fe0,Fe1⟩:=c_ Be
    obtain ⟨Cj0,Cj1,Fj0,Fj1⟩:=c_ Bj
    go_wp2_with fail
    exact bodyPost_ret (v:=.tuple #[.agg #[.slice none 0 0,.bool false,.slice none 0 0,.bool false],.int .i64 5]) (by simp [results,Tryz.results31,go_sem,q90,q91,q92,q93]) rfl hF.out
 · skip
   rw [if_neg (show ¬ t = 0 from fun h=>by have h1:=HY.out; rw [h] at h1; exact absurd h1 (by decide))]
   obtain ⟨V9,hV⟩ : ∃ V,t⁻¹ = V:=⟨_,rfl⟩
   have hi:=jN_ t HY.out
   rw [hV] at hi
   rw [Rat.div_def,hV]
   have HV : Hid (V9.num = -(t.den : Int) ∧ ((V9.den : Nat) : Int) = -t.num ∧ V9.num.natAbs < B ^ K ∧ V9.den < B ^ K):=⟨hi.1,hi.2,by rw [hi.1]; have:=HTD.out; omega,by have:=Hmn.out; have:=hi.2; omega⟩
   clear hi hV
   have HS:=H_ hs
   clear hs
   obtain ⟨sa,xa,ba,sa',xa',ba',rfl,ha,ha'⟩:=Ha
   obtain ⟨sb,xb,bb,sb',xb',bb',rfl,hb,hb'⟩:=Hb
   obtain ⟨hG,Ba,Bb,Bq⟩:=en3_ w (.cells #[.slice sa xa.length xa.length,.bool ba,.slice sa' xa'.length xa'.length,.bool ba'] 28) (.cells #[.slice sb xb.length xb.length,.bool bb,.slice sb' xb'.length xb'.length,.bool bb'] 28) (.cells #[.slice none 0 0,.bool false,.slice none 0 0,.bool false] 28)
   have oa : RatV w (.agg #[.slice sa xa.length xa.length,.bool ba,.slice sa' xa'.length xa'.length,.bool ba']) (r):=⟨sa,xa,ba,sa',xa',ba',rfl,ha,ha'⟩
   have qa:=oa.kept hG
   have ia:=(show IntV w (.agg #[.slice sa xa.length xa.length,.bool ba]) (r).num from ha).kept hG
   have ia':=(show IntV w (.agg #[.slice sa' xa'.length xa'.length,.bool ba']) (dn (r)) from ha').kept hG
   have ob : RatV w (.agg #[.slice sb xb.length xb.length,.bool bb,.slice sb' xb'.length xb'.length,.bool bb']) (t):=⟨sb,xb,bb,sb',xb',bb',rfl,hb,hb'⟩
   have qb:=ob.kept hG
   have ib:=(show IntV w (.agg #[.slice sb xb.length xb.length,.bool bb]) (t).num from hb).kept hG
   have ib':=(show IntV w (.agg #[.slice sb' xb'.length xb'.length,.bool bb']) (dn (t)) from hb').kept hG
   clear ha ha'
   clear hb hb'
   go_enter Tryz.func31,Tryz.ntmps31
   obtain ⟨Ca0,Ca1,Ca2,Ca3,Fa0,Fa1,Fa2,Fa3⟩:=b_ Ba
   obtain ⟨Cb0,Cb1,Cb2,Cb3,Fb0,Fb1,Fb2,Fb3⟩:=b_ Bb
   obtain ⟨Cq0,Cq1,Cq2,Cq3,Fq0,Fq1,Fq2,Fq3⟩:=b_ Bq
   go_wp2_with fail
   generalize (((w.alloc (.cells #[.slice sa xa.length xa.length,.bool ba,.slice sa' xa'.length xa'.length,.bool ba'] 28)).alloc (.cells #[.slice sb xb.length xb.length,.bool bb,.slice sb' xb'.length xb'.length,.bool bb'] 28)).alloc (.cells #[.slice none 0 0,.bool false,.slice none 0 0,.bool false] 28)) = w0 at *
   have Ha9:=H_ Ba
   have Hb9:=H_ Bb
   have Hq9:=H_ Bq
   have I9 : Hid (RatV w0 (.agg #[.slice sa xa.length xa.length,.bool ba,.slice sa' xa'.length xa'.length,.bool ba']) r ∧ RatV w0 (.agg #[.slice sb xb.length xb.length,.bool bb,.slice sb' xb'.length xb'.length,.bool bb']) t):=⟨qa,qb⟩
   have HG0:=H_ hG
   have hX : w0.grownBy w0 none:=h_ _ _
   have hs0 : w.heap.size + 1 + 1 < w0.heap.size:=(Array.getElem?_eq_some_iff.1 Bq).1
   have HS0:=H_ hs0
   go_cut [6,7] (fun p q wx=>∃ pe pj,p = .pointer (some ⟨pe,0,none⟩) ∧ q = .pointer (some ⟨pj,0,none⟩) ∧ BoxZ wx pe (t.den : Int) ∧ BoxZ wx pj t.num ∧ w.heap.size + 1 + 1 < pe ∧ pe ≠ pj ∧ w.heap.size + 1 + 1 < pj ∧ w0.grownBy wx none)
   case first =>
    clear Ca0 Fa0 Ca1 Fa1 Ca2 Fa2 Ca3 Fa3 Cb0 Fb0 Cb1 Fb1 Cb2 Fb2 Cb3 Fb3 Cq0 Fq0 Cq1 Fq1 Cq2 Fq2 Cq3 Fq3
    clear Ba Bq
    clear qa ia ia' ib'
    obtain ⟨Cb0,Cb1,Cb2,Cb3,Fb0,Fb1,Fb2,Fb3⟩:=b_ Bb
    refine wp_region_held_drew (S:=fun w'=>w'.cell? ⟨w.heap.size + 1,0,none⟩ = some (.slice sb xb.length xb.length) ∧ w'.cell? ⟨w.heap.size + 1,1,none⟩ = some (.bool bb) ∧ w'.cell? ⟨w.heap.size + 1,2,none⟩ = some (.slice sb' xb'.length xb'.length) ∧ w'.cell? ⟨w.heap.size + 1,3,none⟩ = some (.bool bb')) (by kernel_rfl) (by exact ⟨Cb0,Cb1,Cb2,Cb3⟩) (fun hHeld=>?_)
    have gd : w0.grownBy w0.drew none:=k_ (h_ _ _)
    clear Cb0 Fb0 Cb1 Fb1 Cb2 Fb2 Cb3 Fb3
    replace Bb:=a_ gd Bb
    replace qb:=qb.kept gd
    replace ib:=ib.kept gd
    replace hG:=d_ hG gd
    replace hX:=d_ hX gd
    clear gd
    generalize w0.drew = d1tw1 at *
    refine tk_ 0 ?_ rfl ?_ ?_
    rotate_left
    · (intro w hSw; (try dsimp only at hSw); go_simp; (try with_reducible rfl))
    try simp only [ly_]
    refine tk_ 2 ?_ rfl ?_ ?_
    rotate_left
    · (intro w hSw; (try dsimp only at hSw); go_simp; (try with_reducible rfl))
    try simp only [ly_]
    refine tk_ 3 ?_ rfl ?_ ?_
    rotate_left
    · (intro w hSw; (try dsimp only at hSw); go_simp; (try with_reducible rfl))
    try simp only [ly_]
    refine wpAnyH_ready (rs:=[1,4,5]) (by kernel_rfl) (by simp) ?_
    refine AllReadyH.cons rfl (fun KQ hKQ=>?_) (AllReadyH.cons rfl (fun KQ hKQ=>?_) (AllReadyH.cons rfl (fun KQ hKQ=>?_) AllReadyH.nil))
    focus
     go_simp
     go_at_call 66
     refine (u_ d1tw1 _ t K qb (by omega) Hmd.out).mono ?_
     rintro e d1tw2 ⟨_,rfl,⟨se,xe,be,rfl,he,ve,te⟩,gd1tw2⟩
     have ie : IntV d1tw2 (.agg #[.slice se xe.length xe.length,.bool be]) ((t.den : Int)):=⟨se,xe,be,rfl,he,ve,te⟩
     replace Bb:=a_ gd1tw2 Bb
     replace qb:=qb.kept gd1tw2
     replace ib:=ib.kept gd1tw2
     replace hG:=d_ hG gd1tw2
     replace hX:=d_ hX gd1tw2
     clear gd1tw2
     clear he ve te
     (try go_wp2_with fail)
     refine hKQ.out _ _ (by exact ⟨(b_ Bb).1,(b_ Bb).2.1,(b_ Bb).2.2.1,(b_ Bb).2.2.2.1⟩) (fun hHeld=>?_)
     clear hKQ KQ
     try simp only [ly_]
     refine wpAnyH_ready (rs:=[4,5]) (by kernel_rfl) (by simp) ?_
     refine AllReadyH.cons rfl (fun KQ hKQ=>?_) (AllReadyH.cons rfl (fun KQ hKQ=>?_) AllReadyH.nil)
     focus
      have gA:=wg_ d1tw2 (.cells #[.slice none 0 0,.bool false] 26) none
      have lohGk : w.heap.size ≤ d1tw2.heap.size:=hG.size
      have lohXk : w0.heap.size ≤ d1tw2.heap.size:=hX.size
      have ltbk : w.heap.size + 1 < d1tw2.heap.size:=g_ Bb
      have Bk_:=f_ d1tw2 (.cells #[.slice none 0 0,.bool false] 26) d1tw2.heap.size rfl
      replace Bb:=a_ gA Bb
      replace qb:=qb.kept gA
      replace ib:=ib.kept gA
      replace ie:=ie.kept gA
      replace hG:=d_ hG gA
      replace hX:=d_ hX gA
      clear gA
      go_simp
      generalize (d1tw2.alloc (.cells #[.slice none 0 0,.bool false] 26)) = d1tw3 at *
      generalize d1tw2.heap.size = pk at *
      have Bk:=Bk_
      clear Bk_
      refine hKQ.out _ _ (by exact ⟨(b_ Bb).1,(b_ Bb).2.1,(b_ Bb).2.2.1,(b_ Bb).2.2.2.1⟩) (fun hHeld=>?_)
      clear hKQ KQ
      try simp only [ly_]
      refine o1_ 5 rfl (fun KQ hKQ=>?_)
      have gA:=wg_ d1tw3 (.cells #[.slice none 0 0,.bool false] 26) none
      have lohGl : w.heap.size ≤ d1tw3.heap.size:=hG.size
      have lohXl : w0.heap.size ≤ d1tw3.heap.size:=hX.size
      have ltbl : w.heap.size + 1 < d1tw3.heap.size:=g_ Bb
      have ltkl : pk < d1tw3.heap.size:=g_ Bk
      have Bl_:=f_ d1tw3 (.cells #[.slice none 0 0,.bool false] 26) d1tw3.heap.size rfl
      replace Bb:=a_ gA Bb
      replace Bk:=a_ gA Bk
      replace qb:=qb.kept gA
      replace ib:=ib.kept gA
      replace ie:=ie.kept gA
      replace hG:=d_ hG gA
      replace hX:=d_ hX gA
      clear gA
      go_simp
      generalize (d1tw3.alloc (.cells #[.slice none 0 0,.bool false] 26)) = d1tw4 at *
      generalize d1tw3.heap.size = pl at *
      have Bl:=Bl_
      clear Bl_
      refine hKQ.out _ _ (by exact ⟨(b_ Bb).1,(b_ Bb).2.1,(b_ Bb).2.2.1,(b_ Bb).2.2.2.1⟩) (fun hHeld=>?_)
      clear hKQ KQ
      try simp only [ly_]
     rotate_left 1
     focus
      have gA:=wg_ d1tw2 (.cells #[.slice none 0 0,.bool false] 26) none
      have lohGl : w.heap.size ≤ d1tw2.heap.size:=hG.size
      have lohXl : w0.heap.size ≤ d1tw2.heap.size:=hX.size
      have ltbl : w.heap.size + 1 < d1tw2.heap.size:=g_ Bb
      have Bl_:=f_ d1tw2 (.cells #[.slice none 0 0,.bool false] 26) d1tw2.heap.size rfl
      replace Bb:=a_ gA Bb
      replace qb:=qb.kept gA
      replace ib:=ib.kept gA
      replace ie:=ie.kept gA
      replace hG:=d_ hG gA
      replace hX:=d_ hX gA
      clear gA
      go_simp
      generalize (d1tw2.alloc (.cells #[.slice none 0 0,.bool false] 26)) = d1tw3 at *
      generalize d1tw2.heap.size = pl at *
      have Bl:=Bl_
      clear Bl_
      refine hKQ.out _ _ (by exact ⟨(b_ Bb).1,(b_ Bb).2.1,(b_ Bb).2.2.1,(b_ Bb).2.2.2.1⟩) (fun hHeld=>?_)
      clear hKQ KQ
      try simp only [ly_]
      refine o1_ 4 rfl (fun KQ hKQ=>?_)
      have gA:=wg_ d1tw3 (.cells #[.slice none 0 0,.bool false] 26) none
      have lohGk : w.heap.size ≤ d1tw3.heap.size:=hG.size
      have lohXk : w0.heap.size ≤ d1tw3.heap.size:=hX.size
      have ltbk : w.heap.size + 1 < d1tw3.heap.size:=g_ Bb
      have ltlk : pl < d1tw3.heap.size:=g_ Bl
      have Bk_:=f_ d1tw3 (.cells #[.slice none 0 0,.bool false] 26) d1tw3.heap.size rfl
      replace Bb:=a_ gA Bb
      replace Bl:=a_ gA Bl
      replace qb:=qb.kept gA
      replace ib:=ib.kept gA
      replace ie:=ie.kept gA
      replace hG:=d_ hG gA
      replace hX:=d_ hX gA
      clear gA
      go_simp
      generalize (d1tw3.alloc (.cells #[.slice none 0 0,.bool false] 26)) = d1tw4 at *
      generalize d1tw3.heap.size = pk at *
      have Bk:=Bk_
      clear Bk_
      refine hKQ.out _ _ (by exact ⟨(b_ Bb).1,(b_ Bb).2.1,(b_ Bb).2.2.1,(b_ Bb).2.2.2.1⟩) (fun hHeld=>?_)
      clear hKQ KQ
      try simp only [ly_]
     rotate_left 1
    rotate_left 2
    focus
     have gA:=wg_ d1tw1 (.cells #[.slice none 0 0,.bool false] 26) none
     have lohGk : w.heap.size ≤ d1tw1.heap.size:=hG.size
     have lohXk : w0.heap.size ≤ d1tw1.heap.size:=hX.size
     have ltbk : w.heap.size + 1 < d1tw1.heap.size:=g_ Bb
     have Bk_:=f_ d1tw1 (.cells #[.slice none 0 0,.bool false] 26) d1tw1.heap.size rfl
     replace Bb:=a_ gA Bb
     replace qb:=qb.kept gA
     replace ib:=ib.kept gA
     replace hG:=d_ hG gA
     replace hX:=d_ hX gA
     clear gA
     go_simp
     generalize (d1tw1.alloc (.cells #[.slice none 0 0,.bool false] 26)) = d1tw2 at *
     generalize d1tw1.heap.size = pk at *
     have Bk:=Bk_
     clear Bk_
     refine hKQ.out _ _ (by exact ⟨(b_ Bb).1,(b_ Bb).2.1,(b_ Bb).2.2.1,(b_ Bb).2.2.2.1⟩) (fun hHeld=>?_)
     clear hKQ KQ
     try simp only [ly_]
     refine wpAnyH_ready (rs:=[1,5]) (by kernel_rfl) (by simp) ?_
     refine AllReadyH.cons rfl (fun KQ hKQ=>?_) (AllReadyH.cons rfl (fun KQ hKQ=>?_) AllReadyH.nil)
     focus
      go_simp
      go_at_call 66
      refine (u_ d1tw2 _ t K qb (by omega) Hmd.out).mono ?_
      rintro e d1tw3 ⟨_,rfl,⟨se,xe,be,rfl,he,ve,te⟩,gd1tw3⟩
      have ie : IntV d1tw3 (.agg #[.slice se xe.length xe.length,.bool be]) ((t.den : Int)):=⟨se,xe,be,rfl,he,ve,te⟩
      replace Bb:=a_ gd1tw3 Bb
      replace Bk:=a_ gd1tw3 Bk
      replace qb:=qb.kept gd1tw3
      replace ib:=ib.kept gd1tw3
      replace hG:=d_ hG gd1tw3
      replace hX:=d_ hX gd1tw3
      clear gd1tw3
      clear he ve te
      (try go_wp2_with fail)
      refine hKQ.out _ _ (by exact ⟨(b_ Bb).1,(b_ Bb).2.1,(b_ Bb).2.2.1,(b_ Bb).2.2.2.1⟩) (fun hHeld=>?_)
      clear hKQ KQ
      try simp only [ly_]
      refine o1_ 5 rfl (fun KQ hKQ=>?_)
      have gA:=wg_ d1tw3 (.cells #[.slice none 0 0,.bool false] 26) none
      have lohGl : w.heap.size ≤ d1tw3.heap.size:=hG.size
      have lohXl : w0.heap.size ≤ d1tw3.heap.size:=hX.size
      have ltbl : w.heap.size + 1 < d1tw3.heap.size:=g_ Bb
      have ltkl : pk < d1tw3.heap.size:=g_ Bk
      have Bl_:=f_ d1tw3 (.cells #[.slice none 0 0,.bool false] 26) d1tw3.heap.size rfl
      replace Bb:=a_ gA Bb
      replace Bk:=a_ gA Bk
      replace qb:=qb.kept gA
      replace ib:=ib.kept gA
      replace ie:=ie.kept gA
      replace hG:=d_ hG gA
      replace hX:=d_ hX gA
      clear gA
      go_simp
      generalize (d1tw3.alloc (.cells #[.slice none 0 0,.bool false] 26)) = d1tw4 at *
      generalize d1tw3.heap.size = pl at *
      have Bl:=Bl_
      clear Bl_
      refine hKQ.out _ _ (by exact ⟨(b_ Bb).1,(b_ Bb).2.1,(b_ Bb).2.2.1,(b_ Bb).2.2.2.1⟩) (fun hHeld=>?_)
      clear hKQ KQ
      try simp only [ly_]
     rotate_left 1
     focus
      have gA:=wg_ d1tw2 (.cells #[.slice none 0 0,.bool false] 26) none
      have lohGl : w.heap.size ≤ d1tw2.heap.size:=hG.size
      have lohXl : w0.heap.size ≤ d1tw2.heap.size:=hX.size
      have ltbl : w.heap.size + 1 < d1tw2.heap.size:=g_ Bb
      have ltkl : pk < d1tw2.heap.size:=g_ Bk
      have Bl_:=f_ d1tw2 (.cells #[.slice none 0 0,.bool false] 26) d1tw2.heap.size rfl
      replace Bb:=a_ gA Bb
      replace Bk:=a_ gA Bk
      replace qb:=qb.kept gA
      replace ib:=ib.kept gA
      replace hG:=d_ hG gA
      replace hX:=d_ hX gA
      clear gA
      go_simp
      generalize (d1tw2.alloc (.cells #[.slice none 0 0,.bool false] 26)) = d1tw3 at *
      generalize d1tw2.heap.size = pl at *
      have Bl:=Bl_
      clear Bl_
      refine hKQ.out _ _ (by exact ⟨(b_ Bb).1,(b_ Bb).2.1,(b_ Bb).2.2.1,(b_ Bb).2.2.2.1⟩) (fun hHeld=>?_)
      clear hKQ KQ
      try simp only [ly_]
      refine o1_ 1 rfl (fun KQ hKQ=>?_)
      go_simp
      go_at_call 66
      refine (u_ d1tw3 _ t K qb (by omega) Hmd.out).mono ?_
      rintro e d1tw4 ⟨_,rfl,⟨se,xe,be,rfl,he,ve,te⟩,gd1tw4⟩
      have ie : IntV d1tw4 (.agg #[.slice se xe.length xe.length,.bool be]) ((t.den : Int)):=⟨se,xe,be,rfl,he,ve,te⟩
      replace Bb:=a_ gd1tw4 Bb
      replace Bk:=a_ gd1tw4 Bk
      replace Bl:=a_ gd1tw4 Bl
      replace qb:=qb.kept gd1tw4
      replace ib:=ib.kept gd1tw4
      replace hG:=d_ hG gd1tw4
      replace hX:=d_ hX gd1tw4
      clear gd1tw4
      clear he ve te
      (try go_wp2_with fail)
      refine hKQ.out _ _ (by exact ⟨(b_ Bb).1,(b_ Bb).2.1,(b_ Bb).2.2.1,(b_ Bb).2.2.2.1⟩) (fun hHeld=>?_)
      clear hKQ KQ
      try simp only [ly_]
     rotate_left 1
    rotate_left 2
    focus
     have gA:=wg_ d1tw1 (.cells #[.slice none 0 0,.bool false] 26) none
     have lohGl : w.heap.size ≤ d1tw1.heap.size:=hG.size
     have lohXl : w0.heap.size ≤ d1tw1.heap.size:=hX.size
     have ltbl : w.heap.size + 1 < d1tw1.heap.size:=g_ Bb
     have Bl_:=f_ d1tw1 (.cells #[.slice none 0 0,.bool false] 26) d1tw1.heap.size rfl
     replace Bb:=a_ gA Bb
     replace qb:=qb.kept gA
     replace ib:=ib.kept gA
     replace hG:=d_ hG gA
     replace hX:=d_ hX gA
     clear gA
     go_simp
     generalize (d1tw1.alloc (.cells #[.slice none 0 0,.bool false] 26)) = d1tw2 at *
     generalize d1tw1.heap.size = pl at *
     have Bl:=Bl_
     clear Bl_
     refine hKQ.out _ _ (by exact ⟨(b_ Bb).1,(b_ Bb).2.1,(b_ Bb).2.2.1,(b_ Bb).2.2.2.1⟩) (fun hHeld=>?_)
     clear hKQ KQ
     try simp only [ly_]
     refine wpAnyH_ready (rs:=[1,4]) (by kernel_rfl) (by simp) ?_
     refine AllReadyH.cons rfl (fun KQ hKQ=>?_) (AllReadyH.cons rfl (fun KQ hKQ=>?_) AllReadyH.nil)
     focus
      go_simp
      go_at_call 66
      refine (u_ d1tw2 _ t K qb (by omega) Hmd.out).mono ?_
      rintro e d1tw3 ⟨_,rfl,⟨se,xe,be,rfl,he,ve,te⟩,gd1tw3⟩
      have ie : IntV d1tw3 (.agg #[.slice se xe.length xe.length,.bool be]) ((t.den : Int)):=⟨se,xe,be,rfl,he,ve,te⟩
      replace Bb:=a_ gd1tw3 Bb
      replace Bl:=a_ gd1tw3 Bl
      replace qb:=qb.kept gd1tw3
      replace ib:=ib.kept gd1tw3
      replace hG:=d_ hG gd1tw3
      replace hX:=d_ hX gd1tw3
      clear gd1tw3
      clear he ve te
      (try go_wp2_with fail)
      refine hKQ.out _ _ (by exact ⟨(b_ Bb).1,(b_ Bb).2.1,(b_ Bb).2.2.1,(b_ Bb).2.2.2.1⟩) (fun hHeld=>?_)
      clear hKQ KQ
      try simp only [ly_]
      refine o1_ 4 rfl (fun KQ hKQ=>?_)
      have gA:=wg_ d1tw3 (.cells #[.slice none 0 0,.bool false] 26) none
      have lohGk : w.heap.size ≤ d1tw3.heap.size:=hG.size
      have lohXk : w0.heap.size ≤ d1tw3.heap.size:=hX.size
      have ltbk : w.heap.size + 1 < d1tw3.heap.size:=g_ Bb
      have ltlk : pl < d1tw3.heap.size:=g_ Bl
      have Bk_:=f_ d1tw3 (.cells #[.slice none 0 0,.bool false] 26) d1tw3.heap.size rfl
      replace Bb:=a_ gA Bb
      replace Bl:=a_ gA Bl
      replace qb:=qb.kept gA
      replace ib:=ib.kept gA
      replace ie:=ie.kept gA
      replace hG:=d_ hG gA
      replace hX:=d_ hX gA
      clear gA
      go_simp
      generalize (d1tw3.alloc (.cells #[.slice none 0 0,.bool false] 26)) = d1tw4 at *
      generalize d1tw3.heap.size = pk at *
      have Bk:=Bk_
      clear Bk_
      refine hKQ.out _ _ (by exact ⟨(b_ Bb).1,(b_ Bb).2.1,(b_ Bb).2.2.1,(b_ Bb).2.2.2.1⟩) (fun hHeld=>?_)
      clear hKQ KQ
      try simp only [ly_]
     rotate_left 1
     focus
      have gA:=wg_ d1tw2 (.cells #[.slice none 0 0,.bool false] 26) none
      have lohGk : w.heap.size ≤ d1tw2.heap.size:=hG.size
      have lohXk : w0.heap.size ≤ d1tw2.heap.size:=hX.size
      have ltbk : w.heap.size + 1 < d1tw2.heap.size:=g_ Bb
      have ltlk : pl < d1tw2.heap.size:=g_ Bl
      have Bk_:=f_ d1tw2 (.cells #[.slice none 0 0,.bool false] 26) d1tw2.heap.size rfl
      replace Bb:=a_ gA Bb
      replace Bl:=a_ gA Bl
      replace qb:=qb.kept gA
      replace ib:=ib.kept gA
      replace hG:=d_ hG gA
      replace hX:=d_ hX gA
      clear gA
      go_simp
      generalize (d1tw2.alloc (.cells #[.slice none 0 0,.bool false] 26)) = d1tw3 at *
      generalize d1tw2.heap.size = pk at *
      have Bk:=Bk_
      clear Bk_
      refine hKQ.out _ _ (by exact ⟨(b_ Bb).1,(b_ Bb).2.1,(b_ Bb).2.2.1,(b_ Bb).2.2.2.1⟩) (fun hHeld=>?_)
      clear hKQ KQ
      try simp only [ly_]
      refine o1_ 1 rfl (fun KQ hKQ=>?_)
      go_simp
      go_at_call 66
      refine (u_ d1tw3 _ t K qb (by omega) Hmd.out).mono ?_
      rintro e d1tw4 ⟨_,rfl,⟨se,xe,be,rfl,he,ve,te⟩,gd1tw4⟩
      have ie : IntV d1tw4 (.agg #[.slice se xe.length xe.length,.bool be]) ((t.den : Int)):=⟨se,xe,be,rfl,he,ve,te⟩
      replace Bb:=a_ gd1tw4 Bb
      replace Bl:=a_ gd1tw4 Bl
      replace Bk:=a_ gd1tw4 Bk
      replace qb:=qb.kept gd1tw4
      replace ib:=ib.kept gd1tw4
      replace hG:=d_ hG gd1tw4
      replace hX:=d_ hX gd1tw4
      clear gd1tw4
      clear he ve te
      (try go_wp2_with fail)
      refine hKQ.out _ _ (by exact ⟨(b_ Bb).1,(b_ Bb).2.1,(b_ Bb).2.2.1,(b_ Bb).2.2.2.1⟩) (fun hHeld=>?_)
      clear hKQ KQ
      try simp only [ly_]
     rotate_left 1
    rotate_left 2
    all_goals (
     refine o1_ 6 rfl (fun KQ hKQ=>?_)
     obtain ⟨c0',c1',c2',c3'⟩:=c_ Bk
     go_simp
     clear c0' c1' c2' c3'
     replace qb:=qb.set2 Bk (.slice se xe.length xe.length) (.bool be)
     replace ib:=ib.set2 Bk (.slice se xe.length xe.length) (.bool be)
     replace ie:=ie.set2 Bk (.slice se xe.length xe.length) (.bool be)
     replace hG:=t_ (g:=pk) hG (by omega) (.slice se xe.length xe.length) (.bool be)
     replace hX:=t_ (g:=pk) hX (by omega) (.slice se xe.length xe.length) (.bool be)
     replace Bb:=e_ Bb (show w.heap.size + 1 ≠ pk by omega) (.slice se xe.length xe.length) (.bool be)
     replace Bl:=e_ Bl (show pl ≠ pk by omega) (.slice se xe.length xe.length) (.bool be)
     replace Bk:=m_ Bk (.slice se xe.length xe.length) (.bool be)
     generalize ((d1tw4.setCell ⟨pk,0,none⟩ (.slice se xe.length xe.length)).setCell ⟨pk,1,none⟩ (.bool be)) = d1tw5 at *
     refine hKQ.out _ _ (by exact ⟨(b_ Bb).1,(b_ Bb).2.1,(b_ Bb).2.2.1,(b_ Bb).2.2.2.1⟩) (fun hHeld=>?_)
     clear hKQ KQ
     try simp only [ly_]
     refine o1_ 7 rfl (fun KQ hKQ=>?_)
     obtain ⟨c0',c1',c2',c3'⟩:=c_ Bl
     go_simp
     clear c0' c1' c2' c3'
     replace qb:=qb.set2 Bl (.slice sb xb.length xb.length) (.bool bb)
     replace ib:=ib.set2 Bl (.slice sb xb.length xb.length) (.bool bb)
     replace ie:=ie.set2 Bl (.slice sb xb.length xb.length) (.bool bb)
     replace hG:=t_ (g:=pl) hG (by omega) (.slice sb xb.length xb.length) (.bool bb)
     replace hX:=t_ (g:=pl) hX (by omega) (.slice sb xb.length xb.length) (.bool bb)
     replace Bb:=e_ Bb (show w.heap.size + 1 ≠ pl by omega) (.slice sb xb.length xb.length) (.bool bb)
     replace Bk:=e_ Bk (show pk ≠ pl by omega) (.slice sb xb.length xb.length) (.bool bb)
     replace Bl:=m_ Bl (.slice sb xb.length xb.length) (.bool bb)
     generalize ((d1tw5.setCell ⟨pl,0,none⟩ (.slice sb xb.length xb.length)).setCell ⟨pl,1,none⟩ (.bool bb)) = d1tw6 at *
     refine hKQ.out _ _ (by exact ⟨(b_ Bb).1,(b_ Bb).2.1,(b_ Bb).2.2.1,(b_ Bb).2.2.2.1⟩) (fun hHeld=>?_)
     clear hKQ KQ
     try simp only [ly_]
     refine wpAnyH_done (by kernel_rfl) ?_ _
     go_wp2_with fail
     go_meet
     exact ⟨pk,pl,rfl,rfl,⟨_,_,_,Bk,ie⟩,⟨_,_,_,Bl,ib⟩,by omega,by omega,by omega,hX⟩)
   case rest =>
    clear hG hX hs0 qa ia ia' qb ib ib' Ba Bb Bq
    obtain ⟨pe,pj,rfl,rfl,Ke,Kj,le,lej,lj,hX⟩:=hcut
    obtain ⟨se,xe,be,Be,ie⟩:=Ke.open
    obtain ⟨sj,xj,bj,Bj,ij⟩:=Kj.open
    have hG:=d_ HG0.out hX
    have Ba:=a_ hX Ha9.out
    have Bb:=a_ hX Hb9.out
    have Bq:=a_ hX Hq9.out
    have qa:=I9.out.1.kept hX
    have qb:=I9.out.2.kept hX
    clear hX
    obtain ⟨Ca0,Ca1,Ca2,Ca3,Fa0,Fa1,Fa2,Fa3⟩:=b_ Ba
    obtain ⟨Cb0,Cb1,Cb2,Cb3,Fb0,Fb1,Fb2,Fb3⟩:=b_ Bb
    obtain ⟨Cq0,Cq1,Cq2,Cq3,Fq0,Fq1,Fq2,Fq3⟩:=b_ Bq
    obtain ⟨Ce0,Ce1,Fe0,Fe1⟩:=c_ Be
    obtain ⟨Cj0,Cj1,Fj0,Fj1⟩:=c_ Bj
    go_wp2_with fail
    clear Ca0 Fa0 Ca1 Fa1 Ca2 Fa2 Ca3 Fa3 Cb0 Fb0 Cb1 Fb1 Cb2 Fb2 Cb3 Fb3 Cq0 Fq0 Cq1 Fq1 Cq2 Fq2 Cq3 Fq3 Ce0 Fe0 Ce1 Fe1 Cj0 Fj0 Cj1 Fj1
    refine (S_ wc _ t K qb (by omega) Hmn.out).mono ?_
    rintro e d1w1 ⟨rfl,gd1w1⟩
    rw [HS.out]
    replace Ba:=a_ gd1w1 Ba
    replace Bb:=a_ gd1w1 Bb
    replace Bq:=a_ gd1w1 Bq
    replace Be:=a_ gd1w1 Be
    replace Bj:=a_ gd1w1 Bj
    replace qa:=qa.kept gd1w1
    replace ie:=ie.kept gd1w1
    replace ij:=ij.kept gd1w1
    replace hG:=d_ hG gd1w1
    clear gd1w1
    obtain ⟨Ca0,Ca1,Ca2,Ca3,Fa0,Fa1,Fa2,Fa3⟩:=b_ Ba
    obtain ⟨Cb0,Cb1,Cb2,Cb3,Fb0,Fb1,Fb2,Fb3⟩:=b_ Bb
    obtain ⟨Cq0,Cq1,Cq2,Cq3,Fq0,Fq1,Fq2,Fq3⟩:=b_ Bq
    obtain ⟨Ce0,Ce1,Fe0,Fe1⟩:=c_ Be
    obtain ⟨Cj0,Cj1,Fj0,Fj1⟩:=c_ Bj
    go_wp2_with fail
    clear Ca0 Fa0 Ca1 Fa1 Ca2 Fa2 Ca3 Fa3 Cb0 Fb0 Cb1 Fb1 Cb2 Fb2 Cb3 Fb3 Cq0 Fq0 Cq1 Fq1 Cq2 Fq2 Cq3 Fq3 Ce0 Fe0 Ce1 Fe1 Cj0 Fj0 Cj1 Fj1
    clear Bb
    clear qb
    refine wp_region_held_drew (S:=fun w'=>True) (by kernel_rfl) (by exact trivial) (fun hHeld=>?_)
    have gd : d1w1.grownBy d1w1.drew none:=k_ (h_ _ _)
    replace Ba:=a_ gd Ba
    replace Bq:=a_ gd Bq
    replace Be:=a_ gd Be
    replace Bj:=a_ gd Bj
    replace qa:=qa.kept gd
    replace ie:=ie.kept gd
    replace ij:=ij.kept gd
    replace hG:=d_ hG gd
    clear gd
    generalize d1w1.drew = d1w2 at *
    refine wpAnyH_ready (rs:=[0,2]) (by kernel_rfl) (by simp) ?_
    refine AllReadyH.cons rfl (fun KQ hKQ=>?_) (AllReadyH.cons rfl (fun KQ hKQ=>?_) AllReadyH.nil)
    focus
     obtain ⟨c0',c1',c2',c3'⟩:=c_ Be
     go_simp
     refine hKQ.out _ _ (by exact trivial) (fun hHeld=>?_)
     clear hKQ KQ
     try simp only [ly_]
     refine wpAnyH_ready (rs:=[1,2]) (by kernel_rfl) (by simp) ?_
     refine AllReadyH.cons rfl (fun KQ hKQ=>?_) (AllReadyH.cons rfl (fun KQ hKQ=>?_) AllReadyH.nil)
     focus
      go_simp
      go_at_call 67
      refine (as_ d1w2 _ (t.den : Int) K ie (by omega) HTD.out).mono ?_
      rintro e d1w3 ⟨_,rfl,⟨sm,xm,bm,rfl,hm,vm,tm⟩,gd1w3⟩
      have im : IntV d1w3 (.agg #[.slice sm xm.length xm.length,.bool bm]) (-(t.den : Int)):=⟨sm,xm,bm,rfl,hm,vm,tm⟩
      replace Ba:=a_ gd1w3 Ba
      replace Bq:=a_ gd1w3 Bq
      replace Be:=a_ gd1w3 Be
      replace Bj:=a_ gd1w3 Bj
      replace qa:=qa.kept gd1w3
      replace ie:=ie.kept gd1w3
      replace ij:=ij.kept gd1w3
      replace hG:=d_ hG gd1w3
      clear gd1w3
      clear hm vm tm
      (try go_wp2_with fail)
      refine hKQ.out _ _ (by exact trivial) (fun hHeld=>?_)
      clear hKQ KQ
      try simp only [ly_]
      refine o1_ 2 rfl (fun KQ hKQ=>?_)
      obtain ⟨c0',c1',c2',c3'⟩:=c_ Bj
      go_simp
      refine hKQ.out _ _ (by exact trivial) (fun hHeld=>?_)
      clear hKQ KQ
      try simp only [ly_]
      refine o1_ 3 rfl (fun KQ hKQ=>?_)
      go_simp
      go_at_call 67
      refine (as_ d1w3 _ t.num K ij (by omega) Hmn.out).mono ?_
      rintro e d1w4 ⟨_,rfl,⟨sp,xp,bp,rfl,hp,vp,tp⟩,gd1w4⟩
      have ip : IntV d1w4 (.agg #[.slice sp xp.length xp.length,.bool bp]) (-t.num):=⟨sp,xp,bp,rfl,hp,vp,tp⟩
      replace Ba:=a_ gd1w4 Ba
      replace Bq:=a_ gd1w4 Bq
      replace Be:=a_ gd1w4 Be
      replace Bj:=a_ gd1w4 Bj
      replace qa:=qa.kept gd1w4
      replace ie:=ie.kept gd1w4
      replace ij:=ij.kept gd1w4
      replace im:=im.kept gd1w4
      replace hG:=d_ hG gd1w4
      clear gd1w4
      clear hp vp tp
      (try go_wp2_with fail)
      refine hKQ.out _ _ (by exact trivial) (fun hHeld=>?_)
      clear hKQ KQ
      try simp only [ly_]
     rotate_left 1
     focus
      obtain ⟨c0',c1',c2',c3'⟩:=c_ Bj
      go_simp
      refine hKQ.out _ _ (by exact trivial) (fun hHeld=>?_)
      clear hKQ KQ
      try simp only [ly_]
      refine o1_ 1 rfl (fun KQ hKQ=>?_)
      go_simp
      go_at_call 67
      refine (as_ d1w2 _ (t.den : Int) K ie (by omega) HTD.out).mono ?_
      rintro e d1w3 ⟨_,rfl,⟨sm,xm,bm,rfl,hm,vm,tm⟩,gd1w3⟩
      have im : IntV d1w3 (.agg #[.slice sm xm.length xm.length,.bool bm]) (-(t.den : Int)):=⟨sm,xm,bm,rfl,hm,vm,tm⟩
      replace Ba:=a_ gd1w3 Ba
      replace Bq:=a_ gd1w3 Bq
      replace Be:=a_ gd1w3 Be
      replace Bj:=a_ gd1w3 Bj
      replace qa:=qa.kept gd1w3
      replace ie:=ie.kept gd1w3
      replace ij:=ij.kept gd1w3
      replace hG:=d_ hG gd1w3
      clear gd1w3
      clear hm vm tm
      (try go_wp2_with fail)
      refine hKQ.out _ _ (by exact trivial) (fun hHeld=>?_)
      clear hKQ KQ
      try simp only [ly_]
      refine o1_ 3 rfl (fun KQ hKQ=>?_)
      go_simp
      go_at_call 67
      refine (as_ d1w3 _ t.num K ij (by omega) Hmn.out).mono ?_
      rintro e d1w4 ⟨_,rfl,⟨sp,xp,bp,rfl,hp,vp,tp⟩,gd1w4⟩
      have ip : IntV d1w4 (.agg #[.slice sp xp.length xp.length,.bool bp]) (-t.num):=⟨sp,xp,bp,rfl,hp,vp,tp⟩
      replace Ba:=a_ gd1w4 Ba
      replace Bq:=a_ gd1w4 Bq
      replace Be:=a_ gd1w4 Be
      replace Bj:=a_ gd1w4 Bj
      replace qa:=qa.kept gd1w4
      replace ie:=ie.kept gd1w4
      replace ij:=ij.kept gd1w4
      replace im:=im.kept gd1w4
      replace hG:=d_ hG gd1w4
      clear gd1w4
      clear hp vp tp
      (try go_wp2_with fail)
      refine hKQ.out _ _ (by exact trivial) (fun hHeld=>?_)
      clear hKQ KQ
      try simp only [ly_]
     rotate_left 1
    rotate_left 2
    focus
     obtain ⟨c0',c1',c2',c3'⟩:=c_ Bj
     go_simp
     refine hKQ.out _ _ (by exact trivial) (fun hHeld=>?_)
     clear hKQ KQ
     try simp only [ly_]
     refine o1_ 0 rfl (fun KQ hKQ=>?_)
     obtain ⟨c0',c1',c2',c3'⟩:=c_ Be
     go_simp
     refine hKQ.out _ _ (by exact trivial) (fun hHeld=>?_)
     clear hKQ KQ
     try simp only [ly_]
     refine o1_ 1 rfl (fun KQ hKQ=>?_)
     go_simp
     go_at_call 67
     refine (as_ d1w2 _ (t.den : Int) K ie (by omega) HTD.out).mono ?_
     rintro e d1w3 ⟨_,rfl,⟨sm,xm,bm,rfl,hm,vm,tm⟩,gd1w3⟩
     have im : IntV d1w3 (.agg #[.slice sm xm.length xm.length,.bool bm]) (-(t.den : Int)):=⟨sm,xm,bm,rfl,hm,vm,tm⟩
     replace Ba:=a_ gd1w3 Ba
     replace Bq:=a_ gd1w3 Bq
     replace Be:=a_ gd1w3 Be
     replace Bj:=a_ gd1w3 Bj
     replace qa:=qa.kept gd1w3
     replace ie:=ie.kept gd1w3
     replace ij:=ij.kept gd1w3
     replace hG:=d_ hG gd1w3
     clear gd1w3
     clear hm vm tm
     (try go_wp2_with fail)
     refine hKQ.out _ _ (by exact trivial) (fun hHeld=>?_)
     clear hKQ KQ
     try simp only [ly_]
     refine o1_ 3 rfl (fun KQ hKQ=>?_)
     go_simp
     go_at_call 67
     refine (as_ d1w3 _ t.num K ij (by omega) Hmn.out).mono ?_
     rintro e d1w4 ⟨_,rfl,⟨sp,xp,bp,rfl,hp,vp,tp⟩,gd1w4⟩
     have ip : IntV d1w4 (.agg #[.slice sp xp.length xp.length,.bool bp]) (-t.num):=⟨sp,xp,bp,rfl,hp,vp,tp⟩
     replace Ba:=a_ gd1w4 Ba
     replace Bq:=a_ gd1w4 Bq
     replace Be:=a_ gd1w4 Be
     replace Bj:=a_ gd1w4 Bj
     replace qa:=qa.kept gd1w4
     replace ie:=ie.kept gd1w4
     replace ij:=ij.kept gd1w4
     replace im:=im.kept gd1w4
     replace hG:=d_ hG gd1w4
     clear gd1w4
     clear hp vp tp
     (try go_wp2_with fail)
     refine hKQ.out _ _ (by exact trivial) (fun hHeld=>?_)
     clear hKQ KQ
     try simp only [ly_]
    rotate_left 1
    all_goals (
     refine o1_ 4 rfl (fun KQ hKQ=>?_)
     obtain ⟨c0',c1',c2',c3'⟩:=c_ Be
     go_simp
     clear c0' c1' c2' c3'
     replace qa:=qa.set2 Be (.slice sm xm.length xm.length) (.bool bm)
     replace ie:=ie.set2 Be (.slice sm xm.length xm.length) (.bool bm)
     replace ij:=ij.set2 Be (.slice sm xm.length xm.length) (.bool bm)
     replace im:=im.set2 Be (.slice sm xm.length xm.length) (.bool bm)
     replace ip:=ip.set2 Be (.slice sm xm.length xm.length) (.bool bm)
     replace hG:=t_ (g:=pe) hG (by omega) (.slice sm xm.length xm.length) (.bool bm)
     replace Ba:=e_ Ba (show w.heap.size ≠ pe by omega) (.slice sm xm.length xm.length) (.bool bm)
     replace Bq:=e_ Bq (show w.heap.size + 1 + 1 ≠ pe by omega) (.slice sm xm.length xm.length) (.bool bm)
     replace Bj:=e_ Bj (show pj ≠ pe by omega) (.slice sm xm.length xm.length) (.bool bm)
     replace Be:=m_ Be (.slice sm xm.length xm.length) (.bool bm)
     generalize ((d1w4.setCell ⟨pe,0,none⟩ (.slice sm xm.length xm.length)).setCell ⟨pe,1,none⟩ (.bool bm)) = d1w5 at *
     refine hKQ.out _ _ (by exact trivial) (fun hHeld=>?_)
     clear hKQ KQ
     try simp only [ly_]
     refine o1_ 5 rfl (fun KQ hKQ=>?_)
     obtain ⟨c0',c1',c2',c3'⟩:=c_ Bj
     go_simp
     clear c0' c1' c2' c3'
     replace qa:=qa.set2 Bj (.slice sp xp.length xp.length) (.bool bp)
     replace ie:=ie.set2 Bj (.slice sp xp.length xp.length) (.bool bp)
     replace ij:=ij.set2 Bj (.slice sp xp.length xp.length) (.bool bp)
     replace im:=im.set2 Bj (.slice sp xp.length xp.length) (.bool bp)
     replace ip:=ip.set2 Bj (.slice sp xp.length xp.length) (.bool bp)
     replace hG:=t_ (g:=pj) hG (by omega) (.slice sp xp.length xp.length) (.bool bp)
     replace Ba:=e_ Ba (show w.heap.size ≠ pj by omega) (.slice sp xp.length xp.length) (.bool bp)
     replace Bq:=e_ Bq (show w.heap.size + 1 + 1 ≠ pj by omega) (.slice sp xp.length xp.length) (.bool bp)
     replace Be:=e_ Be (show pe ≠ pj by omega) (.slice sp xp.length xp.length) (.bool bp)
     replace Bj:=m_ Bj (.slice sp xp.length xp.length) (.bool bp)
     generalize ((d1w5.setCell ⟨pj,0,none⟩ (.slice sp xp.length xp.length)).setCell ⟨pj,1,none⟩ (.bool bp)) = d1w6 at *
     refine hKQ.out _ _ (by exact trivial) (fun hHeld=>?_)
     clear hKQ KQ
     try simp only [ly_]
     refine wpAnyH_done (by kernel_rfl) ?_ _
     clear ie ij
     obtain ⟨Ca0,Ca1,Ca2,Ca3,Fa0,Fa1,Fa2,Fa3⟩:=b_ Ba
     obtain ⟨Cq0,Cq1,Cq2,Cq3,Fq0,Fq1,Fq2,Fq3⟩:=b_ Bq
     obtain ⟨Ce0,Ce1,Fe0,Fe1⟩:=c_ Be
     obtain ⟨Cj0,Cj1,Fj0,Fj1⟩:=c_ Bj
     go_wp2_with fail
     rw [← HV.out.1] at im
     rw [← HV.out.2.1] at ip
     have i_a:=qa.parts.1
     have HT3 : Hid (∀ W,d1w6.grownBy W none → Tab W):=fun W hW=>HTB.out _ (d_ hG hW)
     go_region_held3 (fun w'=>w'.cell? ⟨w.heap.size,0,none⟩ = some (.slice sa xa.length xa.length) ∧ w'.cell? ⟨w.heap.size,1,none⟩ = some (.bool ba) ∧ w'.cell? ⟨w.heap.size,2,none⟩ = some (.slice sa' xa'.length xa'.length) ∧ w'.cell? ⟨w.heap.size,3,none⟩ = some (.bool ba') ∧ w'.cell? ⟨pe,0,none⟩ = some (.slice sm xm.length xm.length) ∧ w'.cell? ⟨pe,1,none⟩ = some (.bool bm) ∧ w'.cell? ⟨pj,0,none⟩ = some (.slice sp xp.length xp.length) ∧ w'.cell? ⟨pj,1,none⟩ = some (.bool bp))
      (first | assumption | exact ⟨Ca0,Ca1,Ca2,Ca3,Ce0,Ce1,Cj0,Cj1⟩ | exact HSd1w7_20 | go_keep)
      (first
        | (go_at_call 66; (with_reducible refine (u_ d1w6.drew _ r K (qa.kept (k_ (h_ _ _))) (by omega) Hld.out).mono ?_); rintro e d1w7_1 ⟨v1,rfl,n1,gd1w7_1⟩; have hGd1w7_1:=o_ d1w6 gd1w7_1 rfl rfl rfl rfl; have hSd1w7_1:=(n_ (hGd1w7_1.cell Ca0 (by simp)) (n_ (hGd1w7_1.cell Ca1 (by simp)) (n_ (hGd1w7_1.cell Ca2 (by simp)) (n_ (hGd1w7_1.cell Ca3 (by simp)) (n_ (hGd1w7_1.cell Ce0 (by simp)) (n_ (hGd1w7_1.cell Ce1 (by simp)) (n_ (hGd1w7_1.cell Cj0 (by simp)) (hGd1w7_1.cell Cj1 (by simp))))))))); clear gd1w7_1)
        | (go_at_call 77; (with_reducible refine (by_ d1w7_1 _ _ _ _ r V9 K (i_a.kept hGd1w7_1) n1 (im.kept hGd1w7_1) (ip.kept hGd1w7_1) (by omega) Hln.out Hld.out HV.out.2.2.1 HV.out.2.2.2 (HT3.out _ hGd1w7_1)).mono ?_); rintro e d1w7_2 ⟨_,rfl,⟨sd,xd,bd,sd',xd',bd',rfl,hd,hd'⟩,gd1w7_2⟩; have hGd1w7_2:=d_ hGd1w7_1 gd1w7_2; replace n1:=n1.kept gd1w7_2; have qd : RatV d1w7_2 (.agg #[.slice sd xd.length xd.length,.bool bd,.slice sd' xd'.length xd'.length,.bool bd']) (r * V9):=⟨sd,xd,bd,sd',xd',bd',rfl,hd,hd'⟩; have hSd1w7_2:=(n_ (hGd1w7_2.cell Ca0 (by simp)) (n_ (hGd1w7_2.cell Ca1 (by simp)) (n_ (hGd1w7_2.cell Ca2 (by simp)) (n_ (hGd1w7_2.cell Ca3 (by simp)) (n_ (hGd1w7_2.cell Ce0 (by simp)) (n_ (hGd1w7_2.cell Ce1 (by simp)) (n_ (hGd1w7_2.cell Cj0 (by simp)) (hGd1w7_2.cell Cj1 (by simp))))))))); clear gd1w7_2; clear hd hd'; (obtain ⟨dq0,dq1,dq2,dq3,dq4,dq5,dq6,dq7⟩:=b_ (a_ hGd1w7_2 Bq)); have HSd1w7_20:=(n_ ((b_ (i_ (a_ hGd1w7_2 Ba) (show w.heap.size ≠ w.heap.size + 1 + 1 by omega) (.slice sd xd.length xd.length) (.bool bd) (.slice sd' xd'.length xd'.length) (.bool bd'))).1) (n_ ((b_ (i_ (a_ hGd1w7_2 Ba) (show w.heap.size ≠ w.heap.size + 1 + 1 by omega) (.slice sd xd.length xd.length) (.bool bd) (.slice sd' xd'.length xd'.length) (.bool bd'))).2.1) (n_ ((b_ (i_ (a_ hGd1w7_2 Ba) (show w.heap.size ≠ w.heap.size + 1 + 1 by omega) (.slice sd xd.length xd.length) (.bool bd) (.slice sd' xd'.length xd'.length) (.bool bd'))).2.2.1) (n_ ((b_ (i_ (a_ hGd1w7_2 Ba) (show w.heap.size ≠ w.heap.size + 1 + 1 by omega) (.slice sd xd.length xd.length) (.bool bd) (.slice sd' xd'.length xd'.length) (.bool bd'))).2.2.2.1) (n_ ((c_ (i_ (a_ hGd1w7_2 Be) (show pe ≠ w.heap.size + 1 + 1 by omega) (.slice sd xd.length xd.length) (.bool bd) (.slice sd' xd'.length xd'.length) (.bool bd'))).1) (n_ ((c_ (i_ (a_ hGd1w7_2 Be) (show pe ≠ w.heap.size + 1 + 1 by omega) (.slice sd xd.length xd.length) (.bool bd) (.slice sd' xd'.length xd'.length) (.bool bd'))).2.1) (n_ ((c_ (i_ (a_ hGd1w7_2 Bj) (show pj ≠ w.heap.size + 1 + 1 by omega) (.slice sd xd.length xd.length) (.bool bd) (.slice sd' xd'.length xd'.length) (.bool bd'))).1) ((c_ (i_ (a_ hGd1w7_2 Bj) (show pj ≠ w.heap.size + 1 + 1 by omega) (.slice sd xd.length xd.length) (.bool bd) (.slice sd' xd'.length xd'.length) (.bool bd'))).2.1))))))))))
     replace Ba:=a_ hGd1w7_2 Ba
     replace Bq:=a_ hGd1w7_2 Bq
     replace Be:=a_ hGd1w7_2 Be
     replace Bj:=a_ hGd1w7_2 Bj
     replace hG:=d_ hG hGd1w7_2
     clear Ca0 Fa0 Ca1 Fa1 Ca2 Fa2 Ca3 Fa3 Cq0 Fq0 Cq1 Fq1 Cq2 Fq2 Cq3 Fq3 Ce0 Fe0 Ce1 Fe1 Cj0 Fj0 Cj1 Fj1
     obtain ⟨k90,k91,k92,k93,k94,k95,k96,k97⟩:=b_ Bq
     obtain ⟨q90,q91,q92,q93,q94,q95,q96,q97⟩:=b_ (r_ Bq (.slice sd xd.length xd.length) (.bool bd) (.slice sd' xd'.length xd'.length) (.bool bd'))
     have hF : Hid (V_ w (r * V9) 0 (.returned (.tuple #[.agg #[.slice sd xd.length xd.length,.bool bd,.slice sd' xd'.length xd'.length,.bool bd'],.int .i64 0])) ((((d1w7_2.setCell ⟨w.heap.size + 1 + 1,0,none⟩ (.slice sd xd.length xd.length)).setCell ⟨w.heap.size + 1 + 1,1,none⟩ (.bool bd)).setCell ⟨w.heap.size + 1 + 1,2,none⟩ (.slice sd' xd'.length xd'.length)).setCell ⟨w.heap.size + 1 + 1,3,none⟩ (.bool bd'))):=av_ hG Bq (by omega) qd
     clear qa im ip i_a n1 qd
     obtain ⟨Ca0,Ca1,Ca2,Ca3,Fa0,Fa1,Fa2,Fa3⟩:=b_ Ba
     obtain ⟨Ce0,Ce1,Fe0,Fe1⟩:=c_ Be
     obtain ⟨Cj0,Cj1,Fj0,Fj1⟩:=c_ Bj
     go_wp2_with fail
     exact bodyPost_ret (v:=.tuple #[.agg #[.slice sd xd.length xd.length,.bool bd,.slice sd' xd'.length xd'.length,.bool bd'],.int .i64 0]) (by simp [results,Tryz.results31,go_sem,q90,q91,q92,q93]) rfl hF.out)
 · skip
   rw [if_neg (show ¬ t = 0 from fun h=>by have h1:=HY.out; rw [h] at h1; exact absurd h1 (by decide))]
   obtain ⟨V9,hV⟩ : ∃ V,t⁻¹ = V:=⟨_,rfl⟩
   have hi:=jM_ t HY.out
   rw [hV] at hi
   rw [Rat.div_def,hV]
   have HV : Hid (V9.num = (t.den : Int) ∧ ((V9.den : Nat) : Int) = t.num ∧ V9.num.natAbs < B ^ K ∧ V9.den < B ^ K):=⟨hi.1,hi.2,by rw [hi.1]; have:=HTD.out; omega,by have:=Hmn.out; have:=hi.2; omega⟩
   clear hi hV
   have HS:=H_ hs
   clear hs
   obtain ⟨sa,xa,ba,sa',xa',ba',rfl,ha,ha'⟩:=Ha
   obtain ⟨sb,xb,bb,sb',xb',bb',rfl,hb,hb'⟩:=Hb
   obtain ⟨hG,Ba,Bb,Bq⟩:=en3_ w (.cells #[.slice sa xa.length xa.length,.bool ba,.slice sa' xa'.length xa'.length,.bool ba'] 28) (.cells #[.slice sb xb.length xb.length,.bool bb,.slice sb' xb'.length xb'.length,.bool bb'] 28) (.cells #[.slice none 0 0,.bool false,.slice none 0 0,.bool false] 28)
   have oa : RatV w (.agg #[.slice sa xa.length xa.length,.bool ba,.slice sa' xa'.length xa'.length,.bool ba']) (r):=⟨sa,xa,ba,sa',xa',ba',rfl,ha,ha'⟩
   have qa:=oa.kept hG
   have ia:=(show IntV w (.agg #[.slice sa xa.length xa.length,.bool ba]) (r).num from ha).kept hG
   have ia':=(show IntV w (.agg #[.slice sa' xa'.length xa'.length,.bool ba']) (dn (r)) from ha').kept hG
   have ob : RatV w (.agg #[.slice sb xb.length xb.length,.bool bb,.slice sb' xb'.length xb'.length,.bool bb']) (t):=⟨sb,xb,bb,sb',xb',bb',rfl,hb,hb'⟩
   have qb:=ob.kept hG
   have ib:=(show IntV w (.agg #[.slice sb xb.length xb.length,.bool bb]) (t).num from hb).kept hG
   have ib':=(show IntV w (.agg #[.slice sb' xb'.length xb'.length,.bool bb']) (dn (t)) from hb').kept hG
   clear ha ha'
   clear hb hb'
   go_enter Tryz.func31,Tryz.ntmps31
   obtain ⟨Ca0,Ca1,Ca2,Ca3,Fa0,Fa1,Fa2,Fa3⟩:=b_ Ba
   obtain ⟨Cb0,Cb1,Cb2,Cb3,Fb0,Fb1,Fb2,Fb3⟩:=b_ Bb
   obtain ⟨Cq0,Cq1,Cq2,Cq3,Fq0,Fq1,Fq2,Fq3⟩:=b_ Bq
   go_wp2_with fail
   generalize (((w.alloc (.cells #[.slice sa xa.length xa.length,.bool ba,.slice sa' xa'.length xa'.length,.bool ba'] 28)).alloc (.cells #[.slice sb xb.length xb.length,.bool bb,.slice sb' xb'.length xb'.length,.bool bb'] 28)).alloc (.cells #[.slice none 0 0,.bool false,.slice none 0 0,.bool false] 28)) = w0 at *
   have Ha9:=H_ Ba
   have Hb9:=H_ Bb
   have Hq9:=H_ Bq
   have I9 : Hid (RatV w0 (.agg #[.slice sa xa.length xa.length,.bool ba,.slice sa' xa'.length xa'.length,.bool ba']) r ∧ RatV w0 (.agg #[.slice sb xb.length xb.length,.bool bb,.slice sb' xb'.length xb'.length,.bool bb']) t):=⟨qa,qb⟩
   have HG0:=H_ hG
   have hX : w0.grownBy w0 none:=h_ _ _
   have hs0 : w.heap.size + 1 + 1 < w0.heap.size:=(Array.getElem?_eq_some_iff.1 Bq).1
   have HS0:=H_ hs0
   go_cut [6,7] (fun p q wx=>∃ pe pj,p = .pointer (some ⟨pe,0,none⟩) ∧ q = .pointer (some ⟨pj,0,none⟩) ∧ BoxZ wx pe (t.den : Int) ∧ BoxZ wx pj t.num ∧ w.heap.size + 1 + 1 < pe ∧ pe ≠ pj ∧ w.heap.size + 1 + 1 < pj ∧ w0.grownBy wx none)
   case first =>
    clear Ca0 Fa0 Ca1 Fa1 Ca2 Fa2 Ca3 Fa3 Cb0 Fb0 Cb1 Fb1 Cb2 Fb2 Cb3 Fb3 Cq0 Fq0 Cq1 Fq1 Cq2 Fq2 Cq3 Fq3
    clear Ba Bq
    clear qa ia ia' ib'
    obtain ⟨Cb0,Cb1,Cb2,Cb3,Fb0,Fb1,Fb2,Fb3⟩:=b_ Bb
    refine wp_region_held_drew (S:=fun w'=>w'.cell? ⟨w.heap.size + 1,0,none⟩ = some (.slice sb xb.length xb.length) ∧ w'.cell? ⟨w.heap.size + 1,1,none⟩ = some (.bool bb) ∧ w'.cell? ⟨w.heap.size + 1,2,none⟩ = some (.slice sb' xb'.length xb'.length) ∧ w'.cell? ⟨w.heap.size + 1,3,none⟩ = some (.bool bb')) (by kernel_rfl) (by exact ⟨Cb0,Cb1,Cb2,Cb3⟩) (fun hHeld=>?_)
    have gd : w0.grownBy w0.drew none:=k_ (h_ _ _)
    clear Cb0 Fb0 Cb1 Fb1 Cb2 Fb2 Cb3 Fb3
    replace Bb:=a_ gd Bb
    replace qb:=qb.kept gd
    replace ib:=ib.kept gd
    replace hG:=d_ hG gd
    replace hX:=d_ hX gd
    clear gd
    generalize w0.drew = d2tw1 at *
    refine tk_ 0 ?_ rfl ?_ ?_
    rotate_left
    · (intro w hSw; (try dsimp only at hSw); go_simp; (try with_reducible rfl))
    try simp only [ly_]
    refine tk_ 2 ?_ rfl ?_ ?_
    rotate_left
    · (intro w hSw; (try dsimp only at hSw); go_simp; (try with_reducible rfl))
    try simp only [ly_]
    refine tk_ 3 ?_ rfl ?_ ?_
    rotate_left
    · (intro w hSw; (try dsimp only at hSw); go_simp; (try with_reducible rfl))
    try simp only [ly_]
    refine wpAnyH_ready (rs:=[1,4,5]) (by kernel_rfl) (by simp) ?_
    refine AllReadyH.cons rfl (fun KQ hKQ=>?_) (AllReadyH.cons rfl (fun KQ hKQ=>?_) (AllReadyH.cons rfl (fun KQ hKQ=>?_) AllReadyH.nil))
    focus
     go_simp
     go_at_call 66
     refine (u_ d2tw1 _ t K qb (by omega) Hmd.out).mono ?_
     rintro e d2tw2 ⟨_,rfl,⟨se,xe,be,rfl,he,ve,te⟩,gd2tw2⟩
     have ie : IntV d2tw2 (.agg #[.slice se xe.length xe.length,.bool be]) ((t.den : Int)):=⟨se,xe,be,rfl,he,ve,te⟩
     replace Bb:=a_ gd2tw2 Bb
     replace qb:=qb.kept gd2tw2
     replace ib:=ib.kept gd2tw2
     replace hG:=d_ hG gd2tw2
     replace hX:=d_ hX gd2tw2
     clear gd2tw2
     clear he ve te
     (try go_wp2_with fail)
     refine hKQ.out _ _ (by exact ⟨(b_ Bb).1,(b_ Bb).2.1,(b_ Bb).2.2.1,(b_ Bb).2.2.2.1⟩) (fun hHeld=>?_)
     clear hKQ KQ
     try simp only [ly_]
     refine wpAnyH_ready (rs:=[4,5]) (by kernel_rfl) (by simp) ?_
     refine AllReadyH.cons rfl (fun KQ hKQ=>?_) (AllReadyH.cons rfl (fun KQ hKQ=>?_) AllReadyH.nil)
     focus
      have gA:=wg_ d2tw2 (.cells #[.slice none 0 0,.bool false] 26) none
      have lohGk : w.heap.size ≤ d2tw2.heap.size:=hG.size
      have lohXk : w0.heap.size ≤ d2tw2.heap.size:=hX.size
      have ltbk : w.heap.size + 1 < d2tw2.heap.size:=g_ Bb
      have Bk_:=f_ d2tw2 (.cells #[.slice none 0 0,.bool false] 26) d2tw2.heap.size rfl
      replace Bb:=a_ gA Bb
      replace qb:=qb.kept gA
      replace ib:=ib.kept gA
      replace ie:=ie.kept gA
      replace hG:=d_ hG gA
      replace hX:=d_ hX gA
      clear gA
      go_simp
      generalize (d2tw2.alloc (.cells #[.slice none 0 0,.bool false] 26)) = d2tw3 at *
      generalize d2tw2.heap.size = pk at *
      have Bk:=Bk_
      clear Bk_
      refine hKQ.out _ _ (by exact ⟨(b_ Bb).1,(b_ Bb).2.1,(b_ Bb).2.2.1,(b_ Bb).2.2.2.1⟩) (fun hHeld=>?_)
      clear hKQ KQ
      try simp only [ly_]
      refine o1_ 5 rfl (fun KQ hKQ=>?_)
      have gA:=wg_ d2tw3 (.cells #[.slice none 0 0,.bool false] 26) none
      have lohGl : w.heap.size ≤ d2tw3.heap.size:=hG.size
      have lohXl : w0.heap.size ≤ d2tw3.heap.size:=hX.size
      have ltbl : w.heap.size + 1 < d2tw3.heap.size:=g_ Bb
      have ltkl : pk < d2tw3.heap.size:=g_ Bk
      have Bl_:=f_ d2tw3 (.cells #[.slice none 0 0,.bool false] 26) d2tw3.heap.size rfl
      replace Bb:=a_ gA Bb
      replace Bk:=a_ gA Bk
      replace qb:=qb.kept gA
      replace ib:=ib.kept gA
      replace ie:=ie.kept gA
      replace hG:=d_ hG gA
      replace hX:=d_ hX gA
      clear gA
      go_simp
      generalize (d2tw3.alloc (.cells #[.slice none 0 0,.bool false] 26)) = d2tw4 at *
      generalize d2tw3.heap.size = pl at *
      have Bl:=Bl_
      clear Bl_
      refine hKQ.out _ _ (by exact ⟨(b_ Bb).1,(b_ Bb).2.1,(b_ Bb).2.2.1,(b_ Bb).2.2.2.1⟩) (fun hHeld=>?_)
      clear hKQ KQ
      try simp only [ly_]
     rotate_left 1
     focus
      have gA:=wg_ d2tw2 (.cells #[.slice none 0 0,.bool false] 26) none
      have lohGl : w.heap.size ≤ d2tw2.heap.size:=hG.size
      have lohXl : w0.heap.size ≤ d2tw2.heap.size:=hX.size
      have ltbl : w.heap.size + 1 < d2tw2.heap.size:=g_ Bb
      have Bl_:=f_ d2tw2 (.cells #[.slice none 0 0,.bool false] 26) d2tw2.heap.size rfl
      replace Bb:=a_ gA Bb
      replace qb:=qb.kept gA
      replace ib:=ib.kept gA
      replace ie:=ie.kept gA
      replace hG:=d_ hG gA
      replace hX:=d_ hX gA
      clear gA
      go_simp
      generalize (d2tw2.alloc (.cells #[.slice none 0 0,.bool false] 26)) = d2tw3 at *
      generalize d2tw2.heap.size = pl at *
      have Bl:=Bl_
      clear Bl_
      refine hKQ.out _ _ (by exact ⟨(b_ Bb).1,(b_ Bb).2.1,(b_ Bb).2.2.1,(b_ Bb).2.2.2.1⟩) (fun hHeld=>?_)
      clear hKQ KQ
      try simp only [ly_]
      refine o1_ 4 rfl (fun KQ hKQ=>?_)
      have gA:=wg_ d2tw3 (.cells #[.slice none 0 0,.bool false] 26) none
      have lohGk : w.heap.size ≤ d2tw3.heap.size:=hG.size
      have lohXk : w0.heap.size ≤ d2tw3.heap.size:=hX.size
      have ltbk : w.heap.size + 1 < d2tw3.heap.size:=g_ Bb
      have ltlk : pl < d2tw3.heap.size:=g_ Bl
      have Bk_:=f_ d2tw3 (.cells #[.slice none 0 0,.bool false] 26) d2tw3.heap.size rfl
      replace Bb:=a_ gA Bb
      replace Bl:=a_ gA Bl
      replace qb:=qb.kept gA
      replace ib:=ib.kept gA
      replace ie:=ie.kept gA
      replace hG:=d_ hG gA
      replace hX:=d_ hX gA
      clear gA
      go_simp
      generalize (d2tw3.alloc (.cells #[.slice none 0 0,.bool false] 26)) = d2tw4 at *
      generalize d2tw3.heap.size = pk at *
      have Bk:=Bk_
      clear Bk_
      refine hKQ.out _ _ (by exact ⟨(b_ Bb).1,(b_ Bb).2.1,(b_ Bb).2.2.1,(b_ Bb).2.2.2.1⟩) (fun hHeld=>?_)
      clear hKQ KQ
      try simp only [ly_]
     rotate_left 1
    rotate_left 2
    focus
     have gA:=wg_ d2tw1 (.cells #[.slice none 0 0,.bool false] 26) none
     have lohGk : w.heap.size ≤ d2tw1.heap.size:=hG.size
     have lohXk : w0.heap.size ≤ d2tw1.heap.size:=hX.size
     have ltbk : w.heap.size + 1 < d2tw1.heap.size:=g_ Bb
     have Bk_:=f_ d2tw1 (.cells #[.slice none 0 0,.bool false] 26) d2tw1.heap.size rfl
     replace Bb:=a_ gA Bb
     replace qb:=qb.kept gA
     replace ib:=ib.kept gA
     replace hG:=d_ hG gA
     replace hX:=d_ hX gA
     clear gA
     go_simp
     generalize (d2tw1.alloc (.cells #[.slice none 0 0,.bool false] 26)) = d2tw2 at *
     generalize d2tw1.heap.size = pk at *
     have Bk:=Bk_
     clear Bk_
     refine hKQ.out _ _ (by exact ⟨(b_ Bb).1,(b_ Bb).2.1,(b_ Bb).2.2.1,(b_ Bb).2.2.2.1⟩) (fun hHeld=>?_)
     clear hKQ KQ
     try simp only [ly_]
     refine wpAnyH_ready (rs:=[1,5]) (by kernel_rfl) (by simp) ?_
     refine AllReadyH.cons rfl (fun KQ hKQ=>?_) (AllReadyH.cons rfl (fun KQ hKQ=>?_) AllReadyH.nil)
     focus
      go_simp
      go_at_call 66
      refine (u_ d2tw2 _ t K qb (by omega) Hmd.out).mono ?_
      rintro e d2tw3 ⟨_,rfl,⟨se,xe,be,rfl,he,ve,te⟩,gd2tw3⟩
      have ie : IntV d2tw3 (.agg #[.slice se xe.length xe.length,.bool be]) ((t.den : Int)):=⟨se,xe,be,rfl,he,ve,te⟩
      replace Bb:=a_ gd2tw3 Bb
      replace Bk:=a_ gd2tw3 Bk
      replace qb:=qb.kept gd2tw3
      replace ib:=ib.kept gd2tw3
      replace hG:=d_ hG gd2tw3
      replace hX:=d_ hX gd2tw3
      clear gd2tw3
      clear he ve te
      (try go_wp2_with fail)
      refine hKQ.out _ _ (by exact ⟨(b_ Bb).1,(b_ Bb).2.1,(b_ Bb).2.2.1,(b_ Bb).2.2.2.1⟩) (fun hHeld=>?_)
      clear hKQ KQ
      try simp only [ly_]
      refine o1_ 5 rfl (fun KQ hKQ=>?_)
      have gA:=wg_ d2tw3 (.cells #[.slice none 0 0,.bool false] 26) none
      have lohGl : w.heap.size ≤ d2tw3.heap.size:=hG.size
      have lohXl : w0.heap.size ≤ d2tw3.heap.size:=hX.size
      have ltbl : w.heap.size + 1 < d2tw3.heap.size:=g_ Bb
      have ltkl : pk < d2tw3.heap.size:=g_ Bk
      have Bl_:=f_ d2tw3 (.cells #[.slice none 0 0,.bool false] 26) d2tw3.heap.size rfl
      replace Bb:=a_ gA Bb
      replace Bk:=a_ gA Bk
      replace qb:=qb.kept gA
      replace ib:=ib.kept gA
      replace ie:=ie.kept gA
      replace hG:=d_ hG gA
      replace hX:=d_ hX gA
      clear gA
      go_simp
      generalize (d2tw3.alloc (.cells #[.slice none 0 0,.bool false] 26)) = d2tw4 at *
      generalize d2tw3.heap.size = pl at *
      have Bl:=Bl_
      clear Bl_
      refine hKQ.out _ _ (by exact ⟨(b_ Bb).1,(b_ Bb).2.1,(b_ Bb).2.2.1,(b_ Bb).2.2.2.1⟩) (fun hHeld=>?_)
      clear hKQ KQ
      try simp only [ly_]
     rotate_left 1
     focus
      have gA:=wg_ d2tw2 (.cells #[.slice none 0 0,.bool false] 26) none
      have lohGl : w.heap.size ≤ d2tw2.heap.size:=hG.size
      have lohXl : w0.heap.size ≤ d2tw2.heap.size:=hX.size
      have ltbl : w.heap.size + 1 < d2tw2.heap.size:=g_ Bb
      have ltkl : pk < d2tw2.heap.size:=g_ Bk
      have Bl_:=f_ d2tw2 (.cells #[.slice none 0 0,.bool false] 26) d2tw2.heap.size rfl
      replace Bb:=a_ gA Bb
      replace Bk:=a_ gA Bk
      replace qb:=qb.kept gA
      replace ib:=ib.kept gA
      replace hG:=d_ hG gA
      replace hX:=d_ hX gA
      clear gA
      go_simp
      generalize (d2tw2.alloc (.cells #[.slice none 0 0,.bool false] 26)) = d2tw3 at *
      generalize d2tw2.heap.size = pl at *
      have Bl:=Bl_
      clear Bl_
      refine hKQ.out _ _ (by exact ⟨(b_ Bb).1,(b_ Bb).2.1,(b_ Bb).2.2.1,(b_ Bb).2.2.2.1⟩) (fun hHeld=>?_)
      clear hKQ KQ
      try simp only [ly_]
      refine o1_ 1 rfl (fun KQ hKQ=>?_)
      go_simp
      go_at_call 66
      refine (u_ d2tw3 _ t K qb (by omega) Hmd.out).mono ?_
      rintro e d2tw4 ⟨_,rfl,⟨se,xe,be,rfl,he,ve,te⟩,gd2tw4⟩
      have ie : IntV d2tw4 (.agg #[.slice se xe.length xe.length,.bool be]) ((t.den : Int)):=⟨se,xe,be,rfl,he,ve,te⟩
      replace Bb:=a_ gd2tw4 Bb
      replace Bk:=a_ gd2tw4 Bk
      replace Bl:=a_ gd2tw4 Bl
      replace qb:=qb.kept gd2tw4
      replace ib:=ib.kept gd2tw4
      replace hG:=d_ hG gd2tw4
      replace hX:=d_ hX gd2tw4
      clear gd2tw4
      clear he ve te
      (try go_wp2_with fail)
      refine hKQ.out _ _ (by exact ⟨(b_ Bb).1,(b_ Bb).2.1,(b_ Bb).2.2.1,(b_ Bb).2.2.2.1⟩) (fun hHeld=>?_)
      clear hKQ KQ
      try simp only [ly_]
     rotate_left 1
    rotate_left 2
    focus
     have gA:=wg_ d2tw1 (.cells #[.slice none 0 0,.bool false] 26) none
     have lohGl : w.heap.size ≤ d2tw1.heap.size:=hG.size
     have lohXl : w0.heap.size ≤ d2tw1.heap.size:=hX.size
     have ltbl : w.heap.size + 1 < d2tw1.heap.size:=g_ Bb
     have Bl_:=f_ d2tw1 (.cells #[.slice none 0 0,.bool false] 26) d2tw1.heap.size rfl
     replace Bb:=a_ gA Bb
     replace qb:=qb.kept gA
     replace ib:=ib.kept gA
     replace hG:=d_ hG gA
     replace hX:=d_ hX gA
     clear gA
     go_simp
     generalize (d2tw1.alloc (.cells #[.slice none 0 0,.bool false] 26)) = d2tw2 at *
     generalize d2tw1.heap.size = pl at *
     have Bl:=Bl_
     clear Bl_
     refine hKQ.out _ _ (by exact ⟨(b_ Bb).1,(b_ Bb).2.1,(b_ Bb).2.2.1,(b_ Bb).2.2.2.1⟩) (fun hHeld=>?_)
     clear hKQ KQ
     try simp only [ly_]
     refine wpAnyH_ready (rs:=[1,4]) (by kernel_rfl) (by simp) ?_
     refine AllReadyH.cons rfl (fun KQ hKQ=>?_) (AllReadyH.cons rfl (fun KQ hKQ=>?_) AllReadyH.nil)
     focus
      go_simp
      go_at_call 66
      refine (u_ d2tw2 _ t K qb (by omega) Hmd.out).mono ?_
      rintro e d2tw3 ⟨_,rfl,⟨se,xe,be,rfl,he,ve,te⟩,gd2tw3⟩
      have ie : IntV d2tw3 (.agg #[.slice se xe.length xe.length,.bool be]) ((t.den : Int)):=⟨se,xe,be,rfl,he,ve,te⟩
      replace Bb:=a_ gd2tw3 Bb
      replace Bl:=a_ gd2tw3 Bl
      replace qb:=qb.kept gd2tw3
      replace ib:=ib.kept gd2tw3
      replace hG:=d_ hG gd2tw3
      replace hX:=d_ hX gd2tw3
      clear gd2tw3
      clear he ve te
      (try go_wp2_with fail)
      refine hKQ.out _ _ (by exact ⟨(b_ Bb).1,(b_ Bb).2.1,(b_ Bb).2.2.1,(b_ Bb).2.2.2.1⟩) (fun hHeld=>?_)
      clear hKQ KQ
      try simp only [ly_]
      refine o1_ 4 rfl (fun KQ hKQ=>?_)
      have gA:=wg_ d2tw3 (.cells #[.slice none 0 0,.bool false] 26) none
      have lohGk : w.heap.size ≤ d2tw3.heap.size:=hG.size
      have lohXk : w0.heap.size ≤ d2tw3.heap.size:=hX.size
      have ltbk : w.heap.size + 1 < d2tw3.heap.size:=g_ Bb
      have ltlk : pl < d2tw3.heap.size:=g_ Bl
      have Bk_:=f_ d2tw3 (.cells #[.slice none 0 0,.bool false] 26) d2tw3.heap.size rfl
      replace Bb:=a_ gA Bb
      replace Bl:=a_ gA Bl
      replace qb:=qb.kept gA
      replace ib:=ib.kept gA
      replace ie:=ie.kept gA
      replace hG:=d_ hG gA
      replace hX:=d_ hX gA
      clear gA
      go_simp
      generalize (d2tw3.alloc (.cells #[.slice none 0 0,.bool false] 26)) = d2tw4 at *
      generalize d2tw3.heap.size = pk at *
      have Bk:=Bk_
      clear Bk_
      refine hKQ.out _ _ (by exact ⟨(b_ Bb).1,(b_ Bb).2.1,(b_ Bb).2.2.1,(b_ Bb).2.2.2.1⟩) (fun hHeld=>?_)
      clear hKQ KQ
      try simp only [ly_]
     rotate_left 1
     focus
      have gA:=wg_ d2tw2 (.cells #[.slice none 0 0,.bool false] 26) none
      have lohGk : w.heap.size ≤ d2tw2.heap.size:=hG.size
      have lohXk : w0.heap.size ≤ d2tw2.heap.size:=hX.size
      have ltbk : w.heap.size + 1 < d2tw2.heap.size:=g_ Bb
      have ltlk : pl < d2tw2.heap.size:=g_ Bl
      have Bk_:=f_ d2tw2 (.cells #[.slice none 0 0,.bool false] 26) d2tw2.heap.size rfl
      replace Bb:=a_ gA Bb
      replace Bl:=a_ gA Bl
      replace qb:=qb.kept gA
      replace ib:=ib.kept gA
      replace hG:=d_ hG gA
      replace hX:=d_ hX gA
      clear gA
      go_simp
      generalize (d2tw2.alloc (.cells #[.slice none 0 0,.bool false] 26)) = d2tw3 at *
      generalize d2tw2.heap.size = pk at *
      have Bk:=Bk_
      clear Bk_
      refine hKQ.out _ _ (by exact ⟨(b_ Bb).1,(b_ Bb).2.1,(b_ Bb).2.2.1,(b_ Bb).2.2.2.1⟩) (fun hHeld=>?_)
      clear hKQ KQ
      try simp only [ly_]
      refine o1_ 1 rfl (fun KQ hKQ=>?_)
      go_simp
      go_at_call 66
      refine (u_ d2tw3 _ t K qb (by omega) Hmd.out).mono ?_
      rintro e d2tw4 ⟨_,rfl,⟨se,xe,be,rfl,he,ve,te⟩,gd2tw4⟩
      have ie : IntV d2tw4 (.agg #[.slice se xe.length xe.length,.bool be]) ((t.den : Int)):=⟨se,xe,be,rfl,he,ve,te⟩
      replace Bb:=a_ gd2tw4 Bb
      replace Bl:=a_ gd2tw4 Bl
      replace Bk:=a_ gd2tw4 Bk
      replace qb:=qb.kept gd2tw4
      replace ib:=ib.kept gd2tw4
      replace hG:=d_ hG gd2tw4
      replace hX:=d_ hX gd2tw4
      clear gd2tw4
      clear he ve te
      (try go_wp2_with fail)
      refine hKQ.out _ _ (by exact ⟨(b_ Bb).1,(b_ Bb).2.1,(b_ Bb).2.2.1,(b_ Bb).2.2.2.1⟩) (fun hHeld=>?_)
      clear hKQ KQ
      try simp only [ly_]
     rotate_left 1
    rotate_left 2
    all_goals (
     refine o1_ 6 rfl (fun KQ hKQ=>?_)
     obtain ⟨c0',c1',c2',c3'⟩:=c_ Bk
     go_simp
     clear c0' c1' c2' c3'
     replace qb:=qb.set2 Bk (.slice se xe.length xe.length) (.bool be)
     replace ib:=ib.set2 Bk (.slice se xe.length xe.length) (.bool be)
     replace ie:=ie.set2 Bk (.slice se xe.length xe.length) (.bool be)
     replace hG:=t_ (g:=pk) hG (by omega) (.slice se xe.length xe.length) (.bool be)
     replace hX:=t_ (g:=pk) hX (by omega) (.slice se xe.length xe.length) (.bool be)
     replace Bb:=e_ Bb (show w.heap.size + 1 ≠ pk by omega) (.slice se xe.length xe.length) (.bool be)
     replace Bl:=e_ Bl (show pl ≠ pk by omega) (.slice se xe.length xe.length) (.bool be)
     replace Bk:=m_ Bk (.slice se xe.length xe.length) (.bool be)
     generalize ((d2tw4.setCell ⟨pk,0,none⟩ (.slice se xe.length xe.length)).setCell ⟨pk,1,none⟩ (.bool be)) = d2tw5 at *
     refine hKQ.out _ _ (by exact ⟨(b_ Bb).1,(b_ Bb).2.1,(b_ Bb).2.2.1,(b_ Bb).2.2.2.1⟩) (fun hHeld=>?_)
     clear hKQ KQ
     try simp only [ly_]
     refine o1_ 7 rfl (fun KQ hKQ=>?_)
     obtain ⟨c0',c1',c2',c3'⟩:=c_ Bl
     go_simp
     clear c0' c1' c2' c3'
     replace qb:=qb.set2 Bl (.slice sb xb.length xb.length) (.bool bb)
     replace ib:=ib.set2 Bl (.slice sb xb.length xb.length) (.bool bb)
     replace ie:=ie.set2 Bl (.slice sb xb.length xb.length) (.bool bb)
     replace hG:=t_ (g:=pl) hG (by omega) (.slice sb xb.length xb.length) (.bool bb)
     replace hX:=t_ (g:=pl) hX (by omega) (.slice sb xb.length xb.length) (.bool bb)
     replace Bb:=e_ Bb (show w.heap.size + 1 ≠ pl by omega) (.slice sb xb.length xb.length) (.bool bb)
     replace Bk:=e_ Bk (show pk ≠ pl by omega) (.slice sb xb.length xb.length) (.bool bb)
     replace Bl:=m_ Bl (.slice sb xb.length xb.length) (.bool bb)
     generalize ((d2tw5.setCell ⟨pl,0,none⟩ (.slice sb xb.length xb.length)).setCell ⟨pl,1,none⟩ (.bool bb)) = d2tw6 at *
     refine hKQ.out _ _ (by exact ⟨(b_ Bb).1,(b_ Bb).2.1,(b_ Bb).2.2.1,(b_ Bb).2.2.2.1⟩) (fun hHeld=>?_)
     clear hKQ KQ
     try simp only [ly_]
     refine wpAnyH_done (by kernel_rfl) ?_ _
     go_wp2_with fail
     go_meet
     exact ⟨pk,pl,rfl,rfl,⟨_,_,_,Bk,ie⟩,⟨_,_,_,Bl,ib⟩,by omega,by omega,by omega,hX⟩)
   case rest =>
    clear hG hX hs0 qa ia ia' qb ib ib' Ba Bb Bq
    obtain ⟨pe,pj,rfl,rfl,Ke,Kj,le,lej,lj,hX⟩:=hcut
    obtain ⟨se,xe,be,Be,ie⟩:=Ke.open
    obtain ⟨sj,xj,bj,Bj,ij⟩:=Kj.open
    have hG:=d_ HG0.out hX
    have Ba:=a_ hX Ha9.out
    have Bb:=a_ hX Hb9.out
    have Bq:=a_ hX Hq9.out
    have qa:=I9.out.1.kept hX
    have qb:=I9.out.2.kept hX
    clear hX
    obtain ⟨Ca0,Ca1,Ca2,Ca3,Fa0,Fa1,Fa2,Fa3⟩:=b_ Ba
    obtain ⟨Cb0,Cb1,Cb2,Cb3,Fb0,Fb1,Fb2,Fb3⟩:=b_ Bb
    obtain ⟨Cq0,Cq1,Cq2,Cq3,Fq0,Fq1,Fq2,Fq3⟩:=b_ Bq
    obtain ⟨Ce0,Ce1,Fe0,Fe1⟩:=c_ Be
    obtain ⟨Cj0,Cj1,Fj0,Fj1⟩:=c_ Bj
    go_wp2_with fail
    clear Ca0 Fa0 Ca1 Fa1 Ca2 Fa2 Ca3 Fa3 Cb0 Fb0 Cb1 Fb1 Cb2 Fb2 Cb3 Fb3 Cq0 Fq0 Cq1 Fq1 Cq2 Fq2 Cq3 Fq3 Ce0 Fe0 Ce1 Fe1 Cj0 Fj0 Cj1 Fj1
    refine (S_ wc _ t K qb (by omega) Hmn.out).mono ?_
    rintro e d2w1 ⟨rfl,gd2w1⟩
    rw [HS.out]
    replace Ba:=a_ gd2w1 Ba
    replace Bb:=a_ gd2w1 Bb
    replace Bq:=a_ gd2w1 Bq
    replace Be:=a_ gd2w1 Be
    replace Bj:=a_ gd2w1 Bj
    replace qa:=qa.kept gd2w1
    replace ie:=ie.kept gd2w1
    replace ij:=ij.kept gd2w1
    replace hG:=d_ hG gd2w1
    clear gd2w1
    obtain ⟨Ca0,Ca1,Ca2,Ca3,Fa0,Fa1,Fa2,Fa3⟩:=b_ Ba
    obtain ⟨Cb0,Cb1,Cb2,Cb3,Fb0,Fb1,Fb2,Fb3⟩:=b_ Bb
    obtain ⟨Cq0,Cq1,Cq2,Cq3,Fq0,Fq1,Fq2,Fq3⟩:=b_ Bq
    obtain ⟨Ce0,Ce1,Fe0,Fe1⟩:=c_ Be
    obtain ⟨Cj0,Cj1,Fj0,Fj1⟩:=c_ Bj
    go_wp2_with fail
    rw [← HV.out.1] at ie
    rw [← HV.out.2.1] at ij
    have i_a:=qa.parts.1
    have HT3 : Hid (∀ W,d2w1.grownBy W none → Tab W):=fun W hW=>HTB.out _ (d_ hG hW)
    go_region_held3 (fun w'=>w'.cell? ⟨w.heap.size,0,none⟩ = some (.slice sa xa.length xa.length) ∧ w'.cell? ⟨w.heap.size,1,none⟩ = some (.bool ba) ∧ w'.cell? ⟨w.heap.size,2,none⟩ = some (.slice sa' xa'.length xa'.length) ∧ w'.cell? ⟨w.heap.size,3,none⟩ = some (.bool ba') ∧ w'.cell? ⟨pe,0,none⟩ = some (.slice se xe.length xe.length) ∧ w'.cell? ⟨pe,1,none⟩ = some (.bool be) ∧ w'.cell? ⟨pj,0,none⟩ = some (.slice sj xj.length xj.length) ∧ w'.cell? ⟨pj,1,none⟩ = some (.bool bj))
     (first | assumption | exact ⟨Ca0,Ca1,Ca2,Ca3,Ce0,Ce1,Cj0,Cj1⟩ | exact HSd2w2_20 | go_keep)
     (first
       | (go_at_call 66; (with_reducible refine (u_ d2w1.drew _ r K (qa.kept (k_ (h_ _ _))) (by omega) Hld.out).mono ?_); rintro e d2w2_1 ⟨v1,rfl,n1,gd2w2_1⟩; have hGd2w2_1:=o_ d2w1 gd2w2_1 rfl rfl rfl rfl; have hSd2w2_1:=(n_ (hGd2w2_1.cell Ca0 (by simp)) (n_ (hGd2w2_1.cell Ca1 (by simp)) (n_ (hGd2w2_1.cell Ca2 (by simp)) (n_ (hGd2w2_1.cell Ca3 (by simp)) (n_ (hGd2w2_1.cell Ce0 (by simp)) (n_ (hGd2w2_1.cell Ce1 (by simp)) (n_ (hGd2w2_1.cell Cj0 (by simp)) (hGd2w2_1.cell Cj1 (by simp))))))))); clear gd2w2_1)
       | (go_at_call 77; (with_reducible refine (by_ d2w2_1 _ _ _ _ r V9 K (i_a.kept hGd2w2_1) n1 (ie.kept hGd2w2_1) (ij.kept hGd2w2_1) (by omega) Hln.out Hld.out HV.out.2.2.1 HV.out.2.2.2 (HT3.out _ hGd2w2_1)).mono ?_); rintro e d2w2_2 ⟨_,rfl,⟨sd,xd,bd,sd',xd',bd',rfl,hd,hd'⟩,gd2w2_2⟩; have hGd2w2_2:=d_ hGd2w2_1 gd2w2_2; replace n1:=n1.kept gd2w2_2; have qd : RatV d2w2_2 (.agg #[.slice sd xd.length xd.length,.bool bd,.slice sd' xd'.length xd'.length,.bool bd']) (r * V9):=⟨sd,xd,bd,sd',xd',bd',rfl,hd,hd'⟩; have hSd2w2_2:=(n_ (hGd2w2_2.cell Ca0 (by simp)) (n_ (hGd2w2_2.cell Ca1 (by simp)) (n_ (hGd2w2_2.cell Ca2 (by simp)) (n_ (hGd2w2_2.cell Ca3 (by simp)) (n_ (hGd2w2_2.cell Ce0 (by simp)) (n_ (hGd2w2_2.cell Ce1 (by simp)) (n_ (hGd2w2_2.cell Cj0 (by simp)) (hGd2w2_2.cell Cj1 (by simp))))))))); clear gd2w2_2; clear hd hd'; (obtain ⟨dq0,dq1,dq2,dq3,dq4,dq5,dq6,dq7⟩:=b_ (a_ hGd2w2_2 Bq)); have HSd2w2_20:=(n_ ((b_ (i_ (a_ hGd2w2_2 Ba) (show w.heap.size ≠ w.heap.size + 1 + 1 by omega) (.slice sd xd.length xd.length) (.bool bd) (.slice sd' xd'.length xd'.length) (.bool bd'))).1) (n_ ((b_ (i_ (a_ hGd2w2_2 Ba) (show w.heap.size ≠ w.heap.size + 1 + 1 by omega) (.slice sd xd.length xd.length) (.bool bd) (.slice sd' xd'.length xd'.length) (.bool bd'))).2.1) (n_ ((b_ (i_ (a_ hGd2w2_2 Ba) (show w.heap.size ≠ w.heap.size + 1 + 1 by omega) (.slice sd xd.length xd.length) (.bool bd) (.slice sd' xd'.length xd'.length) (.bool bd'))).2.2.1) (n_ ((b_ (i_ (a_ hGd2w2_2 Ba) (show w.heap.size ≠ w.heap.size + 1 + 1 by omega) (.slice sd xd.length xd.length) (.bool bd) (.slice sd' xd'.length xd'.length) (.bool bd'))).2.2.2.1) (n_ ((c_ (i_ (a_ hGd2w2_2 Be) (show pe ≠ w.heap.size + 1 + 1 by omega) (.slice sd xd.length xd.length) (.bool bd) (.slice sd' xd'.length xd'.length) (.bool bd'))).1) (n_ ((c_ (i_ (a_ hGd2w2_2 Be) (show pe ≠ w.heap.size + 1 + 1 by omega) (.slice sd xd.length xd.length) (.bool bd) (.slice sd' xd'.length xd'.length) (.bool bd'))).2.1) (n_ ((c_ (i_ (a_ hGd2w2_2 Bj) (show pj ≠ w.heap.size + 1 + 1 by omega) (.slice sd xd.length xd.length) (.bool bd) (.slice sd' xd'.length xd'.length) (.bool bd'))).1) ((c_ (i_ (a_ hGd2w2_2 Bj) (show pj ≠ w.heap.size + 1 + 1 by omega) (.slice sd xd.length xd.length) (.bool bd) (.slice sd' xd'.length xd'.length) (.bool bd'))).2.1))))))))))
    replace Ba:=a_ hGd2w2_2 Ba
    replace Bb:=a_ hGd2w2_2 Bb
    replace Bq:=a_ hGd2w2_2 Bq
    replace Be:=a_ hGd2w2_2 Be
    replace Bj:=a_ hGd2w2_2 Bj
    replace hG:=d_ hG hGd2w2_2
    clear Ca0 Fa0 Ca1 Fa1 Ca2 Fa2 Ca3 Fa3 Cb0 Fb0 Cb1 Fb1 Cb2 Fb2 Cb3 Fb3 Cq0 Fq0 Cq1 Fq1 Cq2 Fq2 Cq3 Fq3 Ce0 Fe0 Ce1 Fe1 Cj0 Fj0 Cj1 Fj1
    obtain ⟨k90,k91,k92,k93,k94,k95,k96,k97⟩:=b_ Bq
    obtain ⟨q90,q91,q92,q93,q94,q95,q96,q97⟩:=b_ (r_ Bq (.slice sd xd.length xd.length) (.bool bd) (.slice sd' xd'.length xd'.length) (.bool bd'))
    have hF : Hid (V_ w (r * V9) 0 (.returned (.tuple #[.agg #[.slice sd xd.length xd.length,.bool bd,.slice sd' xd'.length xd'.length,.bool bd'],.int .i64 0])) ((((d2w2_2.setCell ⟨w.heap.size + 1 + 1,0,none⟩ (.slice sd xd.length xd.length)).setCell ⟨w.heap.size + 1 + 1,1,none⟩ (.bool bd)).setCell ⟨w.heap.size + 1 + 1,2,none⟩ (.slice sd' xd'.length xd'.length)).setCell ⟨w.heap.size + 1 + 1,3,none⟩ (.bool bd'))):=av_ hG Bq (by omega) qd
    clear qa qb ie ij i_a n1 qd
    obtain ⟨Ca0,Ca1,Ca2,Ca3,Fa0,Fa1,Fa2,Fa3⟩:=b_ Ba
    obtain ⟨Cb0,Cb1,Cb2,Cb3,Fb0,Fb1,Fb2,Fb3⟩:=b_ Bb
    obtain ⟨Ce0,Ce1,Fe0,Fe1⟩:=c_ Be
    obtain ⟨Cj0,Cj1,Fj0,Fj1⟩:=c_ Bj
    go_wp2_with fail
    exact bodyPost_ret (v:=.tuple #[.agg #[.slice sd xd.length xd.length,.bool bd,.slice sd' xd'.length xd'.length,.bool bd'],.int .i64 0]) (by simp [results,Tryz.results31,go_sem,q90,q91,q92,q93]) rfl hF.out
end Go.Proofs.YtgbbdgioohaknaaGreatDoor
