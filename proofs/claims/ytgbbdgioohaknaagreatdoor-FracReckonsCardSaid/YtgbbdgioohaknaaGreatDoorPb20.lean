/- What the laws lean on, part 20. -/
import Derived.Deep.RegionHeld3
import Derived.Test.YtgbbdgioohaknaaGreatDoorPb19
namespace Go.Proofs.YtgbbdgioohaknaaGreatDoor
open Go.RowKit Mat
set_option maxRecDepth 100000
set_option linter.unusedVariables false
set_option linter.unusedSimpArgs false
theorem eJ_ {a b : Rat} (ha : a.den = 1) (hb : b.den = 1) : (a + b).num = a.num + b.num ∧ dn (a + b) = 0:=by
 have h:=eK_ a b 1 1 (a.num + b.num) (by rw [ha,hb]; rfl) (by rw [ha,hb]; simp) (by rw [Nat.gcd_one_right])
 constructor
 · rw [h.1]; simp
 · unfold dn; rw [if_pos (by rw [h.2,ha,hb])]
theorem hu_ {a b : Rat} (ha : a.den = 1) (hb : b.den = 1) : (a - b).num = a.num - b.num ∧ dn (a - b) = 0:=by
 rw [Rat.sub_eq_add_neg]
 have h:=eJ_ ha (show (-b).den = 1 by rw [Rat.neg_den]; exact hb)
 rw [Rat.neg_num] at h
 exact h
set_option maxHeartbeats 16000000 in
theorem ah_ (w : World) (va vb : Value) (r t : Rat) (K : Nat) (Ha : RatV w va r) (Hb : RatV w vb t) (hK : K ≤ 300000) (ln : r.num.natAbs < B ^ K) (ld : r.den < B ^ K) (mn : t.num.natAbs < B ^ K) (md : t.den < B ^ K) (hTab : Tab w) :
    Calls Tryz.prog 33 #[va,vb] w (aa_ w (r + t)):=by
 have HTB : Hid (∀ W,w.grownBy W none → Tab W):=fun W hW=>hTab.kept hW (by simp)
 clear hTab
 have HNN : Hid ((-t).num.natAbs < B ^ K ∧ (-t).den < B ^ K):=⟨by rw [Rat.neg_num,Int.natAbs_neg]; exact mn,by rw [Rat.neg_den]; exact md⟩
 have Hln:=H_ ln
 have Hld:=H_ ld
 have Hmn:=H_ mn
 have Hmd:=H_ md
 clear ln ld mn md
 have HRW : Hid (r.den = 1 → t.den = 1 → (r + t).num = r.num + t.num ∧ dn (r + t) = 0):=fun h1 h2=>eJ_ h1 h2
 have hg : (decide (r.den = 1) = true ∧ decide (t.den = 1) = true) ∨ (decide (r.den = 1) = true ∧ decide (t.den = 1) = false) ∨ decide (r.den = 1) = false:=by
  by_cases h1 : r.den = 1
  · by_cases h2 : t.den = 1
    · left; exact ⟨decide_eq_true h1,decide_eq_true h2⟩
    · right; left; exact ⟨decide_eq_true h1,decide_eq_false h2⟩
  · right; right; exact decide_eq_false h1
 obtain ⟨o1,ho1⟩ : ∃ o,decide (r.den = 1) = o:=⟨_,rfl⟩
 obtain ⟨o2,ho2⟩ : ∃ o,decide (t.den = 1) = o:=⟨_,rfl⟩
 rw [ho1,ho2] at hg
 have HO1:=H_ ho1
 have HO2:=H_ ho2
 clear ho1 ho2
 rcases hg with ⟨rfl,rfl⟩ | ⟨rfl,rfl⟩ | rfl
 · skip
   obtain ⟨sa,xa,ba,sa',xa',ba',rfl,ha,ha'⟩:=Ha
   obtain ⟨sb,xb,bb,sb',xb',bb',rfl,hb,hb'⟩:=Hb
   obtain ⟨hG,Ba,Bb,Bq⟩:=en3_ w (.cells #[.slice sa xa.length xa.length,.bool ba,.slice sa' xa'.length xa'.length,.bool ba'] 28) (.cells #[.slice sb xb.length xb.length,.bool bb,.slice sb' xb'.length xb'.length,.bool bb'] 28) (.cells #[.slice none 0 0,.bool false,.slice none 0 0,.bool false] 28)
   have oa : RatV w (.agg #[.slice sa xa.length xa.length,.bool ba,.slice sa' xa'.length xa'.length,.bool ba']) (r):=⟨sa,xa,ba,sa',xa',ba',rfl,ha,ha'⟩
   have qa:=oa.kept hG
   have ia:=(show IntV w (.agg #[.slice sa xa.length xa.length,.bool ba]) (r).num from ha).kept hG
   have ia':=(show IntV w (.agg #[.slice sa' xa'.length xa'.length,.bool ba']) (dn (r)) from ha').kept hG
   have ob : RatV w (.agg #[.slice sb xb.length xb.length,.bool bb,.slice sb' xb'.length xb'.length,.bool bb']) (t):=⟨sb,xb,bb,sb',xb',bb',rfl,hb,hb'⟩
   have qb:=ob.kept hG
   have ib:=(show IntV w (.agg #[.slice sb xb.length xb.length,.bool bb]) (t).num from hb).kept hG
   have ib':=(show IntV w (.agg #[.slice sb' xb'.length xb'.length,.bool bb']) (dn (t)) from hb').kept hG
   clear ha ha'
   clear hb hb'
   go_enter Tryz.func33,Tryz.ntmps33
   obtain ⟨Ca0,Ca1,Ca2,Ca3,Fa0,Fa1,Fa2,Fa3⟩:=b_ Ba
   obtain ⟨Cb0,Cb1,Cb2,Cb3,Fb0,Fb1,Fb2,Fb3⟩:=b_ Bb
   obtain ⟨Cq0,Cq1,Cq2,Cq3,Fq0,Fq1,Fq2,Fq3⟩:=b_ Bq
   go_wp2_with fail
   generalize (((w.alloc (.cells #[.slice sa xa.length xa.length,.bool ba,.slice sa' xa'.length xa'.length,.bool ba'] 28)).alloc (.cells #[.slice sb xb.length xb.length,.bool bb,.slice sb' xb'.length xb'.length,.bool bb'] 28)).alloc (.cells #[.slice none 0 0,.bool false,.slice none 0 0,.bool false] 28)) = w0 at *
   clear Ca0 Fa0 Ca1 Fa1 Ca2 Fa2 Ca3 Fa3 Cb0 Fb0 Cb1 Fb1 Cb2 Fb2 Cb3 Fb3 Cq0 Fq0 Cq1 Fq1 Cq2 Fq2 Cq3 Fq3
   refine (B_ w0 _ r K qa (by omega) Hld.out).mono ?_
   rintro e c0w1 ⟨rfl,gc0w1⟩
   rw [HO1.out]
   replace Ba:=a_ gc0w1 Ba
   replace Bb:=a_ gc0w1 Bb
   replace Bq:=a_ gc0w1 Bq
   replace ia:=ia.kept gc0w1
   replace qb:=qb.kept gc0w1
   replace ib:=ib.kept gc0w1
   replace hG:=d_ hG gc0w1
   clear gc0w1
   obtain ⟨Ca0,Ca1,Ca2,Ca3,Fa0,Fa1,Fa2,Fa3⟩:=b_ Ba
   obtain ⟨Cb0,Cb1,Cb2,Cb3,Fb0,Fb1,Fb2,Fb3⟩:=b_ Bb
   obtain ⟨Cq0,Cq1,Cq2,Cq3,Fq0,Fq1,Fq2,Fq3⟩:=b_ Bq
   go_wp2_with fail
   clear Ca0 Fa0 Ca1 Fa1 Ca2 Fa2 Ca3 Fa3 Cb0 Fb0 Cb1 Fb1 Cb2 Fb2 Cb3 Fb3 Cq0 Fq0 Cq1 Fq1 Cq2 Fq2 Cq3 Fq3
   refine (B_ c0w1 _ t K qb (by omega) Hmd.out).mono ?_
   rintro e c0w2 ⟨rfl,gc0w2⟩
   rw [HO2.out]
   replace Ba:=a_ gc0w2 Ba
   replace Bb:=a_ gc0w2 Bb
   replace Bq:=a_ gc0w2 Bq
   replace ia:=ia.kept gc0w2
   replace ib:=ib.kept gc0w2
   replace hG:=d_ hG gc0w2
   clear gc0w2
   obtain ⟨Ca0,Ca1,Ca2,Ca3,Fa0,Fa1,Fa2,Fa3⟩:=b_ Ba
   obtain ⟨Cb0,Cb1,Cb2,Cb3,Fb0,Fb1,Fb2,Fb3⟩:=b_ Bb
   obtain ⟨Cq0,Cq1,Cq2,Cq3,Fq0,Fq1,Fq2,Fq3⟩:=b_ Bq
   go_wp2_with fail
   clear Ca0 Fa0 Ca1 Fa1 Ca2 Fa2 Ca3 Fa3 Cb0 Fb0 Cb1 Fb1 Cb2 Fb2 Cb3 Fb3 Cq0 Fq0 Cq1 Fq1 Cq2 Fq2 Cq3 Fq3
   refine (aP_ c0w2 _ _ r.num t.num K ia ib (by omega) Hln.out Hmn.out).mono ?_
   rintro e c0w3 ⟨_,rfl,⟨sd,xd,bd,rfl,hd,vd,td⟩,gc0w3⟩
   have id : IntV c0w3 (.agg #[.slice sd xd.length xd.length,.bool bd]) (r.num + t.num):=⟨sd,xd,bd,rfl,hd,vd,td⟩
   replace Ba:=a_ gc0w3 Ba
   replace Bb:=a_ gc0w3 Bb
   replace Bq:=a_ gc0w3 Bq
   replace hG:=d_ hG gc0w3
   clear gc0w3
   clear hd vd td
   obtain ⟨Ca0,Ca1,Ca2,Ca3,Fa0,Fa1,Fa2,Fa3⟩:=b_ Ba
   obtain ⟨Cb0,Cb1,Cb2,Cb3,Fb0,Fb1,Fb2,Fb3⟩:=b_ Bb
   obtain ⟨Cq0,Cq1,Cq2,Cq3,Fq0,Fq1,Fq2,Fq3⟩:=b_ Bq
   obtain ⟨hw1,hw2⟩:=HRW.out (of_decide_eq_true HO1.out) (of_decide_eq_true HO2.out)
   have qd : RatV c0w3 (.agg #[.slice sd xd.length xd.length,.bool bd,.slice none 0 0,.bool false]) (r + t):=⟨_,_,_,none,[],false,rfl,by rw [hw1]; exact id,by rw [hw2]; exact IntV.zero _⟩
   clear hw1 hw2
   clear Ca0 Fa0 Ca1 Fa1 Ca2 Fa2 Ca3 Fa3 Cb0 Fb0 Cb1 Fb1 Cb2 Fb2 Cb3 Fb3 Cq0 Fq0 Cq1 Fq1 Cq2 Fq2 Cq3 Fq3
   obtain ⟨k90,k91,k92,k93,k94,k95,k96,k97⟩:=b_ Bq
   obtain ⟨q90,q91,q92,q93,q94,q95,q96,q97⟩:=b_ (r_ Bq (.slice sd xd.length xd.length) (.bool bd) (.slice none 0 0) (.bool false))
   have hF : Hid (aa_ w (r + t) (.returned (.agg #[.slice sd xd.length xd.length,.bool bd,.slice none 0 0,.bool false])) ((((c0w3.setCell ⟨w.heap.size + 1 + 1,0,none⟩ (.slice sd xd.length xd.length)).setCell ⟨w.heap.size + 1 + 1,1,none⟩ (.bool bd)).setCell ⟨w.heap.size + 1 + 1,2,none⟩ (.slice none 0 0)).setCell ⟨w.heap.size + 1 + 1,3,none⟩ (.bool false))):=X_ hG Bq (by omega) qd
   clear qa ia ia' qb ib ib' id qd
   go_wp2_with fail
   exact bodyPost_ret (v:=.agg #[.slice sd xd.length xd.length,.bool bd,.slice none 0 0,.bool false]) (by simp [results,Tryz.results33,go_sem,q90,q91,q92,q93]) rfl hF.out
 · skip
   obtain ⟨sa,xa,ba,sa',xa',ba',rfl,ha,ha'⟩:=Ha
   obtain ⟨sb,xb,bb,sb',xb',bb',rfl,hb,hb'⟩:=Hb
   obtain ⟨hG,Ba,Bb,Bq⟩:=en3_ w (.cells #[.slice sa xa.length xa.length,.bool ba,.slice sa' xa'.length xa'.length,.bool ba'] 28) (.cells #[.slice sb xb.length xb.length,.bool bb,.slice sb' xb'.length xb'.length,.bool bb'] 28) (.cells #[.slice none 0 0,.bool false,.slice none 0 0,.bool false] 28)
   have oa : RatV w (.agg #[.slice sa xa.length xa.length,.bool ba,.slice sa' xa'.length xa'.length,.bool ba']) (r):=⟨sa,xa,ba,sa',xa',ba',rfl,ha,ha'⟩
   have qa:=oa.kept hG
   have ia:=(show IntV w (.agg #[.slice sa xa.length xa.length,.bool ba]) (r).num from ha).kept hG
   have ia':=(show IntV w (.agg #[.slice sa' xa'.length xa'.length,.bool ba']) (dn (r)) from ha').kept hG
   have ob : RatV w (.agg #[.slice sb xb.length xb.length,.bool bb,.slice sb' xb'.length xb'.length,.bool bb']) (t):=⟨sb,xb,bb,sb',xb',bb',rfl,hb,hb'⟩
   have qb:=ob.kept hG
   have ib:=(show IntV w (.agg #[.slice sb xb.length xb.length,.bool bb]) (t).num from hb).kept hG
   have ib':=(show IntV w (.agg #[.slice sb' xb'.length xb'.length,.bool bb']) (dn (t)) from hb').kept hG
   clear ha ha'
   clear hb hb'
   go_enter Tryz.func33,Tryz.ntmps33
   obtain ⟨Ca0,Ca1,Ca2,Ca3,Fa0,Fa1,Fa2,Fa3⟩:=b_ Ba
   obtain ⟨Cb0,Cb1,Cb2,Cb3,Fb0,Fb1,Fb2,Fb3⟩:=b_ Bb
   obtain ⟨Cq0,Cq1,Cq2,Cq3,Fq0,Fq1,Fq2,Fq3⟩:=b_ Bq
   go_wp2_with fail
   generalize (((w.alloc (.cells #[.slice sa xa.length xa.length,.bool ba,.slice sa' xa'.length xa'.length,.bool ba'] 28)).alloc (.cells #[.slice sb xb.length xb.length,.bool bb,.slice sb' xb'.length xb'.length,.bool bb'] 28)).alloc (.cells #[.slice none 0 0,.bool false,.slice none 0 0,.bool false] 28)) = w0 at *
   clear Ca0 Fa0 Ca1 Fa1 Ca2 Fa2 Ca3 Fa3 Cb0 Fb0 Cb1 Fb1 Cb2 Fb2 Cb3 Fb3 Cq0 Fq0 Cq1 Fq1 Cq2 Fq2 Cq3 Fq3
   refine (B_ w0 _ r K qa (by omega) Hld.out).mono ?_
   rintro e c1w1 ⟨rfl,gc1w1⟩
   rw [HO1.out]
   replace Ba:=a_ gc1w1 Ba
   replace Bb:=a_ gc1w1 Bb
   replace Bq:=a_ gc1w1 Bq
   replace qa:=qa.kept gc1w1
   replace ia:=ia.kept gc1w1
   replace qb:=qb.kept gc1w1
   replace ib:=ib.kept gc1w1
   replace hG:=d_ hG gc1w1
   clear gc1w1
   obtain ⟨Ca0,Ca1,Ca2,Ca3,Fa0,Fa1,Fa2,Fa3⟩:=b_ Ba
   obtain ⟨Cb0,Cb1,Cb2,Cb3,Fb0,Fb1,Fb2,Fb3⟩:=b_ Bb
   obtain ⟨Cq0,Cq1,Cq2,Cq3,Fq0,Fq1,Fq2,Fq3⟩:=b_ Bq
   go_wp2_with fail
   clear Ca0 Fa0 Ca1 Fa1 Ca2 Fa2 Ca3 Fa3 Cb0 Fb0 Cb1 Fb1 Cb2 Fb2 Cb3 Fb3 Cq0 Fq0 Cq1 Fq1 Cq2 Fq2 Cq3 Fq3
   refine (B_ c1w1 _ t K qb (by omega) Hmd.out).mono ?_
   rintro e c1w2 ⟨rfl,gc1w2⟩
   rw [HO2.out]
   replace Ba:=a_ gc1w2 Ba
   replace Bb:=a_ gc1w2 Bb
   replace Bq:=a_ gc1w2 Bq
   replace qa:=qa.kept gc1w2
   replace ia:=ia.kept gc1w2
   replace qb:=qb.kept gc1w2
   replace ib:=ib.kept gc1w2
   replace hG:=d_ hG gc1w2
   clear gc1w2
   obtain ⟨Ca0,Ca1,Ca2,Ca3,Fa0,Fa1,Fa2,Fa3⟩:=b_ Ba
   obtain ⟨Cb0,Cb1,Cb2,Cb3,Fb0,Fb1,Fb2,Fb3⟩:=b_ Bb
   obtain ⟨Cq0,Cq1,Cq2,Cq3,Fq0,Fq1,Fq2,Fq3⟩:=b_ Bq
   go_wp2_with fail
   have HT3 : Hid (∀ W,c1w2.grownBy W none → Tab W):=fun W hW=>HTB.out _ (d_ hG hW)
   go_region_held3 (fun w'=>w'.cell? ⟨w.heap.size,0,none⟩ = some (.slice sa xa.length xa.length) ∧ w'.cell? ⟨w.heap.size,1,none⟩ = some (.bool ba) ∧ w'.cell? ⟨w.heap.size,2,none⟩ = some (.slice sa' xa'.length xa'.length) ∧ w'.cell? ⟨w.heap.size,3,none⟩ = some (.bool ba') ∧ w'.cell? ⟨w.heap.size + 1,0,none⟩ = some (.slice sb xb.length xb.length) ∧ w'.cell? ⟨w.heap.size + 1,1,none⟩ = some (.bool bb) ∧ w'.cell? ⟨w.heap.size + 1,2,none⟩ = some (.slice sb' xb'.length xb'.length) ∧ w'.cell? ⟨w.heap.size + 1,3,none⟩ = some (.bool bb'))
    (first | assumption | exact ⟨Ca0,Ca1,Ca2,Ca3,Cb0,Cb1,Cb2,Cb3⟩ | exact HSc1w3_30 | go_keep)
    (first
      | (go_at_call 66; (with_reducible refine (u_ c1w2.drew _ r K (qa.kept (k_ (h_ _ _))) (by omega) Hld.out).mono ?_); rintro e c1w3_1 ⟨v1,rfl,n1,gc1w3_1⟩; have hGc1w3_1:=o_ c1w2 gc1w3_1 rfl rfl rfl rfl; have hSc1w3_1:=(n_ (hGc1w3_1.cell Ca0 (by simp)) (n_ (hGc1w3_1.cell Ca1 (by simp)) (n_ (hGc1w3_1.cell Ca2 (by simp)) (n_ (hGc1w3_1.cell Ca3 (by simp)) (n_ (hGc1w3_1.cell Cb0 (by simp)) (n_ (hGc1w3_1.cell Cb1 (by simp)) (n_ (hGc1w3_1.cell Cb2 (by simp)) (hGc1w3_1.cell Cb3 (by simp))))))))); clear gc1w3_1)
      | (go_at_call 66; (with_reducible refine (u_ c1w3_1 _ t K (qb.kept hGc1w3_1) (by omega) Hmd.out).mono ?_); rintro e c1w3_2 ⟨v2,rfl,n2,gc1w3_2⟩; have hGc1w3_2:=d_ hGc1w3_1 gc1w3_2; replace n1:=n1.kept gc1w3_2; have hSc1w3_2:=(n_ (hGc1w3_2.cell Ca0 (by simp)) (n_ (hGc1w3_2.cell Ca1 (by simp)) (n_ (hGc1w3_2.cell Ca2 (by simp)) (n_ (hGc1w3_2.cell Ca3 (by simp)) (n_ (hGc1w3_2.cell Cb0 (by simp)) (n_ (hGc1w3_2.cell Cb1 (by simp)) (n_ (hGc1w3_2.cell Cb2 (by simp)) (hGc1w3_2.cell Cb3 (by simp))))))))); clear gc1w3_2)
      | (go_at_call 79; (with_reducible refine (dL_ c1w3_2 _ _ _ _ r t K (ia.kept hGc1w3_2) n1 (ib.kept hGc1w3_2) n2 (by omega) Hln.out Hld.out Hmn.out Hmd.out (HT3.out _ hGc1w3_2)).mono ?_); rintro e c1w3_3 ⟨_,rfl,⟨sd,xd,bd,sd',xd',bd',rfl,hd,hd'⟩,gc1w3_3⟩; have hGc1w3_3:=d_ hGc1w3_2 gc1w3_3; replace n1:=n1.kept gc1w3_3; replace n2:=n2.kept gc1w3_3; have qd : RatV c1w3_3 (.agg #[.slice sd xd.length xd.length,.bool bd,.slice sd' xd'.length xd'.length,.bool bd']) (r + t):=⟨sd,xd,bd,sd',xd',bd',rfl,hd,hd'⟩; have hSc1w3_3:=(n_ (hGc1w3_3.cell Ca0 (by simp)) (n_ (hGc1w3_3.cell Ca1 (by simp)) (n_ (hGc1w3_3.cell Ca2 (by simp)) (n_ (hGc1w3_3.cell Ca3 (by simp)) (n_ (hGc1w3_3.cell Cb0 (by simp)) (n_ (hGc1w3_3.cell Cb1 (by simp)) (n_ (hGc1w3_3.cell Cb2 (by simp)) (hGc1w3_3.cell Cb3 (by simp))))))))); clear gc1w3_3; clear hd hd'; (obtain ⟨dq0,dq1,dq2,dq3,dq4,dq5,dq6,dq7⟩:=b_ (a_ hGc1w3_3 Bq)); have HSc1w3_30:=(n_ ((b_ (i_ (a_ hGc1w3_3 Ba) (show w.heap.size ≠ w.heap.size + 1 + 1 by omega) (.slice sd xd.length xd.length) (.bool bd) (.slice sd' xd'.length xd'.length) (.bool bd'))).1) (n_ ((b_ (i_ (a_ hGc1w3_3 Ba) (show w.heap.size ≠ w.heap.size + 1 + 1 by omega) (.slice sd xd.length xd.length) (.bool bd) (.slice sd' xd'.length xd'.length) (.bool bd'))).2.1) (n_ ((b_ (i_ (a_ hGc1w3_3 Ba) (show w.heap.size ≠ w.heap.size + 1 + 1 by omega) (.slice sd xd.length xd.length) (.bool bd) (.slice sd' xd'.length xd'.length) (.bool bd'))).2.2.1) (n_ ((b_ (i_ (a_ hGc1w3_3 Ba) (show w.heap.size ≠ w.heap.size + 1 + 1 by omega) (.slice sd xd.length xd.length) (.bool bd) (.slice sd' xd'.length xd'.length) (.bool bd'))).2.2.2.1) (n_ ((b_ (i_ (a_ hGc1w3_3 Bb) (show w.heap.size + 1 ≠ w.heap.size + 1 + 1 by omega) (.slice sd xd.length xd.length) (.bool bd) (.slice sd' xd'.length xd'.length) (.bool bd'))).1) (n_ ((b_ (i_ (a_ hGc1w3_3 Bb) (show w.heap.size + 1 ≠ w.heap.size + 1 + 1 by omega) (.slice sd xd.length xd.length) (.bool bd) (.slice sd' xd'.length xd'.length) (.bool bd'))).2.1) (n_ ((b_ (i_ (a_ hGc1w3_3 Bb) (show w.heap.size + 1 ≠ w.heap.size + 1 + 1 by omega) (.slice sd xd.length xd.length) (.bool bd) (.slice sd' xd'.length xd'.length) (.bool bd'))).2.2.1) ((b_ (i_ (a_ hGc1w3_3 Bb) (show w.heap.size + 1 ≠ w.heap.size + 1 + 1 by omega) (.slice sd xd.length xd.length) (.bool bd) (.slice sd' xd'.length xd'.length) (.bool bd'))).2.2.2.1))))))))))
   replace Bq:=a_ hGc1w3_3 Bq
   replace hG:=d_ hG hGc1w3_3
   clear Ca0 Fa0 Ca1 Fa1 Ca2 Fa2 Ca3 Fa3 Cb0 Fb0 Cb1 Fb1 Cb2 Fb2 Cb3 Fb3 Cq0 Fq0 Cq1 Fq1 Cq2 Fq2 Cq3 Fq3
   obtain ⟨k90,k91,k92,k93,k94,k95,k96,k97⟩:=b_ Bq
   obtain ⟨q90,q91,q92,q93,q94,q95,q96,q97⟩:=b_ (r_ Bq (.slice sd xd.length xd.length) (.bool bd) (.slice sd' xd'.length xd'.length) (.bool bd'))
   have hF : Hid (aa_ w (r + t) (.returned (.agg #[.slice sd xd.length xd.length,.bool bd,.slice sd' xd'.length xd'.length,.bool bd'])) ((((c1w3_3.setCell ⟨w.heap.size + 1 + 1,0,none⟩ (.slice sd xd.length xd.length)).setCell ⟨w.heap.size + 1 + 1,1,none⟩ (.bool bd)).setCell ⟨w.heap.size + 1 + 1,2,none⟩ (.slice sd' xd'.length xd'.length)).setCell ⟨w.heap.size + 1 + 1,3,none⟩ (.bool bd'))):=X_ hG Bq (by omega) qd
   clear qa ia ia' qb ib ib' n1 n2 qd
   go_wp2_with fail
   exact bodyPost_ret (v:=.agg #[.slice sd xd.length xd.length,.bool bd,.slice sd' xd'.length xd'.length,.bool bd']) (by simp [results,Tryz.results33,go_sem,q90,q91,q92,q93]) rfl hF.out
 · skip
   obtain ⟨sa,xa,ba,sa',xa',ba',rfl,ha,ha'⟩:=Ha
   obtain ⟨sb,xb,bb,sb',xb',bb',rfl,hb,hb'⟩:=Hb
   obtain ⟨hG,Ba,Bb,Bq⟩:=en3_ w (.cells #[.slice sa xa.length xa.length,.bool ba,.slice sa' xa'.length xa'.length,.bool ba'] 28) (.cells #[.slice sb xb.length xb.length,.bool bb,.slice sb' xb'.length xb'.length,.bool bb'] 28) (.cells #[.slice none 0 0,.bool false,.slice none 0 0,.bool false] 28)
   have oa : RatV w (.agg #[.slice sa xa.length xa.length,.bool ba,.slice sa' xa'.length xa'.length,.bool ba']) (r):=⟨sa,xa,ba,sa',xa',ba',rfl,ha,ha'⟩
   have qa:=oa.kept hG
   have ia:=(show IntV w (.agg #[.slice sa xa.length xa.length,.bool ba]) (r).num from ha).kept hG
   have ia':=(show IntV w (.agg #[.slice sa' xa'.length xa'.length,.bool ba']) (dn (r)) from ha').kept hG
   have ob : RatV w (.agg #[.slice sb xb.length xb.length,.bool bb,.slice sb' xb'.length xb'.length,.bool bb']) (t):=⟨sb,xb,bb,sb',xb',bb',rfl,hb,hb'⟩
   have qb:=ob.kept hG
   have ib:=(show IntV w (.agg #[.slice sb xb.length xb.length,.bool bb]) (t).num from hb).kept hG
   have ib':=(show IntV w (.agg #[.slice sb' xb'.length xb'.length,.bool bb']) (dn (t)) from hb').kept hG
   clear ha ha'
   clear hb hb'
   go_enter Tryz.func33,Tryz.ntmps33
   obtain ⟨Ca0,Ca1,Ca2,Ca3,Fa0,Fa1,Fa2,Fa3⟩:=b_ Ba
   obtain ⟨Cb0,Cb1,Cb2,Cb3,Fb0,Fb1,Fb2,Fb3⟩:=b_ Bb
   obtain ⟨Cq0,Cq1,Cq2,Cq3,Fq0,Fq1,Fq2,Fq3⟩:=b_ Bq
   go_wp2_with fail
   generalize (((w.alloc (.cells #[.slice sa xa.length xa.length,.bool ba,.slice sa' xa'.length xa'.length,.bool ba'] 28)).alloc (.cells #[.slice sb xb.length xb.length,.bool bb,.slice sb' xb'.length xb'.length,.bool bb'] 28)).alloc (.cells #[.slice none 0 0,.bool false,.slice none 0 0,.bool false] 28)) = w0 at *
   clear Ca0 Fa0 Ca1 Fa1 Ca2 Fa2 Ca3 Fa3 Cb0 Fb0 Cb1 Fb1 Cb2 Fb2 Cb3 Fb3 Cq0 Fq0 Cq1 Fq1 Cq2 Fq2 Cq3 Fq3
   refine (B_ w0 _ r K qa (by omega) Hld.out).mono ?_
   rintro e c2w1 ⟨rfl,gc2w1⟩
   rw [HO1.out]
   replace Ba:=a_ gc2w1 Ba
   replace Bb:=a_ gc2w1 Bb
   replace Bq:=a_ gc2w1 Bq
   replace qa:=qa.kept gc2w1
   replace ia:=ia.kept gc2w1
   replace qb:=qb.kept gc2w1
   replace ib:=ib.kept gc2w1
   replace hG:=d_ hG gc2w1
   clear gc2w1
   obtain ⟨Ca0,Ca1,Ca2,Ca3,Fa0,Fa1,Fa2,Fa3⟩:=b_ Ba
   obtain ⟨Cb0,Cb1,Cb2,Cb3,Fb0,Fb1,Fb2,Fb3⟩:=b_ Bb
   obtain ⟨Cq0,Cq1,Cq2,Cq3,Fq0,Fq1,Fq2,Fq3⟩:=b_ Bq
   go_wp2_with fail
   have HT3 : Hid (∀ W,c2w1.grownBy W none → Tab W):=fun W hW=>HTB.out _ (d_ hG hW)
   go_region_held3 (fun w'=>w'.cell? ⟨w.heap.size,0,none⟩ = some (.slice sa xa.length xa.length) ∧ w'.cell? ⟨w.heap.size,1,none⟩ = some (.bool ba) ∧ w'.cell? ⟨w.heap.size,2,none⟩ = some (.slice sa' xa'.length xa'.length) ∧ w'.cell? ⟨w.heap.size,3,none⟩ = some (.bool ba') ∧ w'.cell? ⟨w.heap.size + 1,0,none⟩ = some (.slice sb xb.length xb.length) ∧ w'.cell? ⟨w.heap.size + 1,1,none⟩ = some (.bool bb) ∧ w'.cell? ⟨w.heap.size + 1,2,none⟩ = some (.slice sb' xb'.length xb'.length) ∧ w'.cell? ⟨w.heap.size + 1,3,none⟩ = some (.bool bb'))
    (first | assumption | exact ⟨Ca0,Ca1,Ca2,Ca3,Cb0,Cb1,Cb2,Cb3⟩ | exact HSc2w2_30 | go_keep)
    (first
      | (go_at_call 66; (with_reducible refine (u_ c2w1.drew _ r K (qa.kept (k_ (h_ _ _))) (by omega) Hld.out).mono ?_); rintro e c2w2_1 ⟨v1,rfl,n1,gc2w2_1⟩; have hGc2w2_1:=o_ c2w1 gc2w2_1 rfl rfl rfl rfl; have hSc2w2_1:=(n_ (hGc2w2_1.cell Ca0 (by simp)) (n_ (hGc2w2_1.cell Ca1 (by simp)) (n_ (hGc2w2_1.cell Ca2 (by simp)) (n_ (hGc2w2_1.cell Ca3 (by simp)) (n_ (hGc2w2_1.cell Cb0 (by simp)) (n_ (hGc2w2_1.cell Cb1 (by simp)) (n_ (hGc2w2_1.cell Cb2 (by simp)) (hGc2w2_1.cell Cb3 (by simp))))))))); clear gc2w2_1)
      | (go_at_call 66; (with_reducible refine (u_ c2w2_1 _ t K (qb.kept hGc2w2_1) (by omega) Hmd.out).mono ?_); rintro e c2w2_2 ⟨v2,rfl,n2,gc2w2_2⟩; have hGc2w2_2:=d_ hGc2w2_1 gc2w2_2; replace n1:=n1.kept gc2w2_2; have hSc2w2_2:=(n_ (hGc2w2_2.cell Ca0 (by simp)) (n_ (hGc2w2_2.cell Ca1 (by simp)) (n_ (hGc2w2_2.cell Ca2 (by simp)) (n_ (hGc2w2_2.cell Ca3 (by simp)) (n_ (hGc2w2_2.cell Cb0 (by simp)) (n_ (hGc2w2_2.cell Cb1 (by simp)) (n_ (hGc2w2_2.cell Cb2 (by simp)) (hGc2w2_2.cell Cb3 (by simp))))))))); clear gc2w2_2)
      | (go_at_call 79; (with_reducible refine (dL_ c2w2_2 _ _ _ _ r t K (ia.kept hGc2w2_2) n1 (ib.kept hGc2w2_2) n2 (by omega) Hln.out Hld.out Hmn.out Hmd.out (HT3.out _ hGc2w2_2)).mono ?_); rintro e c2w2_3 ⟨_,rfl,⟨sd,xd,bd,sd',xd',bd',rfl,hd,hd'⟩,gc2w2_3⟩; have hGc2w2_3:=d_ hGc2w2_2 gc2w2_3; replace n1:=n1.kept gc2w2_3; replace n2:=n2.kept gc2w2_3; have qd : RatV c2w2_3 (.agg #[.slice sd xd.length xd.length,.bool bd,.slice sd' xd'.length xd'.length,.bool bd']) (r + t):=⟨sd,xd,bd,sd',xd',bd',rfl,hd,hd'⟩; have hSc2w2_3:=(n_ (hGc2w2_3.cell Ca0 (by simp)) (n_ (hGc2w2_3.cell Ca1 (by simp)) (n_ (hGc2w2_3.cell Ca2 (by simp)) (n_ (hGc2w2_3.cell Ca3 (by simp)) (n_ (hGc2w2_3.cell Cb0 (by simp)) (n_ (hGc2w2_3.cell Cb1 (by simp)) (n_ (hGc2w2_3.cell Cb2 (by simp)) (hGc2w2_3.cell Cb3 (by simp))))))))); clear gc2w2_3; clear hd hd'; (obtain ⟨dq0,dq1,dq2,dq3,dq4,dq5,dq6,dq7⟩:=b_ (a_ hGc2w2_3 Bq)); have HSc2w2_30:=(n_ ((b_ (i_ (a_ hGc2w2_3 Ba) (show w.heap.size ≠ w.heap.size + 1 + 1 by omega) (.slice sd xd.length xd.length) (.bool bd) (.slice sd' xd'.length xd'.length) (.bool bd'))).1) (n_ ((b_ (i_ (a_ hGc2w2_3 Ba) (show w.heap.size ≠ w.heap.size + 1 + 1 by omega) (.slice sd xd.length xd.length) (.bool bd) (.slice sd' xd'.length xd'.length) (.bool bd'))).2.1) (n_ ((b_ (i_ (a_ hGc2w2_3 Ba) (show w.heap.size ≠ w.heap.size + 1 + 1 by omega) (.slice sd xd.length xd.length) (.bool bd) (.slice sd' xd'.length xd'.length) (.bool bd'))).2.2.1) (n_ ((b_ (i_ (a_ hGc2w2_3 Ba) (show w.heap.size ≠ w.heap.size + 1 + 1 by omega) (.slice sd xd.length xd.length) (.bool bd) (.slice sd' xd'.length xd'.length) (.bool bd'))).2.2.2.1) (n_ ((b_ (i_ (a_ hGc2w2_3 Bb) (show w.heap.size + 1 ≠ w.heap.size + 1 + 1 by omega) (.slice sd xd.length xd.length) (.bool bd) (.slice sd' xd'.length xd'.length) (.bool bd'))).1) (n_ ((b_ (i_ (a_ hGc2w2_3 Bb) (show w.heap.size + 1 ≠ w.heap.size + 1 + 1 by omega) (.slice sd xd.length xd.length) (.bool bd) (.slice sd' xd'.length xd'.length) (.bool bd'))).2.1) (n_ ((b_ (i_ (a_ hGc2w2_3 Bb) (show w.heap.size + 1 ≠ w.heap.size + 1 + 1 by omega) (.slice sd xd.length xd.length) (.bool bd) (.slice sd' xd'.length xd'.length) (.bool bd'))).2.2.1) ((b_ (i_ (a_ hGc2w2_3 Bb) (show w.heap.size + 1 ≠ w.heap.size + 1 + 1 by omega) (.slice sd xd.length xd.length) (.bool bd) (.slice sd' xd'.length xd'.length) (.bool bd'))).2.2.2.1))))))))))
   replace Bq:=a_ hGc2w2_3 Bq
   replace hG:=d_ hG hGc2w2_3
   clear Ca0 Fa0 Ca1 Fa1 Ca2 Fa2 Ca3 Fa3 Cb0 Fb0 Cb1 Fb1 Cb2 Fb2 Cb3 Fb3 Cq0 Fq0 Cq1 Fq1 Cq2 Fq2 Cq3 Fq3
   obtain ⟨k90,k91,k92,k93,k94,k95,k96,k97⟩:=b_ Bq
   obtain ⟨q90,q91,q92,q93,q94,q95,q96,q97⟩:=b_ (r_ Bq (.slice sd xd.length xd.length) (.bool bd) (.slice sd' xd'.length xd'.length) (.bool bd'))
   have hF : Hid (aa_ w (r + t) (.returned (.agg #[.slice sd xd.length xd.length,.bool bd,.slice sd' xd'.length xd'.length,.bool bd'])) ((((c2w2_3.setCell ⟨w.heap.size + 1 + 1,0,none⟩ (.slice sd xd.length xd.length)).setCell ⟨w.heap.size + 1 + 1,1,none⟩ (.bool bd)).setCell ⟨w.heap.size + 1 + 1,2,none⟩ (.slice sd' xd'.length xd'.length)).setCell ⟨w.heap.size + 1 + 1,3,none⟩ (.bool bd'))):=X_ hG Bq (by omega) qd
   clear qa ia ia' qb ib ib' n1 n2 qd
   go_wp2_with fail
   exact bodyPost_ret (v:=.agg #[.slice sd xd.length xd.length,.bool bd,.slice sd' xd'.length xd'.length,.bool bd']) (by simp [results,Tryz.results33,go_sem,q90,q91,q92,q93]) rfl hF.out
set_option maxHeartbeats 16000000 in
theorem bS_ (w : World) (va vb : Value) (r t : Rat) (K : Nat) (Ha : RatV w va r) (Hb : RatV w vb t) (hK : K ≤ 300000) (ln : r.num.natAbs < B ^ K) (ld : r.den < B ^ K) (mn : t.num.natAbs < B ^ K) (md : t.den < B ^ K) (hTab : Tab w) :
    Calls Tryz.prog 35 #[va,vb] w (aa_ w (r - t)):=by
 have HTB : Hid (∀ W,w.grownBy W none → Tab W):=fun W hW=>hTab.kept hW (by simp)
 clear hTab
 have HNN : Hid ((-t).num.natAbs < B ^ K ∧ (-t).den < B ^ K):=⟨by rw [Rat.neg_num,Int.natAbs_neg]; exact mn,by rw [Rat.neg_den]; exact md⟩
 have Hln:=H_ ln
 have Hld:=H_ ld
 have Hmn:=H_ mn
 have Hmd:=H_ md
 clear ln ld mn md
 have HRW : Hid (r.den = 1 → t.den = 1 → (r - t).num = r.num - t.num ∧ dn (r - t) = 0):=fun h1 h2=>hu_ h1 h2
 have hg : (decide (r.den = 1) = true ∧ decide (t.den = 1) = true) ∨ (decide (r.den = 1) = true ∧ decide (t.den = 1) = false) ∨ decide (r.den = 1) = false:=by
  by_cases h1 : r.den = 1
  · by_cases h2 : t.den = 1
    · left; exact ⟨decide_eq_true h1,decide_eq_true h2⟩
    · right; left; exact ⟨decide_eq_true h1,decide_eq_false h2⟩
  · right; right; exact decide_eq_false h1
 obtain ⟨o1,ho1⟩ : ∃ o,decide (r.den = 1) = o:=⟨_,rfl⟩
 obtain ⟨o2,ho2⟩ : ∃ o,decide (t.den = 1) = o:=⟨_,rfl⟩
 rw [ho1,ho2] at hg
 have HO1:=H_ ho1
 have HO2:=H_ ho2
 clear ho1 ho2
 rcases hg with ⟨rfl,rfl⟩ | ⟨rfl,rfl⟩ | rfl
 · skip
   obtain ⟨sa,xa,ba,sa',xa',ba',rfl,ha,ha'⟩:=Ha
   obtain ⟨sb,xb,bb,sb',xb',bb',rfl,hb,hb'⟩:=Hb
   obtain ⟨hG,Ba,Bb,Bq⟩:=en3_ w (.cells #[.slice sa xa.length xa.length,.bool ba,.slice sa' xa'.length xa'.length,.bool ba'] 28) (.cells #[.slice sb xb.length xb.length,.bool bb,.slice sb' xb'.length xb'.length,.bool bb'] 28) (.cells #[.slice none 0 0,.bool false,.slice none 0 0,.bool false] 28)
   have oa : RatV w (.agg #[.slice sa xa.length xa.length,.bool ba,.slice sa' xa'.length xa'.length,.bool ba']) (r):=⟨sa,xa,ba,sa',xa',ba',rfl,ha,ha'⟩
   have qa:=oa.kept hG
   have ia:=(show IntV w (.agg #[.slice sa xa.length xa.length,.bool ba]) (r).num from ha).kept hG
   have ia':=(show IntV w (.agg #[.slice sa' xa'.length xa'.length,.bool ba']) (dn (r)) from ha').kept hG
   have ob : RatV w (.agg #[.slice sb xb.length xb.length,.bool bb,.slice sb' xb'.length xb'.length,.bool bb']) (t):=⟨sb,xb,bb,sb',xb',bb',rfl,hb,hb'⟩
   have qb:=ob.kept hG
   have ib:=(show IntV w (.agg #[.slice sb xb.length xb.length,.bool bb]) (t).num from hb).kept hG
   have ib':=(show IntV w (.agg #[.slice sb' xb'.length xb'.length,.bool bb']) (dn (t)) from hb').kept hG
   clear ha ha'
   clear hb hb'
   go_enter Tryz.func35,Tryz.ntmps35
   obtain ⟨Ca0,Ca1,Ca2,Ca3,Fa0,Fa1,Fa2,Fa3⟩:=b_ Ba
   obtain ⟨Cb0,Cb1,Cb2,Cb3,Fb0,Fb1,Fb2,Fb3⟩:=b_ Bb
   obtain ⟨Cq0,Cq1,Cq2,Cq3,Fq0,Fq1,Fq2,Fq3⟩:=b_ Bq
   go_wp2_with fail
   generalize (((w.alloc (.cells #[.slice sa xa.length xa.length,.bool ba,.slice sa' xa'.length xa'.length,.bool ba'] 28)).alloc (.cells #[.slice sb xb.length xb.length,.bool bb,.slice sb' xb'.length xb'.length,.bool bb'] 28)).alloc (.cells #[.slice none 0 0,.bool false,.slice none 0 0,.bool false] 28)) = w0 at *
   clear Ca0 Fa0 Ca1 Fa1 Ca2 Fa2 Ca3 Fa3 Cb0 Fb0 Cb1 Fb1 Cb2 Fb2 Cb3 Fb3 Cq0 Fq0 Cq1 Fq1 Cq2 Fq2 Cq3 Fq3
   refine (B_ w0 _ r K qa (by omega) Hld.out).mono ?_
   rintro e c0w1 ⟨rfl,gc0w1⟩
   rw [HO1.out]
   replace Ba:=a_ gc0w1 Ba
   replace Bb:=a_ gc0w1 Bb
   replace Bq:=a_ gc0w1 Bq
   replace ia:=ia.kept gc0w1
   replace qb:=qb.kept gc0w1
   replace ib:=ib.kept gc0w1
   replace hG:=d_ hG gc0w1
   clear gc0w1
   obtain ⟨Ca0,Ca1,Ca2,Ca3,Fa0,Fa1,Fa2,Fa3⟩:=b_ Ba
   obtain ⟨Cb0,Cb1,Cb2,Cb3,Fb0,Fb1,Fb2,Fb3⟩:=b_ Bb
   obtain ⟨Cq0,Cq1,Cq2,Cq3,Fq0,Fq1,Fq2,Fq3⟩:=b_ Bq
   go_wp2_with fail
   clear Ca0 Fa0 Ca1 Fa1 Ca2 Fa2 Ca3 Fa3 Cb0 Fb0 Cb1 Fb1 Cb2 Fb2 Cb3 Fb3 Cq0 Fq0 Cq1 Fq1 Cq2 Fq2 Cq3 Fq3
   refine (B_ c0w1 _ t K qb (by omega) Hmd.out).mono ?_
   rintro e c0w2 ⟨rfl,gc0w2⟩
   rw [HO2.out]
   replace Ba:=a_ gc0w2 Ba
   replace Bb:=a_ gc0w2 Bb
   replace Bq:=a_ gc0w2 Bq
   replace ia:=ia.kept gc0w2
   replace ib:=ib.kept gc0w2
   replace hG:=d_ hG gc0w2
   clear gc0w2
   obtain ⟨Ca0,Ca1,Ca2,Ca3,Fa0,Fa1,Fa2,Fa3⟩:=b_ Ba
   obtain ⟨Cb0,Cb1,Cb2,Cb3,Fb0,Fb1,Fb2,Fb3⟩:=b_ Bb
   obtain ⟨Cq0,Cq1,Cq2,Cq3,Fq0,Fq1,Fq2,Fq3⟩:=b_ Bq
   go_wp2_with fail
   clear Ca0 Fa0 Ca1 Fa1 Ca2 Fa2 Ca3 Fa3 Cb0 Fb0 Cb1 Fb1 Cb2 Fb2 Cb3 Fb3 Cq0 Fq0 Cq1 Fq1 Cq2 Fq2 Cq3 Fq3
   refine (kp_ c0w2 _ _ r.num t.num K ia ib (by omega) Hln.out Hmn.out).mono ?_
   rintro e c0w3 ⟨_,rfl,⟨sd,xd,bd,rfl,hd,vd,td⟩,gc0w3⟩
   have id : IntV c0w3 (.agg #[.slice sd xd.length xd.length,.bool bd]) (r.num - t.num):=⟨sd,xd,bd,rfl,hd,vd,td⟩
   replace Ba:=a_ gc0w3 Ba
   replace Bb:=a_ gc0w3 Bb
   replace Bq:=a_ gc0w3 Bq
   replace hG:=d_ hG gc0w3
   clear gc0w3
   clear hd vd td
   obtain ⟨Ca0,Ca1,Ca2,Ca3,Fa0,Fa1,Fa2,Fa3⟩:=b_ Ba
   obtain ⟨Cb0,Cb1,Cb2,Cb3,Fb0,Fb1,Fb2,Fb3⟩:=b_ Bb
   obtain ⟨Cq0,Cq1,Cq2,Cq3,Fq0,Fq1,Fq2,Fq3⟩:=b_ Bq
   obtain ⟨hw1,hw2⟩:=HRW.out (of_decide_eq_true HO1.out) (of_decide_eq_true HO2.out)
   have qd : RatV c0w3 (.agg #[.slice sd xd.length xd.length,.bool bd,.slice none 0 0,.bool false]) (r - t):=⟨_,_,_,none,[],false,rfl,by rw [hw1]; exact id,by rw [hw2]; exact IntV.zero _⟩
   clear hw1 hw2
   clear Ca0 Fa0 Ca1 Fa1 Ca2 Fa2 Ca3 Fa3 Cb0 Fb0 Cb1 Fb1 Cb2 Fb2 Cb3 Fb3 Cq0 Fq0 Cq1 Fq1 Cq2 Fq2 Cq3 Fq3
   obtain ⟨k90,k91,k92,k93,k94,k95,k96,k97⟩:=b_ Bq
   obtain ⟨q90,q91,q92,q93,q94,q95,q96,q97⟩:=b_ (r_ Bq (.slice sd xd.length xd.length) (.bool bd) (.slice none 0 0) (.bool false))
   have hF : Hid (aa_ w (r - t) (.returned (.agg #[.slice sd xd.length xd.length,.bool bd,.slice none 0 0,.bool false])) ((((c0w3.setCell ⟨w.heap.size + 1 + 1,0,none⟩ (.slice sd xd.length xd.length)).setCell ⟨w.heap.size + 1 + 1,1,none⟩ (.bool bd)).setCell ⟨w.heap.size + 1 + 1,2,none⟩ (.slice none 0 0)).setCell ⟨w.heap.size + 1 + 1,3,none⟩ (.bool false))):=X_ hG Bq (by omega) qd
   clear qa ia ia' qb ib ib' id qd
   go_wp2_with fail
   exact bodyPost_ret (v:=.agg #[.slice sd xd.length xd.length,.bool bd,.slice none 0 0,.bool false]) (by simp [results,Tryz.results35,go_sem,q90,q91,q92,q93]) rfl hF.out
 · skip
   obtain ⟨sa,xa,ba,sa',xa',ba',rfl,ha,ha'⟩:=Ha
   obtain ⟨sb,xb,bb,sb',xb',bb',rfl,hb,hb'⟩:=Hb
   obtain ⟨hG,Ba,Bb,Bq⟩:=en3_ w (.cells #[.slice sa xa.length xa.length,.bool ba,.slice sa' xa'.length xa'.length,.bool ba'] 28) (.cells #[.slice sb xb.length xb.length,.bool bb,.slice sb' xb'.length xb'.length,.bool bb'] 28) (.cells #[.slice none 0 0,.bool false,.slice none 0 0,.bool false] 28)
   have oa : RatV w (.agg #[.slice sa xa.length xa.length,.bool ba,.slice sa' xa'.length xa'.length,.bool ba']) (r):=⟨sa,xa,ba,sa',xa',ba',rfl,ha,ha'⟩
   have qa:=oa.kept hG
   have ia:=(show IntV w (.agg #[.slice sa xa.length xa.length,.bool ba]) (r).num from ha).kept hG
   have ia':=(show IntV w (.agg #[.slice sa' xa'.length xa'.length,.bool ba']) (dn (r)) from ha').kept hG
   have ob : RatV w (.agg #[.slice sb xb.length xb.length,.bool bb,.slice sb' xb'.length xb'.length,.bool bb']) (t):=⟨sb,xb,bb,sb',xb',bb',rfl,hb,hb'⟩
   have qb:=ob.kept hG
   have ib:=(show IntV w (.agg #[.slice sb xb.length xb.length,.bool bb]) (t).num from hb).kept hG
   have ib':=(show IntV w (.agg #[.slice sb' xb'.length xb'.length,.bool bb']) (dn (t)) from hb').kept hG
   clear ha ha'
   clear hb hb'
   go_enter Tryz.func35,Tryz.ntmps35
   obtain ⟨Ca0,Ca1,Ca2,Ca3,Fa0,Fa1,Fa2,Fa3⟩:=b_ Ba
   obtain ⟨Cb0,Cb1,Cb2,Cb3,Fb0,Fb1,Fb2,Fb3⟩:=b_ Bb
   obtain ⟨Cq0,Cq1,Cq2,Cq3,Fq0,Fq1,Fq2,Fq3⟩:=b_ Bq
   go_wp2_with fail
   generalize (((w.alloc (.cells #[.slice sa xa.length xa.length,.bool ba,.slice sa' xa'.length xa'.length,.bool ba'] 28)).alloc (.cells #[.slice sb xb.length xb.length,.bool bb,.slice sb' xb'.length xb'.length,.bool bb'] 28)).alloc (.cells #[.slice none 0 0,.bool false,.slice none 0 0,.bool false] 28)) = w0 at *
   clear Ca0 Fa0 Ca1 Fa1 Ca2 Fa2 Ca3 Fa3 Cb0 Fb0 Cb1 Fb1 Cb2 Fb2 Cb3 Fb3 Cq0 Fq0 Cq1 Fq1 Cq2 Fq2 Cq3 Fq3
   refine (B_ w0 _ r K qa (by omega) Hld.out).mono ?_
   rintro e c1w1 ⟨rfl,gc1w1⟩
   rw [HO1.out]
   replace Ba:=a_ gc1w1 Ba
   replace Bb:=a_ gc1w1 Bb
   replace Bq:=a_ gc1w1 Bq
   replace qa:=qa.kept gc1w1
   replace ia:=ia.kept gc1w1
   replace qb:=qb.kept gc1w1
   replace ib:=ib.kept gc1w1
   replace hG:=d_ hG gc1w1
   clear gc1w1
   obtain ⟨Ca0,Ca1,Ca2,Ca3,Fa0,Fa1,Fa2,Fa3⟩:=b_ Ba
   obtain ⟨Cb0,Cb1,Cb2,Cb3,Fb0,Fb1,Fb2,Fb3⟩:=b_ Bb
   obtain ⟨Cq0,Cq1,Cq2,Cq3,Fq0,Fq1,Fq2,Fq3⟩:=b_ Bq
   go_wp2_with fail
   clear Ca0 Fa0 Ca1 Fa1 Ca2 Fa2 Ca3 Fa3 Cb0 Fb0 Cb1 Fb1 Cb2 Fb2 Cb3 Fb3 Cq0 Fq0 Cq1 Fq1 Cq2 Fq2 Cq3 Fq3
   refine (B_ c1w1 _ t K qb (by omega) Hmd.out).mono ?_
   rintro e c1w2 ⟨rfl,gc1w2⟩
   rw [HO2.out]
   replace Ba:=a_ gc1w2 Ba
   replace Bb:=a_ gc1w2 Bb
   replace Bq:=a_ gc1w2 Bq
   replace qa:=qa.kept gc1w2
   replace ia:=ia.kept gc1w2
   replace qb:=qb.kept gc1w2
   replace ib:=ib.kept gc1w2
   replace hG:=d_ hG gc1w2
   clear gc1w2
   obtain ⟨Ca0,Ca1,Ca2,Ca3,Fa0,Fa1,Fa2,Fa3⟩:=b_ Ba
   obtain ⟨Cb0,Cb1,Cb2,Cb3,Fb0,Fb1,Fb2,Fb3⟩:=b_ Bb
   obtain ⟨Cq0,Cq1,Cq2,Cq3,Fq0,Fq1,Fq2,Fq3⟩:=b_ Bq
   go_wp2_with fail
   have HT3 : Hid (∀ W,c1w2.grownBy W none → Tab W):=fun W hW=>HTB.out _ (d_ hG hW)
   go_region_held3 (fun w'=>w'.cell? ⟨w.heap.size,0,none⟩ = some (.slice sa xa.length xa.length) ∧ w'.cell? ⟨w.heap.size,1,none⟩ = some (.bool ba) ∧ w'.cell? ⟨w.heap.size,2,none⟩ = some (.slice sa' xa'.length xa'.length) ∧ w'.cell? ⟨w.heap.size,3,none⟩ = some (.bool ba') ∧ w'.cell? ⟨w.heap.size + 1,0,none⟩ = some (.slice sb xb.length xb.length) ∧ w'.cell? ⟨w.heap.size + 1,1,none⟩ = some (.bool bb) ∧ w'.cell? ⟨w.heap.size + 1,2,none⟩ = some (.slice sb' xb'.length xb'.length) ∧ w'.cell? ⟨w.heap.size + 1,3,none⟩ = some (.bool bb'))
    (first | assumption | exact ⟨Ca0,Ca1,Ca2,Ca3,Cb0,Cb1,Cb2,Cb3⟩ | exact HSc1w3_40 | go_keep)
    (first
      | (go_at_call 66; (with_reducible refine (u_ c1w2.drew _ r K (qa.kept (k_ (h_ _ _))) (by omega) Hld.out).mono ?_); rintro e c1w3_1 ⟨v1,rfl,n1,gc1w3_1⟩; have hGc1w3_1:=o_ c1w2 gc1w3_1 rfl rfl rfl rfl; have hSc1w3_1:=(n_ (hGc1w3_1.cell Ca0 (by simp)) (n_ (hGc1w3_1.cell Ca1 (by simp)) (n_ (hGc1w3_1.cell Ca2 (by simp)) (n_ (hGc1w3_1.cell Ca3 (by simp)) (n_ (hGc1w3_1.cell Cb0 (by simp)) (n_ (hGc1w3_1.cell Cb1 (by simp)) (n_ (hGc1w3_1.cell Cb2 (by simp)) (hGc1w3_1.cell Cb3 (by simp))))))))); clear gc1w3_1)
      | (go_at_call 67; (with_reducible refine (as_ c1w3_1 _ t.num K (ib.kept hGc1w3_1) (by omega) Hmn.out).mono ?_); rintro e c1w3_2 ⟨v3,rfl,n3,gc1w3_2⟩; rw [← Rat.neg_num] at n3; have hGc1w3_2:=d_ hGc1w3_1 gc1w3_2; replace n1:=n1.kept gc1w3_2; have hSc1w3_2:=(n_ (hGc1w3_2.cell Ca0 (by simp)) (n_ (hGc1w3_2.cell Ca1 (by simp)) (n_ (hGc1w3_2.cell Ca2 (by simp)) (n_ (hGc1w3_2.cell Ca3 (by simp)) (n_ (hGc1w3_2.cell Cb0 (by simp)) (n_ (hGc1w3_2.cell Cb1 (by simp)) (n_ (hGc1w3_2.cell Cb2 (by simp)) (hGc1w3_2.cell Cb3 (by simp))))))))); clear gc1w3_2)
      | (go_at_call 66; (with_reducible refine (u_ c1w3_2 _ t K (qb.kept hGc1w3_2) (by omega) Hmd.out).mono ?_); rintro e c1w3_3 ⟨v2,rfl,n2,gc1w3_3⟩; rw [← Rat.neg_den t] at n2; have hGc1w3_3:=d_ hGc1w3_2 gc1w3_3; replace n1:=n1.kept gc1w3_3; replace n3:=n3.kept gc1w3_3; have hSc1w3_3:=(n_ (hGc1w3_3.cell Ca0 (by simp)) (n_ (hGc1w3_3.cell Ca1 (by simp)) (n_ (hGc1w3_3.cell Ca2 (by simp)) (n_ (hGc1w3_3.cell Ca3 (by simp)) (n_ (hGc1w3_3.cell Cb0 (by simp)) (n_ (hGc1w3_3.cell Cb1 (by simp)) (n_ (hGc1w3_3.cell Cb2 (by simp)) (hGc1w3_3.cell Cb3 (by simp))))))))); clear gc1w3_3)
      | (go_at_call 79; (with_reducible refine (dL_ c1w3_3 _ _ _ _ r (-t) K (ia.kept hGc1w3_3) n1 n3 n2 (by omega) Hln.out Hld.out HNN.out.1 HNN.out.2 (HT3.out _ hGc1w3_3)).mono ?_); rintro e c1w3_4 ⟨_,rfl,⟨sd,xd,bd,sd',xd',bd',rfl,hd,hd'⟩,gc1w3_4⟩; have hGc1w3_4:=d_ hGc1w3_3 gc1w3_4; replace n1:=n1.kept gc1w3_4; replace n3:=n3.kept gc1w3_4; replace n2:=n2.kept gc1w3_4; have qd : RatV c1w3_4 (.agg #[.slice sd xd.length xd.length,.bool bd,.slice sd' xd'.length xd'.length,.bool bd']) (r + -t):=⟨sd,xd,bd,sd',xd',bd',rfl,hd,hd'⟩; have hSc1w3_4:=(n_ (hGc1w3_4.cell Ca0 (by simp)) (n_ (hGc1w3_4.cell Ca1 (by simp)) (n_ (hGc1w3_4.cell Ca2 (by simp)) (n_ (hGc1w3_4.cell Ca3 (by simp)) (n_ (hGc1w3_4.cell Cb0 (by simp)) (n_ (hGc1w3_4.cell Cb1 (by simp)) (n_ (hGc1w3_4.cell Cb2 (by simp)) (hGc1w3_4.cell Cb3 (by simp))))))))); clear gc1w3_4; clear hd hd'; (obtain ⟨dq0,dq1,dq2,dq3,dq4,dq5,dq6,dq7⟩:=b_ (a_ hGc1w3_4 Bq)); have HSc1w3_40:=(n_ ((b_ (i_ (a_ hGc1w3_4 Ba) (show w.heap.size ≠ w.heap.size + 1 + 1 by omega) (.slice sd xd.length xd.length) (.bool bd) (.slice sd' xd'.length xd'.length) (.bool bd'))).1) (n_ ((b_ (i_ (a_ hGc1w3_4 Ba) (show w.heap.size ≠ w.heap.size + 1 + 1 by omega) (.slice sd xd.length xd.length) (.bool bd) (.slice sd' xd'.length xd'.length) (.bool bd'))).2.1) (n_ ((b_ (i_ (a_ hGc1w3_4 Ba) (show w.heap.size ≠ w.heap.size + 1 + 1 by omega) (.slice sd xd.length xd.length) (.bool bd) (.slice sd' xd'.length xd'.length) (.bool bd'))).2.2.1) (n_ ((b_ (i_ (a_ hGc1w3_4 Ba) (show w.heap.size ≠ w.heap.size + 1 + 1 by omega) (.slice sd xd.length xd.length) (.bool bd) (.slice sd' xd'.length xd'.length) (.bool bd'))).2.2.2.1) (n_ ((b_ (i_ (a_ hGc1w3_4 Bb) (show w.heap.size + 1 ≠ w.heap.size + 1 + 1 by omega) (.slice sd xd.length xd.length) (.bool bd) (.slice sd' xd'.length xd'.length) (.bool bd'))).1) (n_ ((b_ (i_ (a_ hGc1w3_4 Bb) (show w.heap.size + 1 ≠ w.heap.size + 1 + 1 by omega) (.slice sd xd.length xd.length) (.bool bd) (.slice sd' xd'.length xd'.length) (.bool bd'))).2.1) (n_ ((b_ (i_ (a_ hGc1w3_4 Bb) (show w.heap.size + 1 ≠ w.heap.size + 1 + 1 by omega) (.slice sd xd.length xd.length) (.bool bd) (.slice sd' xd'.length xd'.length) (.bool bd'))).2.2.1) ((b_ (i_ (a_ hGc1w3_4 Bb) (show w.heap.size + 1 ≠ w.heap.size + 1 + 1 by omega) (.slice sd xd.length xd.length) (.bool bd) (.slice sd' xd'.length xd'.length) (.bool bd'))).2.2.2.1))))))))))
   replace Bq:=a_ hGc1w3_4 Bq
   replace hG:=d_ hG hGc1w3_4
   clear Ca0 Fa0 Ca1 Fa1 Ca2 Fa2 Ca3 Fa3 Cb0 Fb0 Cb1 Fb1 Cb2 Fb2 Cb3 Fb3 Cq0 Fq0 Cq1 Fq1 Cq2 Fq2 Cq3 Fq3
   rw [← Rat.sub_eq_add_neg] at qd
   obtain ⟨k90,k91,k92,k93,k94,k95,k96,k97⟩:=b_ Bq
   obtain ⟨q90,q91,q92,q93,q94,q95,q96,q97⟩:=b_ (r_ Bq (.slice sd xd.length xd.length) (.bool bd) (.slice sd' xd'.length xd'.length) (.bool bd'))
   have hF : Hid (aa_ w (r - t) (.returned (.agg #[.slice sd xd.length xd.length,.bool bd,.slice sd' xd'.length xd'.length,.bool bd'])) ((((c1w3_4.setCell ⟨w.heap.size + 1 + 1,0,none⟩ (.slice sd xd.length xd.length)).setCell ⟨w.heap.size + 1 + 1,1,none⟩ (.bool bd)).setCell ⟨w.heap.size + 1 + 1,2,none⟩ (.slice sd' xd'.length xd'.length)).setCell ⟨w.heap.size + 1 + 1,3,none⟩ (.bool bd'))):=X_ hG Bq (by omega) qd
   clear qa ia ia' qb ib ib' n1 n3 n2 qd
   go_wp2_with fail
   exact bodyPost_ret (v:=.agg #[.slice sd xd.length xd.length,.bool bd,.slice sd' xd'.length xd'.length,.bool bd']) (by simp [results,Tryz.results35,go_sem,q90,q91,q92,q93]) rfl hF.out
 · skip
   obtain ⟨sa,xa,ba,sa',xa',ba',rfl,ha,ha'⟩:=Ha
   obtain ⟨sb,xb,bb,sb',xb',bb',rfl,hb,hb'⟩:=Hb
   obtain ⟨hG,Ba,Bb,Bq⟩:=en3_ w (.cells #[.slice sa xa.length xa.length,.bool ba,.slice sa' xa'.length xa'.length,.bool ba'] 28) (.cells #[.slice sb xb.length xb.length,.bool bb,.slice sb' xb'.length xb'.length,.bool bb'] 28) (.cells #[.slice none 0 0,.bool false,.slice none 0 0,.bool false] 28)
   have oa : RatV w (.agg #[.slice sa xa.length xa.length,.bool ba,.slice sa' xa'.length xa'.length,.bool ba']) (r):=⟨sa,xa,ba,sa',xa',ba',rfl,ha,ha'⟩
   have qa:=oa.kept hG
   have ia:=(show IntV w (.agg #[.slice sa xa.length xa.length,.bool ba]) (r).num from ha).kept hG
   have ia':=(show IntV w (.agg #[.slice sa' xa'.length xa'.length,.bool ba']) (dn (r)) from ha').kept hG
   have ob : RatV w (.agg #[.slice sb xb.length xb.length,.bool bb,.slice sb' xb'.length xb'.length,.bool bb']) (t):=⟨sb,xb,bb,sb',xb',bb',rfl,hb,hb'⟩
   have qb:=ob.kept hG
   have ib:=(show IntV w (.agg #[.slice sb xb.length xb.length,.bool bb]) (t).num from hb).kept hG
   have ib':=(show IntV w (.agg #[.slice sb' xb'.length xb'.length,.bool bb']) (dn (t)) from hb').kept hG
   clear ha ha'
   clear hb hb'
   go_enter Tryz.func35,Tryz.ntmps35
   obtain ⟨Ca0,Ca1,Ca2,Ca3,Fa0,Fa1,Fa2,Fa3⟩:=b_ Ba
   obtain ⟨Cb0,Cb1,Cb2,Cb3,Fb0,Fb1,Fb2,Fb3⟩:=b_ Bb
   obtain ⟨Cq0,Cq1,Cq2,Cq3,Fq0,Fq1,Fq2,Fq3⟩:=b_ Bq
   go_wp2_with fail
   generalize (((w.alloc (.cells #[.slice sa xa.length xa.length,.bool ba,.slice sa' xa'.length xa'.length,.bool ba'] 28)).alloc (.cells #[.slice sb xb.length xb.length,.bool bb,.slice sb' xb'.length xb'.length,.bool bb'] 28)).alloc (.cells #[.slice none 0 0,.bool false,.slice none 0 0,.bool false] 28)) = w0 at *
   clear Ca0 Fa0 Ca1 Fa1 Ca2 Fa2 Ca3 Fa3 Cb0 Fb0 Cb1 Fb1 Cb2 Fb2 Cb3 Fb3 Cq0 Fq0 Cq1 Fq1 Cq2 Fq2 Cq3 Fq3
   refine (B_ w0 _ r K qa (by omega) Hld.out).mono ?_
   rintro e c2w1 ⟨rfl,gc2w1⟩
   rw [HO1.out]
   replace Ba:=a_ gc2w1 Ba
   replace Bb:=a_ gc2w1 Bb
   replace Bq:=a_ gc2w1 Bq
   replace qa:=qa.kept gc2w1
   replace ia:=ia.kept gc2w1
   replace qb:=qb.kept gc2w1
   replace ib:=ib.kept gc2w1
   replace hG:=d_ hG gc2w1
   clear gc2w1
   obtain ⟨Ca0,Ca1,Ca2,Ca3,Fa0,Fa1,Fa2,Fa3⟩:=b_ Ba
   obtain ⟨Cb0,Cb1,Cb2,Cb3,Fb0,Fb1,Fb2,Fb3⟩:=b_ Bb
   obtain ⟨Cq0,Cq1,Cq2,Cq3,Fq0,Fq1,Fq2,Fq3⟩:=b_ Bq
   go_wp2_with fail
   have HT3 : Hid (∀ W,c2w1.grownBy W none → Tab W):=fun W hW=>HTB.out _ (d_ hG hW)
   go_region_held3 (fun w'=>w'.cell? ⟨w.heap.size,0,none⟩ = some (.slice sa xa.length xa.length) ∧ w'.cell? ⟨w.heap.size,1,none⟩ = some (.bool ba) ∧ w'.cell? ⟨w.heap.size,2,none⟩ = some (.slice sa' xa'.length xa'.length) ∧ w'.cell? ⟨w.heap.size,3,none⟩ = some (.bool ba') ∧ w'.cell? ⟨w.heap.size + 1,0,none⟩ = some (.slice sb xb.length xb.length) ∧ w'.cell? ⟨w.heap.size + 1,1,none⟩ = some (.bool bb) ∧ w'.cell? ⟨w.heap.size + 1,2,none⟩ = some (.slice sb' xb'.length xb'.length) ∧ w'.cell? ⟨w.heap.size + 1,3,none⟩ = some (.bool bb'))
    (first | assumption | exact ⟨Ca0,Ca1,Ca2,Ca3,Cb0,Cb1,Cb2,Cb3⟩ | exact HSc2w2_40 | go_keep)
    (first
      | (go_at_call 66; (with_reducible refine (u_ c2w1.drew _ r K (qa.kept (k_ (h_ _ _))) (by omega) Hld.out).mono ?_); rintro e c2w2_1 ⟨v1,rfl,n1,gc2w2_1⟩; have hGc2w2_1:=o_ c2w1 gc2w2_1 rfl rfl rfl rfl; have hSc2w2_1:=(n_ (hGc2w2_1.cell Ca0 (by simp)) (n_ (hGc2w2_1.cell Ca1 (by simp)) (n_ (hGc2w2_1.cell Ca2 (by simp)) (n_ (hGc2w2_1.cell Ca3 (by simp)) (n_ (hGc2w2_1.cell Cb0 (by simp)) (n_ (hGc2w2_1.cell Cb1 (by simp)) (n_ (hGc2w2_1.cell Cb2 (by simp)) (hGc2w2_1.cell Cb3 (by simp))))))))); clear gc2w2_1)
      | (go_at_call 67; (with_reducible refine (as_ c2w2_1 _ t.num K (ib.kept hGc2w2_1) (by omega) Hmn.out).mono ?_); rintro e c2w2_2 ⟨v3,rfl,n3,gc2w2_2⟩; rw [← Rat.neg_num] at n3; have hGc2w2_2:=d_ hGc2w2_1 gc2w2_2; replace n1:=n1.kept gc2w2_2; have hSc2w2_2:=(n_ (hGc2w2_2.cell Ca0 (by simp)) (n_ (hGc2w2_2.cell Ca1 (by simp)) (n_ (hGc2w2_2.cell Ca2 (by simp)) (n_ (hGc2w2_2.cell Ca3 (by simp)) (n_ (hGc2w2_2.cell Cb0 (by simp)) (n_ (hGc2w2_2.cell Cb1 (by simp)) (n_ (hGc2w2_2.cell Cb2 (by simp)) (hGc2w2_2.cell Cb3 (by simp))))))))); clear gc2w2_2)
      | (go_at_call 66; (with_reducible refine (u_ c2w2_2 _ t K (qb.kept hGc2w2_2) (by omega) Hmd.out).mono ?_); rintro e c2w2_3 ⟨v2,rfl,n2,gc2w2_3⟩; rw [← Rat.neg_den t] at n2; have hGc2w2_3:=d_ hGc2w2_2 gc2w2_3; replace n1:=n1.kept gc2w2_3; replace n3:=n3.kept gc2w2_3; have hSc2w2_3:=(n_ (hGc2w2_3.cell Ca0 (by simp)) (n_ (hGc2w2_3.cell Ca1 (by simp)) (n_ (hGc2w2_3.cell Ca2 (by simp)) (n_ (hGc2w2_3.cell Ca3 (by simp)) (n_ (hGc2w2_3.cell Cb0 (by simp)) (n_ (hGc2w2_3.cell Cb1 (by simp)) (n_ (hGc2w2_3.cell Cb2 (by simp)) (hGc2w2_3.cell Cb3 (by simp))))))))); clear gc2w2_3)
      | (go_at_call 79; (with_reducible refine (dL_ c2w2_3 _ _ _ _ r (-t) K (ia.kept hGc2w2_3) n1 n3 n2 (by omega) Hln.out Hld.out HNN.out.1 HNN.out.2 (HT3.out _ hGc2w2_3)).mono ?_); rintro e c2w2_4 ⟨_,rfl,⟨sd,xd,bd,sd',xd',bd',rfl,hd,hd'⟩,gc2w2_4⟩; have hGc2w2_4:=d_ hGc2w2_3 gc2w2_4; replace n1:=n1.kept gc2w2_4; replace n3:=n3.kept gc2w2_4; replace n2:=n2.kept gc2w2_4; have qd : RatV c2w2_4 (.agg #[.slice sd xd.length xd.length,.bool bd,.slice sd' xd'.length xd'.length,.bool bd']) (r + -t):=⟨sd,xd,bd,sd',xd',bd',rfl,hd,hd'⟩; have hSc2w2_4:=(n_ (hGc2w2_4.cell Ca0 (by simp)) (n_ (hGc2w2_4.cell Ca1 (by simp)) (n_ (hGc2w2_4.cell Ca2 (by simp)) (n_ (hGc2w2_4.cell Ca3 (by simp)) (n_ (hGc2w2_4.cell Cb0 (by simp)) (n_ (hGc2w2_4.cell Cb1 (by simp)) (n_ (hGc2w2_4.cell Cb2 (by simp)) (hGc2w2_4.cell Cb3 (by simp))))))))); clear gc2w2_4; clear hd hd'; (obtain ⟨dq0,dq1,dq2,dq3,dq4,dq5,dq6,dq7⟩:=b_ (a_ hGc2w2_4 Bq)); have HSc2w2_40:=(n_ ((b_ (i_ (a_ hGc2w2_4 Ba) (show w.heap.size ≠ w.heap.size + 1 + 1 by omega) (.slice sd xd.length xd.length) (.bool bd) (.slice sd' xd'.length xd'.length) (.bool bd'))).1) (n_ ((b_ (i_ (a_ hGc2w2_4 Ba) (show w.heap.size ≠ w.heap.size + 1 + 1 by omega) (.slice sd xd.length xd.length) (.bool bd) (.slice sd' xd'.length xd'.length) (.bool bd'))).2.1) (n_ ((b_ (i_ (a_ hGc2w2_4 Ba) (show w.heap.size ≠ w.heap.size + 1 + 1 by omega) (.slice sd xd.length xd.length) (.bool bd) (.slice sd' xd'.length xd'.length) (.bool bd'))).2.2.1) (n_ ((b_ (i_ (a_ hGc2w2_4 Ba) (show w.heap.size ≠ w.heap.size + 1 + 1 by omega) (.slice sd xd.length xd.length) (.bool bd) (.slice sd' xd'.length xd'.length) (.bool bd'))).2.2.2.1) (n_ ((b_ (i_ (a_ hGc2w2_4 Bb) (show w.heap.size + 1 ≠ w.heap.size + 1 + 1 by omega) (.slice sd xd.length xd.length) (.bool bd) (.slice sd' xd'.length xd'.length) (.bool bd'))).1) (n_ ((b_ (i_ (a_ hGc2w2_4 Bb) (show w.heap.size + 1 ≠ w.heap.size + 1 + 1 by omega) (.slice sd xd.length xd.length) (.bool bd) (.slice sd' xd'.length xd'.length) (.bool bd'))).2.1) (n_ ((b_ (i_ (a_ hGc2w2_4 Bb) (show w.heap.size + 1 ≠ w.heap.size + 1 + 1 by omega) (.slice sd xd.length xd.length) (.bool bd) (.slice sd' xd'.length xd'.length) (.bool bd'))).2.2.1) ((b_ (i_ (a_ hGc2w2_4 Bb) (show w.heap.size + 1 ≠ w.heap.size + 1 + 1 by omega) (.slice sd xd.length xd.length) (.bool bd) (.slice sd' xd'.length xd'.length) (.bool bd'))).2.2.2.1))))))))))
   replace Bq:=a_ hGc2w2_4 Bq
   replace hG:=d_ hG hGc2w2_4
   clear Ca0 Fa0 Ca1 Fa1 Ca2 Fa2 Ca3 Fa3 Cb0 Fb0 Cb1 Fb1 Cb2 Fb2 Cb3 Fb3 Cq0 Fq0 Cq1 Fq1 Cq2 Fq2 Cq3 Fq3
   rw [← Rat.sub_eq_add_neg] at qd
   obtain ⟨k90,k91,k92,k93,k94,k95,k96,k97⟩:=b_ Bq
   obtain ⟨q90,q91,q92,q93,q94,q95,q96,q97⟩:=b_ (r_ Bq (.slice sd xd.length xd.length) (.bool bd) (.slice sd' xd'.length xd'.length) (.bool bd'))
   have hF : Hid (aa_ w (r - t) (.returned (.agg #[.slice sd xd.length xd.length,.bool bd,.slice sd' xd'.length xd'.length,.bool bd'])) ((((c2w2_4.setCell ⟨w.heap.size + 1 + 1,0,none⟩ (.slice sd xd.length xd.length)).setCell ⟨w.heap.size + 1 + 1,1,none⟩ (.bool bd)).setCell ⟨w.heap.size + 1 + 1,2,none⟩ (.slice sd' xd'.length xd'.length)).setCell ⟨w.heap.size + 1 + 1,3,none⟩ (.bool bd'))):=X_ hG Bq (by omega) qd
   clear qa ia ia' qb ib ib' n1 n3 n2 qd
   go_wp2_with fail
   exact bodyPost_ret (v:=.agg #[.slice sd xd.length xd.length,.bool bd,.slice sd' xd'.length xd'.length,.bool bd']) (by simp [results,Tryz.results35,go_sem,q90,q91,q92,q93]) rfl hF.out
end Go.Proofs.YtgbbdgioohaknaaGreatDoor
