/- What the laws lean on, part 51. -/
import Derived.Deep.RegionHeld3
import Derived.BigRegion
import Derived.Test.YtgbbdgioohaknaaGreatDoorPb26
namespace Go.Proofs.YtgbbdgioohaknaaGreatDoor
open Go.RowKit Mat
set_option maxRecDepth 100000
set_option linter.unusedVariables false
set_option linter.unusedSimpArgs false
def hJ_ (s : ByteArray) (n : Nat) : ByteArray:=if n < s.size then s.extract 0 n else s
theorem cV_ (s : ByteArray) (n : Nat) : (hJ_ s n).size ≤ n:=by
 unfold hJ_
 split
 · rw [ByteArray.size_extract]; omega
 · omega
theorem iS_ (w : World) (s : ByteArray) :
    Calls Tryz.prog 76 #[.string s] w (fun e w'=>e = .returned (.string (hJ_ s 80)) ∧ w = w'):=by
 by_cases h : 80 < s.size
 · have f1 : decide ((80 : Int) < (s.size : Int)) = true:=decide_eq_true (by omega)
   have hF : Hid (hJ_ s 80 = s.extract 0 80):=by unfold hJ_; rw [if_pos h]; rfl
   go_enter Tryz.func76,Tryz.ntmps76
   go_wp2_with fail
   go_ret
   exact ⟨by rw [hF.out]; try rfl,rfl⟩
 · have f1 : decide ((80 : Int) < (s.size : Int)) = false:=decide_eq_false (by omega)
   have hF : Hid (hJ_ s 80 = s):=by unfold hJ_; rw [if_neg h]; rfl
   go_enter Tryz.func76,Tryz.ntmps76
   go_wp2_with fail
   go_ret
   exact ⟨by rw [hF.out]; try rfl,rfl⟩
def kZ_ (p : ByteArray) : Bool:=dc_ p == 0
def gE_ (w : World) (r : Rat) (E : Nat) (o : Bool) (e : Ending) (w' : World) : Prop :=
 ∃ va vx,e = .returned (.tuple #[va,vx,.bool o]) ∧ RatV w' va r ∧ RQ w' vx r E ∧ w.grownBy w' none
theorem IntV.set4p {w : World} {v : Value} {n : Int} {g : Nat} {a0 a1 a2 a3 : Value} {t : TypeId} (ht : t ≠ 96) (h : IntV w v n) (hbox : w.heap[g]? = some (.cells #[a0,a1,a2,a3] t (0,0))) (v0 v1 v2 v3 : Value) : IntV ((((w.setCell ⟨g,0,none⟩ v0).setCell ⟨g,1,none⟩ v1).setCell ⟨g,2,none⟩ v2).setCell ⟨g,3,none⟩ v3) v n:=by
 have k1 : (w.setCell ⟨g,0,none⟩ v0).heap[g]? = some (.cells #[v0,a1,a2,a3] t (0,0)):=by simp [World.setCell,Array.getElem?_modify,hbox]
 have k2 : ((w.setCell ⟨g,0,none⟩ v0).setCell ⟨g,1,none⟩ v1).heap[g]? = some (.cells #[v0,v1,a2,a3] t (0,0)):=by simp [World.setCell,Array.getElem?_modify,hbox]
 have k3 : (((w.setCell ⟨g,0,none⟩ v0).setCell ⟨g,1,none⟩ v1).setCell ⟨g,2,none⟩ v2).heap[g]? = some (.cells #[v0,v1,v2,a3] t (0,0)):=by simp [World.setCell,Array.getElem?_modify,hbox]
 exact (((h.set_other hbox ht 0 v0).set_other k1 ht 1 v1).set_other k2 ht 2 v2).set_other k3 ht 3 v3
theorem RIntV.set4p {w : World} {v : Value} {n : Int} {g : Nat} {a0 a1 a2 a3 : Value} {t : TypeId} (ht : t ≠ 3) (h : RIntV w v n) (hbox : w.heap[g]? = some (.cells #[a0,a1,a2,a3] t (0,0))) (v0 v1 v2 v3 : Value) : RIntV ((((w.setCell ⟨g,0,none⟩ v0).setCell ⟨g,1,none⟩ v1).setCell ⟨g,2,none⟩ v2).setCell ⟨g,3,none⟩ v3) v n:=by
 have k1 : (w.setCell ⟨g,0,none⟩ v0).heap[g]? = some (.cells #[v0,a1,a2,a3] t (0,0)):=by simp [World.setCell,Array.getElem?_modify,hbox]
 have k2 : ((w.setCell ⟨g,0,none⟩ v0).setCell ⟨g,1,none⟩ v1).heap[g]? = some (.cells #[v0,v1,a2,a3] t (0,0)):=by simp [World.setCell,Array.getElem?_modify,hbox]
 have k3 : (((w.setCell ⟨g,0,none⟩ v0).setCell ⟨g,1,none⟩ v1).setCell ⟨g,2,none⟩ v2).heap[g]? = some (.cells #[v0,v1,v2,a3] t (0,0)):=by simp [World.setCell,Array.getElem?_modify,hbox]
 exact (((h.set_other hbox ht 0 v0).set_other k1 ht 1 v1).set_other k2 ht 2 v2).set_other k3 ht 3 v3
theorem RatV.set4p {w : World} {v : Value} {r : Rat} {g : Nat} {a0 a1 a2 a3 : Value} (h : RatV w v r) (hbox : w.heap[g]? = some (.cells #[a0,a1,a2,a3] 38 (0,0))) (v0 v1 v2 v3 : Value) : RatV ((((w.setCell ⟨g,0,none⟩ v0).setCell ⟨g,1,none⟩ v1).setCell ⟨g,2,none⟩ v2).setCell ⟨g,3,none⟩ v3) v r:=by
 obtain ⟨s,xs,b,s',xs',b',e,h1,h2⟩:=h
 exact ⟨s,xs,b,s',xs',b',e,IntV.set4p (by decide) h1 hbox _ _ _ _,IntV.set4p (by decide) h2 hbox _ _ _ _⟩
theorem RQ.set4q {w : World} {v : Value} {r : Rat} {E g : Nat} {a0 a1 a2 a3 : Value} (h : RQ w v r E) (hbox : w.heap[g]? = some (.cells #[a0,a1,a2,a3] 28 (0,0))) (v0 v1 v2 v3 : Value) : RQ ((((w.setCell ⟨g,0,none⟩ v0).setCell ⟨g,1,none⟩ v1).setCell ⟨g,2,none⟩ v2).setCell ⟨g,3,none⟩ v3) v r E:=by
 obtain ⟨x,s,l,c,x',s',l',c',n,d,e,h1,h2,h3⟩:=h
 exact ⟨x,s,l,c,x',s',l',c',n,d,e,RIntV.set4p (by decide) h1 hbox _ _ _ _,RIntV.set4p (by decide) h2 hbox _ _ _ _,h3⟩
theorem gZ_ {W : World} {g : Nat} {u0 u1 u2 u3 v0 v1 v2 v3 a0 a1 a2 a3 b0 b1 b2 b3 : Value} (h1 : W.heap[g]? = some (.cells #[u0,u1,u2,u3] 28 (0,0))) (h2 : W.heap[g + 1]? = some (.cells #[v0,v1,v2,v3] 38 (0,0))) {S : World}
    (hS : S = ((((((((W.setCell ⟨g,0,none⟩ a0).setCell ⟨g,1,none⟩ a1).setCell ⟨g,2,none⟩ a2).setCell ⟨g,3,none⟩ a3).setCell ⟨g + 1,0,none⟩ b0).setCell ⟨g + 1,1,none⟩ b1).setCell ⟨g + 1,2,none⟩ b2).setCell ⟨g + 1,3,none⟩ b3).drew) :
    S.heap[g]? = some (.cells #[a0,a1,a2,a3] 28 (0,0)) ∧ S.heap[g + 1]? = some (.cells #[b0,b1,b2,b3] 38 (0,0)) ∧
    (∀ v n,RatV W v n → RatV S v n) ∧ (∀ v n E,RQ W v n E → RQ S v n E) ∧ (∀ w : World,w.grownBy W none → w.heap.size ≤ g → w.grownBy S none):=by
 subst hS
 have gd : ∀ X : World,X.grownBy X.drew none:=fun X=>k_ (h_ _ _)
 have k2:=i_ h2 (show g + 1 ≠ g by omega) a0 a1 a2 a3
 have k1:=i_ (r_ h1 a0 a1 a2 a3) (show g ≠ g + 1 by omega) b0 b1 b2 b3
 refine ⟨a_ (gd _) k1,a_ (gd _) (r_ k2 b0 b1 b2 b3),fun v n h=>?_,fun v n E h=>?_,fun w hg hw=>?_⟩
 · exact (RatV.set4p (h.set4 h1 a0 a1 a2 a3) k2 b0 b1 b2 b3).kept (gd _)
 · exact ((RQ.set4q h h1 a0 a1 a2 a3).set4 k2 b0 b1 b2 b3).kept (gd _)
 · exact k_ (aw_ (aw_ hg hw a0 a1 a2 a3) (by omega) b0 b1 b2 b3)
set_option maxHeartbeats 16000000 in
theorem lc_ (w : World) (s : ByteArray) (hTab : Tab w) :
    Calls Tryz.prog 29 #[.string s] w (gE_ w (cG_ (hJ_ s 80)) 20 (kZ_ (hJ_ s 80))):=by
 have HTB : Hid (∀ W,w.grownBy W none → Tab W):=fun W hW=>hTab.kept hW (by simp)
 clear hTab
 obtain ⟨p,hp⟩ : ∃ p,hJ_ s 80 = p:=⟨_,rfl⟩
 have F1 : Hid (∀ W,Calls Tryz.prog 76 #[.string s] W (fun e w'=>e = .returned (.string p) ∧ W = w')):=fun W=>by rw [← hp]; exact iS_ W s
 have hps : p.size ≤ 80:=by rw [← hp]; exact cV_ s 80
 rw [hp]
 clear hp
 obtain ⟨c,hc⟩ : ∃ c,dc_ p = c:=⟨_,rfl⟩
 obtain ⟨z,hz⟩ : ∃ z,cG_ p = z:=⟨_,rfl⟩
 have P1 : Hid (∀ W,Tab W → Calls Tryz.prog 11 #[.string p] W (V_ W z c)):=fun W hT=>by rw [← hc,← hz]; exact aV_ W p (by omega) hT
 have P2 : Hid (∀ W,Calls Tryz.prog 12 #[.string p] W (cf_ W z 20 c)):=fun W=>by rw [← hc,← hz]; exact cC_ W p 20 (by omega) (by omega) (by omega)
 unfold gE_
 rw [hz]
 obtain ⟨o,ho⟩ : ∃ o,kZ_ p = o:=⟨_,rfl⟩
 rw [ho]
 have K1 : Hid ((c == 0) = o):=by show _ = _; rw [← hc,← ho]; rfl
 clear hc hz ho hps
 obtain ⟨hG,Bq,Br⟩:=en2_ w (.cells #[.slice none 0 0,.bool false,.slice none 0 0,.bool false] 28) (.cells #[.int .i64 0,.slice none 0 0,.int .i64 0,.slice none 0 0] 38)
 go_enter Tryz.func29,Tryz.ntmps29
 obtain ⟨Cq0,Cq1,Cq2,Cq3,Fq0,Fq1,Fq2,Fq3⟩:=b_ Bq
 obtain ⟨Cr0,Cr1,Cr2,Cr3,Fr0,Fr1,Fr2,Fr3⟩:=b_ Br
 go_wp2_with fail
 generalize ((w.alloc (.cells #[.slice none 0 0,.bool false,.slice none 0 0,.bool false] 28)).alloc (.cells #[.int .i64 0,.slice none 0 0,.int .i64 0,.slice none 0 0] 38)) = w0 at *
 refine (F1.out w0).mono ?_
 rintro e w1 ⟨rfl,rfl⟩
 go_wp2_with fail
 clear Cq0 Fq0 Cq1 Fq1 Cq2 Fq2 Cq3 Fq3 Cr0 Fr0 Cr1 Fr1 Cr2 Fr2 Cr3 Fr3
 refine (P1.out w0 (HTB.out _ hG)).mono ?_
 rintro e w2 ⟨_,rfl,⟨sa,xa,ba,sa',xa',ba',rfl,ha,ha'⟩,gw2⟩
 have qa : RatV w2 (.agg #[.slice sa xa.length xa.length,.bool ba,.slice sa' xa'.length xa'.length,.bool ba']) (z):=⟨sa,xa,ba,sa',xa',ba',rfl,ha,ha'⟩
 replace Bq:=a_ gw2 Bq
 replace Br:=a_ gw2 Br
 replace hG:=d_ hG gw2
 clear gw2
 clear ha ha'
 obtain ⟨Cq0,Cq1,Cq2,Cq3,Fq0,Fq1,Fq2,Fq3⟩:=b_ Bq
 obtain ⟨Cr0,Cr1,Cr2,Cr3,Fr0,Fr1,Fr2,Fr3⟩:=b_ Br
 have gbw2:=(wg_ w2 (.cells #[.slice sa xa.length xa.length,.bool ba,.slice sa' xa'.length xa'.length,.bool ba'] 28) none)
 have Ba:=(f_ w2 (.cells #[.slice sa xa.length xa.length,.bool ba,.slice sa' xa'.length xa'.length,.bool ba'] 28) (w2.heap.size) rfl)
 have hzw2 : Hid (w.heap.size ≤ w2.heap.size):=H_ hG.size
 have hlqw2 : Hid (w.heap.size < w2.heap.size):=H_ (Array.getElem?_eq_some_iff.1 Bq).1
 have hlrw2 : Hid (w.heap.size + 1 < w2.heap.size):=H_ (Array.getElem?_eq_some_iff.1 Br).1
 clear Cq0 Fq0 Cq1 Fq1 Cq2 Fq2 Cq3 Fq3 Cr0 Fr0 Cr1 Fr1 Cr2 Fr2 Cr3 Fr3
 replace Bq:=a_ gbw2 Bq
 replace Br:=a_ gbw2 Br
 replace qa:=qa.kept gbw2
 replace hG:=d_ hG gbw2
 clear gbw2
 obtain ⟨Cq0,Cq1,Cq2,Cq3,Fq0,Fq1,Fq2,Fq3⟩:=b_ Bq
 obtain ⟨Cr0,Cr1,Cr2,Cr3,Fr0,Fr1,Fr2,Fr3⟩:=b_ Br
 obtain ⟨Ca0,Ca1,Ca2,Ca3,Fa0,Fa1,Fa2,Fa3⟩:=b_ Ba
 go_wp2_with fail
 generalize (w2.alloc (.cells #[.slice sa xa.length xa.length,.bool ba,.slice sa' xa'.length xa'.length,.bool ba'] 28)) = w3 at *
 generalize w2.heap.size = aw2 at *
 replace hzw2:=hzw2.out
 replace hlqw2:=hlqw2.out
 replace hlrw2:=hlrw2.out
 refine (F1.out w3).mono ?_
 rintro e w4 ⟨rfl,rfl⟩
 go_wp2_with fail
 clear Cq0 Fq0 Cq1 Fq1 Cq2 Fq2 Cq3 Fq3 Cr0 Fr0 Cr1 Fr1 Cr2 Fr2 Cr3 Fr3 Ca0 Fa0 Ca1 Fa1 Ca2 Fa2 Ca3 Fa3
 refine (P2.out w3).mono ?_
 rintro e w5 ⟨_,rfl,⟨gx,sx,lx,cx,gx',sx',lx',cx',nx,dx,rfl,hx,hx',ux⟩,gw5⟩
 have yx : RQ w5 (.agg #[.int .i64 gx,.slice sx lx cx,.int .i64 gx',.slice sx' lx' cx']) z 20:=⟨gx,sx,lx,cx,gx',sx',lx',cx',nx,dx,rfl,hx,hx',ux⟩
 replace Bq:=a_ gw5 Bq
 replace Br:=a_ gw5 Br
 replace Ba:=a_ gw5 Ba
 replace qa:=qa.kept gw5
 replace hG:=d_ hG gw5
 clear gw5
 clear hx hx'
 obtain ⟨Cq0,Cq1,Cq2,Cq3,Fq0,Fq1,Fq2,Fq3⟩:=b_ Bq
 obtain ⟨Cr0,Cr1,Cr2,Cr3,Fr0,Fr1,Fr2,Fr3⟩:=b_ Br
 obtain ⟨Ca0,Ca1,Ca2,Ca3,Fa0,Fa1,Fa2,Fa3⟩:=b_ Ba
 have gbw5:=(wg_ w5 (.cells #[.int .i64 gx,.slice sx lx cx,.int .i64 gx',.slice sx' lx' cx'] 38) none)
 have Bx:=(f_ w5 (.cells #[.int .i64 gx,.slice sx lx cx,.int .i64 gx',.slice sx' lx' cx'] 38) (w5.heap.size) rfl)
 have hzw5 : Hid (w.heap.size ≤ w5.heap.size):=H_ hG.size
 have hlqw5 : Hid (w.heap.size < w5.heap.size):=H_ (Array.getElem?_eq_some_iff.1 Bq).1
 have hlrw5 : Hid (w.heap.size + 1 < w5.heap.size):=H_ (Array.getElem?_eq_some_iff.1 Br).1
 have hlaw5 : Hid (aw2 < w5.heap.size):=H_ (Array.getElem?_eq_some_iff.1 Ba).1
 clear Cq0 Fq0 Cq1 Fq1 Cq2 Fq2 Cq3 Fq3 Cr0 Fr0 Cr1 Fr1 Cr2 Fr2 Cr3 Fr3 Ca0 Fa0 Ca1 Fa1 Ca2 Fa2 Ca3 Fa3
 replace Bq:=a_ gbw5 Bq
 replace Br:=a_ gbw5 Br
 replace Ba:=a_ gbw5 Ba
 replace qa:=qa.kept gbw5
 replace yx:=yx.kept gbw5
 replace hG:=d_ hG gbw5
 clear gbw5
 obtain ⟨Cq0,Cq1,Cq2,Cq3,Fq0,Fq1,Fq2,Fq3⟩:=b_ Bq
 obtain ⟨Cr0,Cr1,Cr2,Cr3,Fr0,Fr1,Fr2,Fr3⟩:=b_ Br
 obtain ⟨Ca0,Ca1,Ca2,Ca3,Fa0,Fa1,Fa2,Fa3⟩:=b_ Ba
 obtain ⟨Cx0,Cx1,Cx2,Cx3,Fx0,Fx1,Fx2,Fx3⟩:=b_ Bx
 go_wp2_with fail
 generalize (w5.alloc (.cells #[.int .i64 gx,.slice sx lx cx,.int .i64 gx',.slice sx' lx' cx'] 38)) = w6 at *
 generalize w5.heap.size = aw5 at *
 replace hzw5:=hzw5.out
 replace hlqw5:=hlqw5.out
 replace hlrw5:=hlrw5.out
 replace hlaw5:=hlaw5.out
 have hk:=K1.out
 clear K1 P1 P2 F1
 cases o
 · skip
   have hk2 : (c == c) = true:=by simp
   obtain ⟨W5,hW5⟩ : ∃ W5,W5 = ((((((((w6.setCell ⟨w.heap.size,0,none⟩ (.slice sa xa.length xa.length)).setCell ⟨w.heap.size,1,none⟩ (.bool ba)).setCell ⟨w.heap.size,2,none⟩ (.slice sa' xa'.length xa'.length)).setCell ⟨w.heap.size,3,none⟩ (.bool ba')).setCell ⟨w.heap.size + 1,0,none⟩ (.int .i64 gx)).setCell ⟨w.heap.size + 1,1,none⟩ (.slice sx lx cx)).setCell ⟨w.heap.size + 1,2,none⟩ (.int .i64 gx')).setCell ⟨w.heap.size + 1,3,none⟩ (.slice sx' lx' cx')).drew:=⟨_,rfl⟩
   obtain ⟨q1,q2,qn,qr,qg⟩:=gZ_ Bq Br hW5
   have HF : Hid (∃ va vx,Ending.returned (.tuple #[.agg #[.slice sa xa.length xa.length,.bool ba,.slice sa' xa'.length xa'.length,.bool ba'],.agg #[.int .i64 gx,.slice sx lx cx,.int .i64 gx',.slice sx' lx' cx'],.bool false]) = Ending.returned (.tuple #[va,vx,.bool false]) ∧ RatV W5 va z ∧ RQ W5 vx z 20 ∧ w.grownBy W5 none):=⟨_,_,rfl,qn _ _ qa,qr _ _ _ yx,qg w hG (Nat.le_refl _)⟩
   clear qn qr qg qa yx
   go_region
   rw [← hW5]
   clear hW5
   obtain ⟨k0,k1,k2,k3,_⟩:=b_ q1
   obtain ⟨k4,k5,k6,k7,_⟩:=b_ q2
   go_wp2_with fail
   exact bodyPost_ret (v:=.tuple #[.agg #[.slice sa xa.length xa.length,.bool ba,.slice sa' xa'.length xa'.length,.bool ba'],.agg #[.int .i64 gx,.slice sx lx cx,.int .i64 gx',.slice sx' lx' cx'],.bool false]) (by simp [results,Tryz.results29,go_sem,k0,k1,k2,k3,k4,k5,k6,k7]) rfl HF.out
 · skip
   obtain rfl : c = 0:=by simpa using hk
   clear hk
   obtain ⟨W5,hW5⟩ : ∃ W5,W5 = ((((((((w6.setCell ⟨w.heap.size,0,none⟩ (.slice sa xa.length xa.length)).setCell ⟨w.heap.size,1,none⟩ (.bool ba)).setCell ⟨w.heap.size,2,none⟩ (.slice sa' xa'.length xa'.length)).setCell ⟨w.heap.size,3,none⟩ (.bool ba')).setCell ⟨w.heap.size + 1,0,none⟩ (.int .i64 gx)).setCell ⟨w.heap.size + 1,1,none⟩ (.slice sx lx cx)).setCell ⟨w.heap.size + 1,2,none⟩ (.int .i64 gx')).setCell ⟨w.heap.size + 1,3,none⟩ (.slice sx' lx' cx')).drew:=⟨_,rfl⟩
   obtain ⟨q1,q2,qn,qr,qg⟩:=gZ_ Bq Br hW5
   have HF : Hid (∃ va vx,Ending.returned (.tuple #[.agg #[.slice sa xa.length xa.length,.bool ba,.slice sa' xa'.length xa'.length,.bool ba'],.agg #[.int .i64 gx,.slice sx lx cx,.int .i64 gx',.slice sx' lx' cx'],.bool true]) = Ending.returned (.tuple #[va,vx,.bool true]) ∧ RatV W5 va z ∧ RQ W5 vx z 20 ∧ w.grownBy W5 none):=⟨_,_,rfl,qn _ _ qa,qr _ _ _ yx,qg w hG (Nat.le_refl _)⟩
   clear qn qr qg qa yx
   go_region
   rw [← hW5]
   clear hW5
   obtain ⟨k0,k1,k2,k3,_⟩:=b_ q1
   obtain ⟨k4,k5,k6,k7,_⟩:=b_ q2
   go_wp2_with fail
   exact bodyPost_ret (v:=.tuple #[.agg #[.slice sa xa.length xa.length,.bool ba,.slice sa' xa'.length xa'.length,.bool ba'],.agg #[.int .i64 gx,.slice sx lx cx,.int .i64 gx',.slice sx' lx' cx'],.bool true]) (by simp [results,Tryz.results29,go_sem,k0,k1,k2,k3,k4,k5,k6,k7]) rfl HF.out
theorem bP_ (s : ByteArray) : ∃ (A : Rat) (o : Bool),(A.num.natAbs < B ^ 5 ∧ A.den < B ^ 5) ∧ ∀ W,Tab W → Calls Tryz.prog 29 #[.string s] W (gE_ W A 20 o) :=
 ⟨cG_ (hJ_ s 80),kZ_ (hJ_ s 80),⟨iQ_ _ (cV_ s 80) (by omega),iR_ _ (cV_ s 80) (by omega) (by omega)⟩,fun W hT=>lc_ W s hT⟩
end Go.Proofs.YtgbbdgioohaknaaGreatDoor
