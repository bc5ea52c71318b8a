/- What the laws lean on, part 12. -/
import Derived.Below
import Derived.BigCall
import Derived.BigQuiet
import Derived.BigRegion
import Derived.Deep.AppendLies
import Derived.Deep.CutBlock
import Derived.Deep.CutRange
import Derived.Deep.DeepCutAuto
import Derived.Deep.DeepHandedRow
import Derived.Deep.LoopGhost
import Derived.Deep.MidRow
import Derived.Deep.QuietTactic
import Derived.Deep.RegionHeld3
import Derived.Deep.RegionLaw
import Derived.Deep.WholeRow
import Derived.Laws.AppendOwn
import Derived.Laws.Concat
import Derived.Laws.CopyOwn
import Derived.Laws.Externs
import Derived.Laws.IdiomStrings
import Derived.Lib.BitFns
import Derived.Lib.Bytealg
import Derived.Lib.Hide
import Derived.Lib.Slices
import Derived.Lib.Small
import Derived.Lib.Strings
import Derived.Lib.Walk
import Derived.LoopIn
import Derived.LoopN
import Derived.LoopNIn
import Derived.Maps.AppendAt
import Derived.OpenShut
import Derived.OrdersHeld
import Derived.OrdersIn
import Derived.Outline
import Derived.OwnWalk
import Derived.OwnWalkIn
import Derived.ProofKit
import Derived.RangeFuncBound
import Derived.RangeFuncCalls
import Derived.RangeFuncLeaves
import Derived.RangeFuncNested
import Derived.RangeFuncOwn
import Derived.Shelf.Abstract
import Derived.Shelf.Bits.Mul64
import Derived.Shelf.RegionOpen
import Derived.Shelf.Spec.TrailingZeros
import Derived.StillTailTactics
import Derived.TacticsInMore
import Derived.WalkKit
import Derived.WalkLawsBesides
import Derived.WalkSpells
import Derived.Test.YtamdnbbgpacfkaaDoorProg
import Derived.Test.YtamdnbbgpacfkaaDoorRows
import Derived.Test.YtamdnbbgpacfkaaDoorMe10
set_option linter.unusedVariables false
set_option linter.unusedSimpArgs false
set_option maxRecDepth 100000
namespace Go.Proofs.YtamdnbbgpacfkaaDoor
open Go.RowKit Mat
def nM (w:World) (n:Nat) (e:Ending) (w':World):Prop:=∃ v,e = .returned v/\RefV w' v n/\w.grownBy w' none
theorem Tryd.infoI64:(Tryd.prog.info? 3).map (fun i=>(i.zero,i.size,i.bytes))=some (some (.int .i64 0),1,8):=by kernel_rfl
theorem iQ:∃ i,Tryd.prog.info? 3=some i/\i.zero=some (.int .i64 0)/\i.size=1/\i.bytes=8:=by
 obtain ⟨i,hi,he⟩:=Option.map_eq_some_iff.1 Tryd.infoI64
 exact ⟨i,hi,congrArg Prod.fst he,congrArg (fun x=>x.2.1) he,congrArg (fun x=>x.2.2) he⟩
theorem lK {d:Nat} : ∀ u ∈ ([iv d]:List Value),u.oneCell'=true:=by intro u hu;simp at hu;subst hu;rfl
theorem own_rdoI {w:World} {base:Nat} {s:Option Addr} {n cap:Nat} {xs:List Nat} (h:w.ownsRow base 3 1 (.slice s n cap) n (xs.map iv)):RRdo w s xs/\n<=cap/\xs.length=n:=by
 obtain ⟨h1,⟨e,h2⟩ | ⟨g,cap',cur,e,hg,hb,hc,hm,hs,ht⟩⟩:=h
 · cases e
   rw [List.length_map] at h1
   exact ⟨Or.inl (List.length_eq_zero_iff.1 (by omega)),by omega,by omega⟩
 · cases e
   rw [List.length_map,Nat.mul_one] at h1
   refine ⟨Or.inr ⟨g,0,cur,rfl,hb,fun i hi=>?_⟩,hc,h1⟩
   have h3:(cur.toList.take (n*1))[i]?=(xs.map iv)[i]?:=by rw [ht]
   rw [Nat.mul_one,List.getElem?_take,if_pos (by omega),Array.getElem?_toList,List.getElem?_map,List.getElem?_eq_getElem hi] at h3
   rw [Nat.zero_add];exact h3
theorem lI {w:World} {base:Nat} {v:Value} {n:Nat} {xs:List Value} {t:TypeId} (h:w.ownsRow base t 1 v n xs) (o:Obj):(w.alloc o).ownsRow base t 1 v n xs:=by
 obtain ⟨h1,h2 | ⟨g,cap',cur,e,hg,hb,hr⟩⟩:=h
 · exact ⟨h1,Or.inl h2⟩
 · exact ⟨h1,Or.inr ⟨g,cap',cur,e,hg,(Below.heap_alloc w o g (Array.getElem?_eq_some_iff.1 hb).1).trans hb,hr⟩⟩
theorem Y9 {w w':World} {base n:Nat} {v:Value} {xs:List Value} {t:TypeId} (h:w.ownsRow base t 1 v n xs) (hg:w.grownBy w' v.ownBlock) (hs:base<=w.heap.size):Below base w w':=by
 obtain ⟨h1,⟨e,_⟩ | ⟨g,cap',cur,e,hg',hb,hr⟩⟩:=h
 · subst e;exact M1 hg hs
 · subst e;exact Q6 (g:=g) hg hg' hs
theorem of_bound {v x n k:Nat} (h:v+x*D^k=n) (hx : 0<x) (hn:n<B):k<64:=by
 have h1:D^k<=x*D^k:=Nat.le_mul_of_pos_left _ hx
 have h2 : 2^k<=D^k:=Nat.pow_le_pow_left (by unfold D;omega) k
 rcases Nat.lt_or_ge k 64 with h3 | h3
 · exact h3
 · have : 2^64<=2^k:=Nat.pow_le_pow_right (by omega) h3
   have:B=2^64:=by decide
   omega
theorem of_step {v x p d q:Nat} (hd:x%10000=d) (hq:x / 10000=q):v+p*d+q*(p*D)=v+x*p:=by
 have:=Nat.div_add_mod x 10000
 rw [hd,hq] at this
 rw [<- this]
 unfold D
 grind
theorem kJ {ds:List Nat} {d:Nat} (h:d≠0):Top (ds++[d]):=by
 intro x hx
 rw [List.getLast?_append] at hx
 simp at hx
 omega
set_option maxHeartbeats 4000000 in
theorem rD (w:World) (n:Nat) (hn:n<B) :
 Calls Tryd.prog 95 #[.int .u64 (n:Int)] w (nM w n):=by
 obtain ⟨i1,hi,hz0,hz1,hz2⟩:=iQ
 have HN:=Lib.hid hn
 have hgw0:=World.grownBy_alloc w (.cells #[.slice none 0 0] 77) none
 have hbox0:=A9 w (.cells #[.slice none 0 0] 77) w.heap.size rfl
 have hs0:w.heap.size+1<=(w.alloc (.cells #[.slice none 0 0] 77)).heap.size:=by simp
 go_enter Tryd.func95,Tryd.ntmps95
 go_wp2_with fail
 generalize (w.alloc (.cells #[.slice none 0 0] 77))=w0 at *
 go_loopg [0,3] n (fun gh a b wr=>∃ (x:Nat) (sl:Option Addr) (nl cl:Nat) (ds:List Nat),a = .int .u64 x/\b = .slice sl nl cl/\x<=gh/\Hid (x<B)/\wr.ownsRow (w.heap.size+1) 3 1 (.slice sl nl cl) nl (ds.map iv)/\Hid (ds.length=nl)/\Dig D ds/\Hid (x=0->Top ds)/\Hid (val D ds+x*D^nl=n)/\Below (w.heap.size+1) w0 wr)
 case atStart=>exact ⟨n,none,0,0,[],rfl,rfl,Nat.le_refl _,HN,⟨rfl,Or.inl ⟨rfl,rfl⟩⟩,rfl,Dig.nil _,fun _ x hx=>by simp at hx,by show _=_;simp [val],Below.refl _ _⟩
 case round=>
  obtain ⟨x,sl,nl,cl,ds,rfl,rfl,hgh,hxB,hown,hdl,hdd,htp,hv,hbl⟩:=hrel
  by_cases h0:x=0
  · subst h0
    obtain ⟨hrd,hcap,_⟩:=own_rdoI hown
    have hbox:=Q4 hbl hbox0 (by omega)
    obtain ⟨cb,fb⟩:=B8 hbox
    have hF:Hid (nM w n (.returned (.agg #[.slice sl nl cl])) (wr.setCell ⟨w.heap.size,0,none⟩ (.slice sl nl cl))):=
     ⟨_,rfl,⟨sl,nl,cl,ds,rfl,hdl.out,hcap,hrd.set_other hbox (by decide) 0 _,htp.out rfl,hdd,by have:=hv.out;omega⟩,D2 (J9 hgw0 hbl (by omega)) (C2 (B5 _ _) _ _) (Nat.le_refl _)⟩
    clear hown hbl hbox hv htp
    go_wp2_with fail
    exact bodyPost_ret (v := .agg #[.slice sl nl cl]) (by simp [results,Tryd.results95,go_sem,cb]) rfl hF.out
  · have f1:decide ((0:Int)<(x:Int))=true:=decide_eq_true (by omega)
    have hk:=of_bound hv.out (by omega) HN.out
    obtain ⟨d,hd⟩:∃ d,x%10000=d:=⟨_,rfl⟩
    obtain ⟨q,hq⟩:∃ q,x / 10000=q:=⟨_,rfl⟩
    have hd1:d<10000:=by omega
    have hqx:q<x:=by omega
    have e1:(x:Int)%10000=(d:Int):=by omega
    have e2:(x:Int) / 10000=(q:Int):=by omega
    have hqB:Hid (q<B):=Nat.lt_trans hqx hxB.out
    have htp2:Hid (q=0->Top (ds++[d])):=fun e=>kJ (by omega)
    have hvn:Hid (val D (ds++[d])+q*D^(nl+1)=n):=by
     show _=_
     rw [F9,hdl.out,Nat.pow_succ,of_step hd hq];exact hv.out
    have hownA:=lI hown (.cells #[iv d] 3)
    have hnews:∀ j u,([iv d]:List Value)[j]?=some u->(wr.alloc (.cells #[iv d] 3)).cell? ((⟨wr.heap.size,0,none⟩:Addr).add j)=some u:=World.news_of_block (heap_alloc_new wr _)
    have hsr:w.heap.size+1<=wr.heap.size:=by have:=hbl.size;omega
    have hsi:w.heap.size+1<=(wr.alloc (.cells #[iv d] 3)).heap.size:=by simp;omega
    have hblA:Below (w.heap.size+1) w0 (wr.alloc (.cells #[iv d] 3)):=hbl.trans (M1 (World.grownBy_alloc _ _ _) hsr)
    clear hd hq hown hbl htp hv
    go_wp2_with (at_builtin;refine wpList_append_lies _ rfl _ _ _ rfl (w.heap.size+1) 3 i1 (.int .i64 0) 1 8 Tryd.underlying75 hi hz0 hz1 hz2 rfl (by omega) (.slice sl nl cl) nl (ds.map iv) rfl hownA ⟨wr.heap.size,0,none⟩ 1 1 [iv d] rfl rfl hnews lK (by omega) (by unfold maxLen;omega) (by omega) hsi (wr.heap.size+1) (by simp) ?_;intro g2 cap2 w5 hown5 hgrow hat9 hlt9)
    have hbl5:=hblA.trans (Y9 hownA hgrow hsi)
    have hmap:ds.map iv++[iv d]=(ds++[d]).map iv:=by rw [List.map_append];rfl
    rw [hmap] at hown5
    have hl5:Hid ((ds++[d]).length=nl+1):=by show _=_;rw [List.length_append,hdl.out];rfl
    clear hgrow hownA hnews hblA hmap
    go_roundg q
    case measure=>omega
    case rel=>exact ⟨q,_,nl+1,cap2,ds++[d],(by first | rfl | rw [Mul64.wrapN q hqB.out]),rfl,Nat.le_refl _,hqB,hown5,hl5,hdd.snoc hd1,htp2,hvn,hbl5⟩
theorem rlen {xs:List Nat} {n K:Nat} (ht:Top xs) (hn:xs.length=n) (h:val D xs<D^K):n<=K:=by
 rcases Nat.lt_or_ge K n with h1 | h1
 · have h2:=fX D xs (by rintro rfl;simp at hn;omega) ht
   have h3:D^K<=D^(xs.length-1):=Nat.pow_le_pow_right D_pos (by omega)
   omega
 · exact h1
theorem radd_step {v c x y p d q s:Nat} (h:v+c*p=s) (hd:(c+x+y)%10000=d) (hq:(c+x+y) / 10000=q):v+p*d+q*(p*D)=s+p*x+p*y:=by
 have:=Nat.div_add_mod (c+x+y) 10000
 rw [hd,hq] at this
 rw [<- h]
 have h2:p*d+q*(p*D)=p*(c+x+y):=by rw [<- this];unfold D;grind
 have h3:p*(c+x+y)=c*p+p*x+p*y:=by grind
 omega
theorem oO (xs:List Nat) (k:Nat):val D (xs.take (k+1))=val D (xs.take k)+D^k*xs.getD k 0:=by
 rcases Nat.lt_or_ge k xs.length with h | h
 · rw [B9 D xs k h,List.getD_eq_getElem?_getD,List.getElem?_eq_getElem h];rfl
 · rw [List.take_of_length_le (by omega),List.take_of_length_le (by omega),List.getD_eq_getElem?_getD,List.getElem?_eq_none (by omega)];simp
theorem getD_top {xs:List Nat} {k:Nat} (ht:Top xs) (h:xs.length=k+1):xs.getD k 0≠0:=by
 rw [List.getD_eq_getElem?_getD,List.getElem?_eq_getElem (by omega)]
 refine ht _ ?_
 have e:xs.length-1=k:=by omega
 rw [List.getLast?_eq_getElem?,e,List.getElem?_eq_getElem (by omega)];rfl
theorem getD_lt {xs:List Nat} (hd:Dig D xs) (k:Nat):xs.getD k 0<10000:=hd.getD D_pos k
theorem getD_out {xs:List Nat} {k n:Nat} (hn:xs.length=n) (h:n<=k):xs.getD k 0=0:=by
 rw [List.getD_eq_getElem?_getD,List.getElem?_eq_none (by omega)];rfl
theorem rcell {w:World} {s:Option Addr} {xs:List Nat} {n:Nat} (h:RRdo w s xs) (hn:xs.length=n) (k:Nat) (hk:k<n):∃ b o,s=some ⟨b,o,none⟩/\w.cell? ⟨b,o+k,none⟩=some (.int .i64 (xs.getD k 0:Int)):=by
 obtain ⟨b,o,cs,e,h1,h2⟩:=h.get k (by omega)
 refine ⟨b,o,e, ?_⟩
 rw [h1.cell,h2 k (by omega),List.getD_eq_getElem?_getD,List.getElem?_eq_getElem (by omega)];rfl
set_option maxHeartbeats 8000000 in
theorem rAdd_any (w:World) (va vb:Value) (a b:Nat) (ha:RefV w va a) (hb:RefV w vb b) (ba:a<D^1000000) (bb:b<D^1000000) :
 Calls Tryd.prog 94 #[va,vb] w (nM w (a+b)):=by
 obtain ⟨sa,n,cx,xs,rfl,hn,hnc,hx,tx,dx,rfl⟩:=ha
 obtain ⟨sb,m,cy,ys,rfl,hm,hmc,hy,ty,dy,rfl⟩:=hb
 have Hn:=Lib.hid hn
 have Hm:=Lib.hid hm
 have hn6:n<=1000000:=rlen tx hn ba
 have hm6:m<=1000000:=rlen ty hm bb
 obtain ⟨i1,hi,hz0,hz1,hz2⟩:=iQ
 have hgw0:w.grownBy (((w.alloc (.cells #[.slice sa n cx] 77)).alloc (.cells #[.slice sb m cy] 77)).alloc (.cells #[.slice none 0 0] 77)) none:=B1 (B1 (World.grownBy_alloc _ _ _) _) _
 have hboxr:=A9 ((w.alloc (.cells #[.slice sa n cx] 77)).alloc (.cells #[.slice sb m cy] 77)) (.cells #[.slice none 0 0] 77) (w.heap.size+1+1) (by simp)
 have hboxb:=(Below.heap_alloc _ (.cells #[.slice none 0 0] 77) (w.heap.size+1) (by simp)).trans (A9 (w.alloc (.cells #[.slice sa n cx] 77)) (.cells #[.slice sb m cy] 77) (w.heap.size+1) (by simp))
 have hboxa:=((Below.heap_alloc _ (.cells #[.slice none 0 0] 77) w.heap.size (by simp;omega)).trans (Below.heap_alloc _ (.cells #[.slice sb m cy] 77) w.heap.size (by simp))).trans (A9 w (.cells #[.slice sa n cx] 77) w.heap.size rfl)
 have hs0:(((w.alloc (.cells #[.slice sa n cx] 77)).alloc (.cells #[.slice sb m cy] 77)).alloc (.cells #[.slice none 0 0] 77)).heap.size=w.heap.size+1+1+1:=by simp
 obtain ⟨N,hN⟩:∃ N,N=w.heap.size+1+1+1:=⟨_,rfl⟩
 have hx0:=hx.kept hgw0
 have hy0:=hy.kept hgw0
 clear hn hm ba bb hx hy
 go_enter Tryd.func94,Tryd.ntmps94
 go_wp2_with fail
 generalize (((w.alloc (.cells #[.slice sa n cx] 77)).alloc (.cells #[.slice sb m cy] 77)).alloc (.cells #[.slice none 0 0] 77))=w0 at *
 go_loopg [5,6,7] (max n m+1) (fun gh s c i wr=>∃ (k cc:Nat) (sl:Option Addr) (cl:Nat) (ds:List Nat),s = .slice sl k cl/\c = .int .i64 cc/\i = .int .i64 k/\cc<=1/\k<=max n m+1/\(k=max n m+1->cc=0)/\max n m+1-k<=gh/\wr.ownsRow N 3 1 (.slice sl k cl) k (ds.map iv)/\Hid (ds.length=k)/\Dig D ds/\Hid (n<=k->m<=k->cc=0->Top ds)/\Hid (val D ds+cc*D^k=val D (xs.take k)+val D (ys.take k))/\Below N w0 wr)
 case atStart=>exact ⟨0,0,none,0,[],rfl,rfl,rfl,by omega,by omega,by omega,by omega,⟨rfl,Or.inl ⟨rfl,rfl⟩⟩,rfl,Dig.nil _,fun _ _ _ x hx=>by simp at hx,by show _=_;simp [val],Below.refl _ _⟩
 case round=>
  obtain ⟨k,cc,sl,cl,ds,rfl,rfl,rfl,hc1,hkm,hkc,hgh,hown,hdl,hdd,htp,hv,hbl⟩:=hrel
  obtain ⟨ca,fa⟩:=B8 (Q4 hbl hboxa (by omega))
  obtain ⟨cb,fb⟩:=B8 (Q4 hbl hboxb (by omega))
  have hboxr1:=Q4 hbl hboxr (by omega)
  obtain ⟨cr,fr⟩:=B8 hboxr1
  have hsr:N<=wr.heap.size:=by have:=hbl.size;omega
  have hxr:RRdo wr sa xs:=hx0.below hbl (by omega)
  have hyr:RRdo wr sb ys:=hy0.below hbl (by omega)
  by_cases hend:n<=k/\m<=k/\cc=0
  · obtain ⟨hnk,hmk,rfl⟩:=hend
    have f1:decide ((k:Int)<(n:Int))=false:=decide_eq_false (by omega)
    have f2:decide ((k:Int)<(m:Int))=false:=decide_eq_false (by omega)
    obtain ⟨hrd,hcap,_⟩:=own_rdoI hown
    have hF:Hid (nM w (val D xs+val D ys) (.returned (.agg #[.slice sl k cl])) (wr.setCell ⟨w.heap.size+1+1,0,none⟩ (.slice sl k cl))):=by
     refine ⟨_,rfl,⟨sl,k,cl,ds,rfl,hdl.out,hcap,hrd.set_other hboxr1 (by decide) 0 _,htp.out hnk hmk rfl,hdd, ?_⟩,D2 (J9 hgw0 hbl (by omega)) (C2 (B5 _ _) _ _) (by omega)⟩
     have:=hv.out
     rw [List.take_of_length_le (by rw [Hn.out];exact hnk),List.take_of_length_le (by rw [Hm.out];exact hmk)] at this
     omega
    clear hown hbl hboxr1 hv htp hxr hyr
    go_wp2_with fail
    exact bodyPost_ret (v := .agg #[.slice sl k cl]) (by simp [results,Tryd.results94,go_sem,cr]) rfl hF.out
  · obtain ⟨x,hxk⟩:∃ x,xs.getD k 0=x:=⟨_,rfl⟩
    obtain ⟨y,hyk⟩:∃ y,ys.getD k 0=y:=⟨_,rfl⟩
    have hx4:x<10000:=hxk ▸ getD_lt dx k
    have hy4:y<10000:=hyk ▸ getD_lt dy k
    obtain ⟨d,hd⟩:∃ d,(cc+x+y)%10000=d:=⟨_,rfl⟩
    obtain ⟨q,hq⟩:∃ q,(cc+x+y) / 10000=q:=⟨_,rfl⟩
    have hvn:Hid (val D (ds++[d])+q*D^(k+1)=val D (xs.take (k+1))+val D (ys.take (k+1))):=by
     show _=_
     rw [F9,hdl.out,Nat.pow_succ,radd_step hv.out hd hq,oO,oO,hxk,hyk];omega
    have hxo:n<=k->x=0:=fun h=>by rw [<- hxk];exact getD_out Hn.out h
    have hyo:m<=k->y=0:=fun h=>by rw [<- hyk];exact getD_out Hm.out h
    have hxt:n=k+1->x≠0:=fun h=>by rw [<- hxk];exact getD_top tx (by rw [Hn.out];exact h)
    have hyt:m=k+1->y≠0:=fun h=>by rw [<- hyk];exact getD_top ty (by rw [Hm.out];exact h)
    have htp2:Hid (n<=k+1->m<=k+1->q=0->Top (ds++[d])):=fun h1 h2 h3=>kJ (by omega)
    have hk2:k<max n m+1:=by omega
    have hk3:k+1=max n m+1->q=0:=by omega
    have hd4:d<10000:=by omega
    have hq1:q<=1:=by omega
    have hownA:=lI hown (.cells #[iv d] 3)
    have hnews:∀ j u,([iv d]:List Value)[j]?=some u->(wr.alloc (.cells #[iv d] 3)).cell? ((⟨wr.heap.size,0,none⟩:Addr).add j)=some u:=World.news_of_block (heap_alloc_new wr _)
    have hsi:N<=(wr.alloc (.cells #[iv d] 3)).heap.size:=by simp;omega
    have hblA:Below N w0 (wr.alloc (.cells #[iv d] 3)):=hbl.trans (M1 (World.grownBy_alloc _ _ _) hsr)
    have HX:=Lib.hid hxk
    have HY:=Lib.hid hyk
    clear hxk hyk hxt hyt hown hbl hv htp hboxr1 hkc
    by_cases hkn:k<n<;>by_cases hkm2:k<m
    ·
     obtain ⟨b1,o1,rfl,c1⟩:=rcell hxr Hn.out k (by omega);rw [HX.out] at c1;have f1:decide ((k:Int)<(n:Int))=true:=decide_eq_true (by omega)
     obtain ⟨b2,o2,rfl,c2⟩:=rcell hyr Hm.out k (by omega);rw [HY.out] at c2;have f2:decide ((k:Int)<(m:Int))=true:=decide_eq_true (by omega)
     have e1:((cc:Int)+(x:Int)+(y:Int))%10000=(d:Int):=by omega
     have e2:((cc:Int)+(x:Int)+(y:Int)) / 10000=(q:Int):=by omega
     clear hd hq hxo hyo
     go_wp2_with (at_builtin;refine wpList_append_lies _ rfl _ _ _ rfl N 3 i1 (.int .i64 0) 1 8 Tryd.underlying75 hi hz0 hz1 hz2 rfl (by omega) (.slice sl k cl) k (ds.map iv) rfl hownA ⟨wr.heap.size,0,none⟩ 1 1 [iv d] rfl rfl hnews lK (by omega) (by unfold maxLen;omega) (by omega) hsi (wr.heap.size+1) (by simp) ?_;intro g2 cap2 w5 hown5 hgrow hat9 hlt9)
     have hbl5:=hblA.trans (Y9 hownA hgrow hsi)
     have hmap:ds.map iv++[iv d]=(ds++[d]).map iv:=by rw [List.map_append];rfl
     rw [hmap] at hown5
     have hl5:Hid ((ds++[d]).length=k+1):=by show _=_;rw [List.length_append,hdl.out];rfl
     clear hgrow hownA hnews hblA hmap
     go_roundg (max n m-k)
     case measure=>omega
     case rel=>exact ⟨k+1,q,_,cap2,ds++[d],rfl,(by first | rfl | rw [e2]),by go_num,hq1,by omega,hk3,by omega,hown5,hl5,hdd.snoc hd4,htp2,hvn,hbl5⟩
    ·
     obtain ⟨b1,o1,rfl,c1⟩:=rcell hxr Hn.out k (by omega);rw [HX.out] at c1;have f1:decide ((k:Int)<(n:Int))=true:=decide_eq_true (by omega)
     have f2:decide ((k:Int)<(m:Int))=false:=decide_eq_false (by omega)
     have y00:=hyo (by omega)
     have e1:((cc:Int)+(x:Int))%10000=(d:Int):=by omega
     have e2:((cc:Int)+(x:Int)) / 10000=(q:Int):=by omega
     clear hd hq hxo hyo
     go_wp2_with (at_builtin;refine wpList_append_lies _ rfl _ _ _ rfl N 3 i1 (.int .i64 0) 1 8 Tryd.underlying75 hi hz0 hz1 hz2 rfl (by omega) (.slice sl k cl) k (ds.map iv) rfl hownA ⟨wr.heap.size,0,none⟩ 1 1 [iv d] rfl rfl hnews lK (by omega) (by unfold maxLen;omega) (by omega) hsi (wr.heap.size+1) (by simp) ?_;intro g2 cap2 w5 hown5 hgrow hat9 hlt9)
     have hbl5:=hblA.trans (Y9 hownA hgrow hsi)
     have hmap:ds.map iv++[iv d]=(ds++[d]).map iv:=by rw [List.map_append];rfl
     rw [hmap] at hown5
     have hl5:Hid ((ds++[d]).length=k+1):=by show _=_;rw [List.length_append,hdl.out];rfl
     clear hgrow hownA hnews hblA hmap
     go_roundg (max n m-k)
     case measure=>omega
     case rel=>exact ⟨k+1,q,_,cap2,ds++[d],rfl,(by first | rfl | rw [e2]),by go_num,hq1,by omega,hk3,by omega,hown5,hl5,hdd.snoc hd4,htp2,hvn,hbl5⟩
    ·
     have f1:decide ((k:Int)<(n:Int))=false:=decide_eq_false (by omega)
     obtain ⟨b2,o2,rfl,c2⟩:=rcell hyr Hm.out k (by omega);rw [HY.out] at c2;have f2:decide ((k:Int)<(m:Int))=true:=decide_eq_true (by omega)
     have x00:=hxo (by omega)
     have e1:((cc:Int)+(y:Int))%10000=(d:Int):=by omega
     have e2:((cc:Int)+(y:Int)) / 10000=(q:Int):=by omega
     clear hd hq hxo hyo
     go_wp2_with (at_builtin;refine wpList_append_lies _ rfl _ _ _ rfl N 3 i1 (.int .i64 0) 1 8 Tryd.underlying75 hi hz0 hz1 hz2 rfl (by omega) (.slice sl k cl) k (ds.map iv) rfl hownA ⟨wr.heap.size,0,none⟩ 1 1 [iv d] rfl rfl hnews lK (by omega) (by unfold maxLen;omega) (by omega) hsi (wr.heap.size+1) (by simp) ?_;intro g2 cap2 w5 hown5 hgrow hat9 hlt9)
     have hbl5:=hblA.trans (Y9 hownA hgrow hsi)
     have hmap:ds.map iv++[iv d]=(ds++[d]).map iv:=by rw [List.map_append];rfl
     rw [hmap] at hown5
     have hl5:Hid ((ds++[d]).length=k+1):=by show _=_;rw [List.length_append,hdl.out];rfl
     clear hgrow hownA hnews hblA hmap
     go_roundg (max n m-k)
     case measure=>omega
     case rel=>exact ⟨k+1,q,_,cap2,ds++[d],rfl,(by first | rfl | rw [e2]),by go_num,hq1,by omega,hk3,by omega,hown5,hl5,hdd.snoc hd4,htp2,hvn,hbl5⟩
    ·
     have f1:decide ((k:Int)<(n:Int))=false:=decide_eq_false (by omega)
     have f2:decide ((k:Int)<(m:Int))=false:=decide_eq_false (by omega)
     have y00:=hyo (by omega)
     have x00:=hxo (by omega)
     obtain rfl:cc=1:=by omega
     subst x00
     subst y00
     obtain rfl:d=1:=by omega
     obtain rfl:q=0:=by omega
     have e0:iv 1 = .int .i64 1:=rfl
     rw [e0] at hownA hnews hblA hsi
     clear hd hq hxo hyo
     go_wp2_with (at_builtin;refine wpList_append_lies _ rfl _ _ _ rfl N 3 i1 (.int .i64 0) 1 8 Tryd.underlying75 hi hz0 hz1 hz2 rfl (by omega) (.slice sl k cl) k (ds.map iv) rfl hownA ⟨wr.heap.size,0,none⟩ 1 1 [Value.int .i64 1] rfl rfl hnews lK (by omega) (by unfold maxLen;omega) (by omega) hsi (wr.heap.size+1) (by simp) ?_;intro g2 cap2 w5 hown5 hgrow hat9 hlt9)
     have hbl5:=hblA.trans (Y9 hownA hgrow hsi)
     have hmap:ds.map iv++[Value.int .i64 1]=(ds++[1]).map iv:=by rw [List.map_append];rfl
     rw [hmap] at hown5
     have hl5:Hid ((ds++[1]).length=k+1):=by show _=_;rw [List.length_append,hdl.out];rfl
     clear hgrow hownA hnews hblA hmap
     go_roundg (max n m-k)
     case measure=>omega
     case rel=>exact ⟨k+1,0,_,cap2,ds++[1],rfl,(by first | rfl | rw [e2]),by go_num,hq1,by omega,fun _=>rfl,by omega,hown5,hl5,hdd.snoc hd4,fun a b _=>(show Top (ds++[1]) from kJ (by omega)),hvn,hbl5⟩
end Go.Proofs.YtamdnbbgpacfkaaDoor
namespace Go.Proofs.YtamdnbbgpacfkaaDoor.PM
def pdot (a b c:Pq):Rat:=(b.1-a.1)*(c.1-a.1)+(b.2-a.2)*(c.2-a.2)
theorem dot_at (a b:Pq) (t:Rat):pdot (pat a b t) a b=(t*t-t)*((b.1-a.1)*(b.1-a.1)+(b.2-a.2)*(b.2-a.2)):=by simp only [pdot,pat];grind
theorem unit_of {t:Rat} (h:t*t-t<=0) : 0<=t/\t<=1:=by
 constructor
 · rcases (show t<0\/0<=t by grind) with h1 | h1
   · have:=Rat.mul_pos (show 0 < -t by grind) (show 0 < -t by grind);grind
   · exact h1
 · rcases (show 1<t\/t<=1 by grind) with h1 | h1
   · have:=Rat.mul_pos (show 0<t by grind) (show 0<t-1 by grind);grind
   · exact h1
theorem of_unit {t:Rat} (h : 0<=t) (h1:t<=1):t*t-t<=0:=by
 have:=Rat.mul_nonneg h (show 0<=1-t by grind);grind
theorem ins_doc {a b p:Pq} : InS a b p ↔ A3 a b p=0/\pdot p a b<=0:=by
 constructor
 · rintro ⟨t,h0,h1,rfl⟩
   refine ⟨cross_at _ _ _, ?_⟩
   rw [dot_at]
   have h2:=of_unit h0 h1
   have h3 : 0<=(b.1-a.1)*(b.1-a.1)+(b.2-a.2)*(b.2-a.2):=by
    have:=cC (b.1-a.1);have:=cC (b.2-a.2);grind
   have:=Rat.mul_nonneg (show 0 <= -(t*t-t) by grind) h3
   grind
 · rintro ⟨hc,hd⟩
   by_cases h:a=b
   · subst h
     rw [fE]
     by_cases hp:p=a
     · exact hp
     · have:=lM hp
       simp only [pdot] at hd;grind
   · obtain ⟨t,rfl⟩:=bO h hc
     rw [dot_at] at hd
     have hn:=lM h
     have:t*t-t<=0:=by
      rcases (show t*t-t<=0\/0<t*t-t by grind) with h1 | h1
      · exact h1
      · have:=Rat.mul_pos h1 hn;grind
     exact ⟨t,(unit_of this).1,(unit_of this).2,rfl⟩
end Go.Proofs.YtamdnbbgpacfkaaDoor.PM
namespace Go.Proofs.YtamdnbbgpacfkaaDoor.Ex
section
instance:DecidableEq Var:=fun x y=>if h:x.eq y=true then isTrue ((Var.eq_iff x y).1 h) else isFalse fun e=>h ((Var.eq_iff x y).2 e)
end
section
variable (P:Program)
end
section
variable (P:Program) (prot:TypeId->Bool)
variable {prot}
end
section
variable {P:Program} {prot:TypeId->Bool}
section
variable {dfs:Root} {base:World} {N:Nat} {σ : Env} {g:Var->SV} {a:Act} {W:World}
end
end
section
variable {P:Program} {prot:TypeId->Bool}
section
variable {dfs:Root} {base:World} {N:Nat} {σ : Env} {g:Var->SV} {a:Act} {W:World}
variable {Q:Exit->Act->World->Prop} {K:Act->World->Prop} {F:Fence} {dn:Nat}
end
end
section
end
section
end
section
section
variable {P:Program} {prot:TypeId->Bool} {ops:Array Oper} {N:Nat} {sh:Nat->Sh} {S0:St} {nc0 nb0 nc2 nb2:Nat} {L:List Eff} {av0:List Nat} {ps:List (Nat × Nat × Bool)}
variable {specs:Nat->Spec prot} {dfs:Root} {base:World} {Q:Exit->Act->World->Prop} {F:Fence} {dn:Nat}
end
end
section
section
variable {P:Program} {prot:TypeId->Bool} {ops:Array Oper} {N:Nat} {sh:Nat->Sh} {S0:St} {nc0 nb0 nc2 nb2:Nat} {L:List Eff} {av0:List Nat} {ps:List (Nat × Nat × Bool)}
variable {specs:Nat->Spec prot} {dfs:Root} {base:World} {Q:Exit->Act->World->Prop} {F:Fence} {dn:Nat}
end
end
section
end
section
end
section
variable {P:Program} {prot:TypeId->Bool} {N:Nat} {sh:Nat->Sh} {specs:Nat->Spec prot} {dfs:Root} {base:World} {F:Fence} {dn:Nat} {J:Nat->Option (List (List Var))} {K:Nat->Bool}
section
variable {α : Type} {spk : α->Nat->Spec prot} {μ : Nat->α->Nat}
end
section
variable {α : Type} {spk : α->Nat->Spec prot} {μ : Nat->α->Nat}
end
end
section
section
variable {P:Program} {dfs:Root} {base:World} {N:Nat} {σ : Env} {S:St} {a:Act} {W:World}
end
end
section
variable {prot:TypeId->Bool}
theorem bI {P:Program} (hm:P.follows .mixedOrders=true) {f:FuncId} {fn:Func} (hf:P.funcs[f]?=some fn)
 (ins specs:List (Spec prot)) (K:List Nat) (J:List (Option (List (List Var)))) {vs:List Value} {w:World} (hin:Ins w ins vs) {rs:List (Rec × List (Nat × Nat × Bool))} {js:List aL} {outs:List Out} {nc:Nat}
 (he:mF P prot K J fn (fun n=>(sp (ins++specs) n).sh) ins.length (M2 ins 0) []=some (rs,js,outs,nc))
 (hvc:WVCs P (ins++specs) w rs) (hjc:JVCs (ins++specs) w js) {R:Ending->World->Prop}
 (hR:Outs (ins++specs) w R outs) :
 Calls P f vs.toArray w R:=by
 obtain ⟨g,h1,h2,h3⟩:=fF hin
 have hvs:(M2 ins 0).map (SV.den ⟨g,fun _=>0,fun _=>undef⟩)=vs:=by
  apply List.ext_getElem?
  intro i
  rw [List.getElem?_map,U9]
  cases hs:ins[i]? with
  | none=>
    have:vs[i]?=Option.none:=by
     rw [List.getElem?_eq_none_iff] at hs ⊢;omega
    rw [this];rfl
  | some s=>
    have hi:i<vs.length:=by have:=(List.getElem?_eq_some_iff.1 hs).1;omega
    have hv:=List.getElem?_eq_getElem hi
    rw [hv]
    simp only [Option.map_some,Nat.zero_add]
    rw [(h3 i s _ hs hv).1]
 rw [<- hvs]
 refine aN hm hf (ins++specs) K J ins.length (M2 ins 0) [] he w ⟨g,fun _=>0,fun _=>undef⟩ h1 (by simp) (by simp) (fun n hn=>?_) hvc hjc R hR
 have hs:=List.getElem?_eq_getElem hn
 have hv:=List.getElem?_eq_getElem (show n<vs.length by omega)
 obtain ⟨h4,h5⟩:=h3 n _ _ hs hv
 have hsp:sp (ins++specs) n=ins[n]:=by
  unfold sp;rw [D8,List.getElem?_append_left hn,hs];rfl
 unfold Fact
 rw [hsp,h4]
 exact h5
end
section
section
variable {prot:TypeId->Bool}
end
end
end Go.Proofs.YtamdnbbgpacfkaaDoor.Ex
namespace Go.Proofs.YtamdnbbgpacfkaaDoor
open Go.RowKit Mat
def aK (w:World) (z:Int) (e:Ending) (w':World):Prop:=∃ v,e = .returned v/\RIntV w' v z/\w.grownBy w' none
theorem heap_setfst {w:World} {g:Nat} {a0 a1:Value} {t:TypeId} (h:w.heap[g]?=some (.cells #[a0,a1] t (0,0))) (v0:Value):(w.setCell ⟨g,0,none⟩ v0).heap[g]?=some (.cells #[v0,a1] t (0,0)):=by
 simp [World.setCell,Array.getElem?_modify,h]
theorem grown_two {w w':World} {g:Nat} (hg:w.grownBy w' none) (hl:w.heap.size<=g) (v0 v1:Value):w.grownBy ((w'.setCell ⟨g,0,none⟩ v0).setCell ⟨g,1,none⟩ v1) none:=
 D2 (D2 hg (C2 (B5 _ _) _ _) hl) (C2 (B5 _ _) _ _) hl
theorem oV {w w':World} {z:Int} {g:Nat} {a0 a1 v0 v1:Value} (hg:w.grownBy w' none) (hbox:w'.heap[g]?=some (.cells #[a0,a1] 79 (0,0))) (hl:w.heap.size<=g) (h:RIntV w' (.agg #[v0,v1]) z) :
 aK w z (.returned (.agg #[v0,v1])) ((w'.setCell ⟨g,0,none⟩ v0).setCell ⟨g,1,none⟩ v1):=
 ⟨_,rfl,(h.set_other hbox (by decide) 0 v0).set_other (heap_setfst hbox v0) (by decide) 1 v1,grown_two hg hl v0 v1⟩
theorem rv_len {w:World} {s:Option Addr} {l c n:Nat} (h:RefV w (.agg #[.slice s l c]) n):(n=0->l=0)/\(0<n->0<l):=by
 obtain ⟨s',l',c',xs,e,hl, -, -,ht, -,hv⟩:=h
 cases e
 refine ⟨fun h0=>?_,fun h0=>?_⟩
 · have:=(S6 D D_pos xs ht).1 (hv.trans h0)
   rw [<- hl,this];rfl
 · rcases Nat.eq_zero_or_pos l with h1 | h1
   · rw [h1] at hl
     rw [List.length_eq_zero_iff.1 hl] at hv
     simp [val] at hv;omega
   · exact h1
set_option maxHeartbeats 4000000 in
theorem oW (w:World) (va:Value) (s:Int) (n:Nat) (z:Int) (Ha:RefV w va n) (hz:z.natAbs=n) (hs:n=0\/z.sign=s) :
 Calls Tryd.prog 93 #[.int .i64 s,va] w (aK w z):=by
 have HS:Hid (n=0\/z.sign=s):=hs
 have HZ:=Lib.hid hz
 clear hz hs
 have HL:=Lib.hid Ha
 rcases Nat.eq_zero_or_pos n with h0 | h0
 · skip
   obtain rfl:z=0:=by have:=HZ.out;omega
   subst h0
   obtain ⟨sa,la,ca,ya,rfl,ha⟩:=Ha
   obtain rfl:la=0:=(rv_len HL.out).1 rfl
   have Ha:RefV w (.agg #[.slice sa 0 ca]) 0:=HL.out
   clear HL ha HS HZ
   have hG:w.grownBy ((w.alloc (.cells #[.slice sa 0 ca] 77)).alloc (.cells #[.int .i64 0,.slice none 0 0] 79)) none:=B1 (World.grownBy_alloc _ _ _) _
   have Ba:=A5 (World.grownBy_alloc _ (.cells #[.int .i64 0,.slice none 0 0] 79) none) (A9 w (.cells #[.slice sa 0 ca] 77) w.heap.size rfl)
   have Bq:=A9 (w.alloc (.cells #[.slice sa 0 ca] 77)) (.cells #[.int .i64 0,.slice none 0 0] 79) (w.heap.size+1) (by simp)
   have ma:=Ha.kept hG
   go_enter Tryd.func93,Tryd.ntmps93
   obtain ⟨Ca0,Fa0⟩:=B8 Ba
   obtain ⟨Cq0,Cq1,Fq0,Fq1⟩:=A7 Bq
   have hG':w.grownBy ((w.alloc (.cells #[.slice sa 0 ca] 77)).alloc (.cells #[.int .i64 0,.slice none 0 0] 79)) none:=(B1 (World.grownBy_alloc _ _ _) _)
   have hF:Hid (aK w (0) (.returned (.agg #[.int .i64 0,.slice none 0 0])) ((w.alloc (.cells #[.slice sa 0 ca] 77)).alloc (.cells #[.int .i64 0,.slice none 0 0] 79))):=⟨_,rfl,RIntV.zero _,hG'⟩
   clear hG' ma
   go_wp2_with fail
   exact bodyPost_ret (v := .agg #[.int .i64 0,.slice none 0 0]) (by simp [results,Tryd.results93,go_sem]) rfl hF.out
 · skip
   obtain hs:z.sign=s:=HS.out.resolve_left (by omega)
   obtain ⟨sa,la,ca,ya,rfl,ha⟩:=Ha
   have hl:=(rv_len HL.out).2 h0
   have f1:((la:Int) == 0)=false:=beq_eq_false_iff_ne.2 (by omega)
   have Ha:RefV w (.agg #[.slice sa la ca]) n:=HL.out
   have HS2:=Lib.hid hs
   clear HL ha HS hs hl
   have hG:w.grownBy ((w.alloc (.cells #[.slice sa la ca] 77)).alloc (.cells #[.int .i64 0,.slice none 0 0] 79)) none:=B1 (World.grownBy_alloc _ _ _) _
   have Ba:=A5 (World.grownBy_alloc _ (.cells #[.int .i64 0,.slice none 0 0] 79) none) (A9 w (.cells #[.slice sa la ca] 77) w.heap.size rfl)
   have Bq:=A9 (w.alloc (.cells #[.slice sa la ca] 77)) (.cells #[.int .i64 0,.slice none 0 0] 79) (w.heap.size+1) (by simp)
   have ma:=Ha.kept hG
   go_enter Tryd.func93,Tryd.ntmps93
   obtain ⟨Ca0,Fa0⟩:=B8 Ba
   obtain ⟨Cq0,Cq1,Fq0,Fq1⟩:=A7 Bq
   have hG':w.grownBy ((w.alloc (.cells #[.slice sa la ca] 77)).alloc (.cells #[.int .i64 s,.slice sa la ca] 79)) none:=(B1 (World.grownBy_alloc _ _ _) _)
   have hF:Hid (aK w (z) (.returned (.agg #[.int .i64 s,.slice sa la ca])) ((w.alloc (.cells #[.slice sa la ca] 77)).alloc (.cells #[.int .i64 s,.slice sa la ca] 79))):=⟨_,rfl,⟨s,sa,la,ca,rfl,HS2.out.symm,by rw [HZ.out];exact Ha.kept hG'⟩,hG'⟩
   clear hG' ma
   go_wp2_with fail
   exact bodyPost_ret (v := .agg #[.int .i64 s,.slice sa la ca]) (by simp [results,Tryd.results93,go_sem]) rfl hF.out
theorem rof_1 (w:World):Calls Tryd.prog 95 #[.int .u64 1] w (nM w 1):=rD w 1 (by decide)
theorem lt_DE {m E:Nat} (h:m<B) (hE : 5<=E):m<D^E:=
 Nat.lt_of_lt_of_le h (Nat.le_trans (show B<=D^5 by unfold B D;decide) (Nat.pow_le_pow_right D_pos hE))
theorem lt_D1 {m:Nat} (h:m<B):m<D^1000000:=by
 obtain ⟨E,hE⟩:∃ E,E=1000000:=⟨_,rfl⟩
 rw [<- hE];exact lt_DE h (by omega)
set_option maxHeartbeats 4000000 in
theorem lE (w:World) (n:Int) (h1 : -9223372036854775808<=n) (h2:n<=9223372036854775807) :
 Calls Tryd.prog 67 #[.int .i64 n] w (aK w n):=by
 by_cases hn:n<0
 · skip
   have f1:decide (n<0)=true:=decide_eq_true hn
   obtain ⟨m,hm⟩:∃ m:Nat,n = -(m:Int)-1:=⟨(-(n+1)).toNat,by omega⟩
   obtain ⟨k1,hk1⟩:∃ k,IntKind.i64.wrap (n+1)=k:=⟨_,rfl⟩
   obtain ⟨k2,hk2⟩:∃ k,IntKind.i64.wrap (-k1)=k:=⟨_,rfl⟩
   have hk3:IntKind.u64.wrap k2=(m:Int):=by rw [IntKind.wrap_i64] at hk1 hk2;rw [IntKind.wrap_u64];omega
   have HM:Hid (m<B):=by show m<B;unfold B;omega
   have HB1:Hid (m<D^1000000):=Lib.hid (lt_D1 HM.out)
   have HB2:Hid (1<D^1000000):=Lib.hid (lt_D1 (show 1<B by unfold B;omega))
   have HN:Hid (n.natAbs=m+1):=by show _=_;omega
   have HSG:Hid (n.sign = -1):=Int.sign_eq_neg_one_of_neg hn
   clear hm h1 h2 hn
   have hG:w.grownBy (w.alloc (.cells #[.int .i64 0,.slice none 0 0] 79)) none:=(World.grownBy_alloc _ _ _)
   have Bq:=(A9 w (.cells #[.int .i64 0,.slice none 0 0] 79) (w.heap.size) rfl)
   go_enter Tryd.func67,Tryd.ntmps67
   obtain ⟨Cq0,Cq1,Fq0,Fq1⟩:=A7 Bq
   go_wp2_with fail
   generalize (w.alloc (.cells #[.int .i64 0,.slice none 0 0] 79))=w0 at *
   clear Cq0 Fq0 Cq1 Fq1
   refine (rD w0 m HM.out).mono ?_
   rintro e w1 ⟨vp,rfl,mp,gw1⟩
   replace Bq:=A5 gw1 Bq
   replace hG:=A4 hG gw1
   clear gw1
   obtain ⟨Cq0,Cq1,Fq0,Fq1⟩:=A7 Bq
   go_wp2_with fail
   clear Cq0 Fq0 Cq1 Fq1
   refine (rof_1 w1).mono ?_
   rintro e w2 ⟨vo,rfl,mo,gw2⟩
   replace Bq:=A5 gw2 Bq
   replace mp:=mp.kept gw2
   replace hG:=A4 hG gw2
   clear gw2
   obtain ⟨Cq0,Cq1,Fq0,Fq1⟩:=A7 Bq
   go_wp2_with fail
   clear Cq0 Fq0 Cq1 Fq1
   refine (rAdd_any w2 _ _ m 1 mp mo HB1.out HB2.out).mono ?_
   rintro e w3 ⟨vs,rfl,ms,gw3⟩
   replace Bq:=A5 gw3 Bq
   replace mp:=mp.kept gw3
   replace mo:=mo.kept gw3
   replace hG:=A4 hG gw3
   clear gw3
   obtain ⟨Cq0,Cq1,Fq0,Fq1⟩:=A7 Bq
   go_wp2_with fail
   clear Cq0 Fq0 Cq1 Fq1
   refine (oW w3 _ (-1) (m+1) n ms HN.out (Or.inr HSG.out)).mono ?_
   rintro e w4 ⟨_,rfl,⟨gd,sd,ld,cd,rfl,hd,md⟩,gw4⟩
   have rd:RIntV w4 (.agg #[.int .i64 gd,.slice sd ld cd]) (n):=⟨gd,sd,ld,cd,rfl,hd,md⟩
   replace Bq:=A5 gw4 Bq
   replace mp:=mp.kept gw4
   replace mo:=mo.kept gw4
   replace ms:=ms.kept gw4
   replace hG:=A4 hG gw4
   clear gw4
   clear md
   obtain ⟨Cq0,Cq1,Fq0,Fq1⟩:=A7 Bq
   clear Cq0 Fq0 Cq1 Fq1
   obtain ⟨k90,k91,k92,k93⟩:=A7 Bq
   obtain ⟨q90,q91,q92,q93⟩:=A7 (D9 Bq (.int .i64 gd) (.slice sd ld cd))
   have hF:Hid (aK w (n) (.returned (.agg #[.int .i64 gd,.slice sd ld cd])) ((w4.setCell ⟨w.heap.size,0,none⟩ (.int .i64 gd)).setCell ⟨w.heap.size,1,none⟩ (.slice sd ld cd))):=oV hG Bq (by omega) rd
   clear mp mo ms rd
   go_wp2_with fail
   exact bodyPost_ret (v := .agg #[.int .i64 gd,.slice sd ld cd]) (by simp [results,Tryd.results67,go_sem,q90,q91]) rfl hF.out
 · skip
   have f1:decide (n<0)=false:=decide_eq_false hn
   obtain ⟨m,hm⟩:∃ m:Nat,n=(m:Int):=⟨n.toNat,by omega⟩
   have hk3:IntKind.u64.wrap n=(m:Int):=by rw [IntKind.wrap_u64];omega
   have HM:Hid (m<B):=by show m<B;unfold B;omega
   have HN:Hid (n.natAbs=m):=by show _=_;omega
   have HSG:Hid (m=0\/n.sign=1):=by
    show _\/_
    rcases eE n with ⟨h,e⟩ | ⟨h,e⟩ | ⟨h,e⟩
    · omega
    · left;omega
    · right;exact e
   clear hm h1 h2 hn
   have hG:w.grownBy (w.alloc (.cells #[.int .i64 0,.slice none 0 0] 79)) none:=(World.grownBy_alloc _ _ _)
   have Bq:=(A9 w (.cells #[.int .i64 0,.slice none 0 0] 79) (w.heap.size) rfl)
   go_enter Tryd.func67,Tryd.ntmps67
   obtain ⟨Cq0,Cq1,Fq0,Fq1⟩:=A7 Bq
   go_wp2_with fail
   generalize (w.alloc (.cells #[.int .i64 0,.slice none 0 0] 79))=w0 at *
   clear Cq0 Fq0 Cq1 Fq1
   refine (rD w0 m HM.out).mono ?_
   rintro e w1 ⟨vp,rfl,mp,gw1⟩
   replace Bq:=A5 gw1 Bq
   replace hG:=A4 hG gw1
   clear gw1
   obtain ⟨Cq0,Cq1,Fq0,Fq1⟩:=A7 Bq
   go_wp2_with fail
   clear Cq0 Fq0 Cq1 Fq1
   refine (oW w1 _ 1 m n mp HN.out HSG.out).mono ?_
   rintro e w2 ⟨_,rfl,⟨gd,sd,ld,cd,rfl,hd,md⟩,gw2⟩
   have rd:RIntV w2 (.agg #[.int .i64 gd,.slice sd ld cd]) (n):=⟨gd,sd,ld,cd,rfl,hd,md⟩
   replace Bq:=A5 gw2 Bq
   replace mp:=mp.kept gw2
   replace hG:=A4 hG gw2
   clear gw2
   clear md
   obtain ⟨Cq0,Cq1,Fq0,Fq1⟩:=A7 Bq
   clear Cq0 Fq0 Cq1 Fq1
   obtain ⟨k90,k91,k92,k93⟩:=A7 Bq
   obtain ⟨q90,q91,q92,q93⟩:=A7 (D9 Bq (.int .i64 gd) (.slice sd ld cd))
   have hF:Hid (aK w (n) (.returned (.agg #[.int .i64 gd,.slice sd ld cd])) ((w2.setCell ⟨w.heap.size,0,none⟩ (.int .i64 gd)).setCell ⟨w.heap.size,1,none⟩ (.slice sd ld cd))):=oV hG Bq (by omega) rd
   clear mp rd
   go_wp2_with fail
   exact bodyPost_ret (v := .agg #[.int .i64 gd,.slice sd ld cd]) (by simp [results,Tryd.results67,go_sem,q90,q91]) rfl hF.out
end Go.Proofs.YtamdnbbgpacfkaaDoor
namespace Go.Proofs.YtamdnbbgpacfkaaDoor.PM
def upS (f:Pq->Pq->Int) (l:List Pq):Nat->Int
 | 0=>0
 | k+1=>upS f l k+f (pt0 l k) (nxt l k)
def opI (f:Pq->Pq->Int) (g:Nat->Pq):Nat->Int
 | 0=>0
 | k+1=>opI f g k+f (g k) (g (k+1))
theorem pC (f:Pq->Pq->Int) (g:Nat->Pq):∀ k,opI f g (k+1)=f (g 0) (g 1)+opI f (fun i=>g (i+1)) k
 | 0=>by show 0+f (g 0) (g 1)=f (g 0) (g 1)+0;omega
 | k+1=>by
   show opI f g (k+1)+f (g (k+1)) (g (k+2))=_+(opI f (fun i=>g (i+1)) k+f (g (k+1)) (g (k+2)))
   rw [pC f g k];omega
theorem pth_op (f:Pq->Pq->Int):∀ l:List Pq,H5 f l=opI f (pt0 l) (l.length-1)
 | []=>rfl
 | [a]=>rfl
 | a :: b :: l=>by
   show f a b+H5 f (b :: l)=opI f (pt0 (a :: b :: l)) (l.length+1)
   rw [pC,pth_op f (b :: l)];rfl
theorem pD {f:Pq->Pq->Int} {g h:Nat->Pq} : ∀ {k:Nat},(∀ i,i<=k->g i=h i)->opI f g k=opI f h k
 | 0,_=>rfl
 | k+1,e=>by
   show opI f g k+_=opI f h k+_
   rw [pD (fun i hi=>e i (by omega)),e k (by omega),e (k+1) (by omega)]
theorem upS_op (f:Pq->Pq->Int) (l:List Pq):∀ k,k<l.length->upS f l k=opI f (pt0 l) k
 | 0,_=>rfl
 | k+1,h=>by
   show upS f l k+f _ (pt0 l ((k+1)%l.length))=opI f (pt0 l) k+_
   rw [upS_op f l k (by omega),Nat.mod_eq_of_lt h]
theorem qT (f:Pq->Pq->Int) (l:List Pq):upS f l l.length=cyL f l:=by
 cases l with
 | nil=>rfl
 | cons a l=>
   show upS f (a :: l) (l.length+1)=H5 f (a :: l++[a])
   rw [pth_op]
   have hl:(a :: l++[a]).length-1=l.length+1:=by simp
   rw [hl]
   show upS f (a :: l) l.length+f (pt0 (a :: l) l.length) (pt0 (a :: l) ((l.length+1)%(l.length+1)))=opI f (pt0 (a :: l++[a])) l.length+f (pt0 (a :: l++[a]) l.length) (pt0 (a :: l++[a]) (l.length+1))
   rw [Nat.mod_self,upS_op f (a :: l) l.length (by simp)]
   have e:∀ i,i<=l.length->pt0 (a :: l) i=pt0 (a :: l++[a]) i:=fun i hi=>by
    unfold pt0;rw [List.getD_eq_getElem?_getD,List.getD_eq_getElem?_getD,List.getElem?_append_left (by simp;omega)]
   have e2:pt0 (a :: l++[a]) (l.length+1)=a:=by unfold pt0;simp [List.getD_eq_getElem?_getD]
   rw [pD e,e l.length (Nat.le_refl _),e2];rfl
theorem pass_or (i k:Int):pass i k = -1\/pass i k=0\/pass i k=1:=by unfold pass;split<;>(try split)<;>omega
def OnR (l:List Pq) (p:Pq):Prop:=∃ i,i<l.length/\InS (pt0 l i) (nxt l i) p
end Go.Proofs.YtamdnbbgpacfkaaDoor.PM
namespace Go.Proofs.YtamdnbbgpacfkaaDoor
open Go.RowKit Go.Shelf Mat Ex PM
attribute [local go_sem] Oper.semAt_some
set_option maxHeartbeats 2000000 in
theorem WSides1_in (n:Nat) (hn : 1<=n) (l Bs b off len cap:Nat) (cs:Array Value) (hsz:off+8*len<=cs.size) (hlen:len<=1000000) (hsh:∀ i,i<len->Sh8 cs (off+i*8)) (J Jx:List Nat->World->Prop)
 (W:World) (hJ:AbidesFrom W.heap.size J)
 (hY:∀ pre x W,J pre W->x<len->pre.length<len->YieldAt Fence.wide (n-1) Tryd.prog l #[pv cs (off+x*8),pv cs (off+(x+1)%len*8)] W fun e W'=>
  (e = .returned (.bool true)/\J (pre++[x]) W'/\KpR b Bs W W')\/(e = .returned (.bool false)/\Jx (pre++[x]) W'))
 (hb:W.heap[b]?=some (.cells cs 33 (0,0))) (hB:W.heap[Bs]?=some (.cells #[.slice (some ⟨b,off,none⟩) len cap] 40 (0,0))) (h0:J [] W) :
 CallsIn Fence.wide n Tryd.prog 68 #[.func (.yield l) #[] #[],.pointer (some ⟨Bs,0,none⟩)] W fun e W'=>(∃ v,e = .returned v) /\
  ((∃ ys,ys=List.range len/\J ys W')\/(∃ k,k<=len/\Jx (List.range k) W')):=by
 refine callsIn_of_wp Tryd.func68 rfl trivial ?_ rfl
 simp only [Tryd.ntmps68,List.size_toArray,List.length_cons,List.length_nil,Nat.reduceAdd,Nat.reduceSub,Array.replicate_succ,Array.replicate_zero,List.push_toArray,List.append_toArray,List.nil_append,List.cons_append]
 have hBc:W.cell? ⟨Bs,0,none⟩=some (.slice (some ⟨b,off,none⟩) len cap):=by unfold World.cell?;rw [hB];rfl
 gi_wp2
 gi_loopw [7] (fun i wr=>∃ k:Nat,k<=len/\i = .int .i64 k/\J (List.range k) wr/\wr.heap[b]?=W.heap[b]?/\wr.heap[Bs]?=W.heap[Bs]?)
  (fun i _=>len-(intOf i).toNat)
 case atStart=>exact ⟨0,Nat.zero_le _,rfl,h0,rfl,rfl⟩
 case round=>
  obtain ⟨k,hk,rfl,hJs,hbr,hBr⟩:=hrel
  by_cases hlt:k<len
  · have hb2:=hbr.trans hb
    have hB2:=hBr.trans hB
    have hbl:b<wr.heap.size:=(Array.getElem?_eq_some_iff.1 hb2).1
    have hBl:Bs<wr.heap.size:=(Array.getElem?_eq_some_iff.1 hB2).1
    have hBc2:wr.cell? ⟨Bs,0,none⟩=some (.slice (some ⟨b,off,none⟩) len cap):=by unfold World.cell?;rw [hB2];rfl
    have c0:=C4 hb2 (k:=off+k*8) (by omega)
    have c1:=C4 hb2 (k:=off+k*8+1) (by omega)
    have c2:=C4 hb2 (k:=off+k*8+2) (by omega)
    have c3:=C4 hb2 (k:=off+k*8+3) (by omega)
    have c4:=C4 hb2 (k:=off+k*8+4) (by omega)
    have c5:=C4 hb2 (k:=off+k*8+5) (by omega)
    have c6:=C4 hb2 (k:=off+k*8+6) (by omega)
    have c7:=C4 hb2 (k:=off+k*8+7) (by omega)
    obtain ⟨s0,n0,x0,s1,n1,x1,s2,n2,x2,s3,n3,x3,e0,e1,e2,e3,e4,e5,e6,e7⟩:=hsh k hlt
    rw [e0] at c0;rw [e1] at c1;rw [e2] at c2;rw [e3] at c3;rw [e4] at c4;rw [e5] at c5;rw [e6] at c6;rw [e7] at c7
    have hg1:wr.grownBy (wr.alloc (.cells #[.slice s0 n0 n0,.bool x0,.slice s1 n1 n1,.bool x1,.slice s2 n2 n2,.bool x2,.slice s3 n3 n3,.bool x3] 33)).drew none:=
     (World.grownBy_alloc _ _ none).trans ⟨rfl,rfl,rfl,Nat.le_refl _,fun _ _ _=>rfl⟩
    have hkeep:∀ q,q<wr.heap.size->(wr.alloc (.cells #[.slice s0 n0 n0,.bool x0,.slice s1 n1 n1,.bool x1,.slice s2 n2 n2,.bool x2,.slice s3 n3 n3,.bool x3] 33)).drew.heap[q]?=wr.heap[q]?:=fun q hq=>hg1.block q hq (by simp)
    obtain ⟨fn,tmps,assign,body,hy,hR⟩:=hY _ k _ (hJ _ _ _ none hJs hg1 (fun r e=>nomatch e)) hlt (by simpa using hlt)
    unfold pv at hy
    rw [e0,e1,e2,e3,e4,e5,e6,e7] at hy
    clear e0 e1 e2 e3 e4 e5 e6 e7
    gi_wp2
    have hmx:Tryd.prog.follows .mixedOrders=true:=by kernel_rfl
    have hm0:(k+1)%len<len:=Nat.mod_lt _ (by omega)
    obtain ⟨m,hm⟩:∃ m,(k+1)%len=m:=⟨_,rfl⟩
    rw [hm] at hm0 hy
    have d0:=C4 hb2 (k:=off+m*8) (by omega)
    have d1:=C4 hb2 (k:=off+m*8+1) (by omega)
    have d2:=C4 hb2 (k:=off+m*8+2) (by omega)
    have d3:=C4 hb2 (k:=off+m*8+3) (by omega)
    have d4:=C4 hb2 (k:=off+m*8+4) (by omega)
    have d5:=C4 hb2 (k:=off+m*8+5) (by omega)
    have d6:=C4 hb2 (k:=off+m*8+6) (by omega)
    have d7:=C4 hb2 (k:=off+m*8+7) (by omega)
    have hmi:((k:Int)+1)%(len:Int)=(m:Int):=by rw [<- hm];push_cast;rfl
    gi_region_with (refine hR.mono ?_;rintro e W3 hor;obtain ⟨bb,rfl,hfin⟩:=two_ways hor)
    all_goals (
     rcases hfin.out with ⟨rfl,hJ3,hk3,hk4⟩ | ⟨rfl,hJx3⟩
     · gi_wp2
       go_roundw
       case rel=>exact ⟨k+1,by omega,by simp,by rw [List.range_succ];exact hJ3,by rw [hk3];exact (hkeep b hbl).trans hbr,by rw [hk4];exact (hkeep Bs hBl).trans hBr⟩
       case measure=>simp [intOf];omega
     · gi_wp2
       refine bodyPost_ret (results_none rfl _ _ _) rfl ?_
       exact ⟨⟨_,rfl⟩,.inr ⟨k+1,by omega,by rw [List.range_succ];exact hJx3⟩⟩)
  · obtain rfl:k=len:=by omega
    gi_wp2
    go_end0
    exact ⟨⟨_,rfl⟩,.inl ⟨_,rfl,hJs⟩⟩
set_option maxHeartbeats 2000000 in
theorem WSides0_in (n:Nat) (l Bs:Nat) (v:Value) (s:Option Addr) (c:Nat) (J:List Nat->World->Prop) (W:World) (hB:W.heap[Bs]?=some (.cells #[.slice s 0 c] 40 (0,0))) (h0:J [] W) :
 CallsIn Fence.wide n Tryd.prog 68 #[.func (.yield l) #[] #[],.pointer (some ⟨Bs,0,none⟩)] W fun e W'=>(∃ v,e = .returned v)/\J [] W':=by
 refine callsIn_of_wp Tryd.func68 rfl trivial ?_ rfl
 simp only [Tryd.ntmps68,List.size_toArray,List.length_cons,List.length_nil,Nat.reduceAdd,Nat.reduceSub,Array.replicate_succ,Array.replicate_zero,List.push_toArray,List.append_toArray,List.nil_append,List.cons_append]
 have hBc:W.cell? ⟨Bs,0,none⟩=some (.slice s 0 c):=by unfold World.cell?;rw [hB];rfl
 gi_wp2
 gi_loopw [7] (fun i wr=>i = .int .i64 0/\J [] wr) (fun _ _=>0)
 case atStart=>exact ⟨rfl,h0⟩
 case round=>
  obtain ⟨rfl,hJs⟩:=hrel
  gi_wp2
  go_end0
  exact ⟨⟨_,rfl⟩,hJs⟩
theorem iD (n:Nat) (v:Value) (w:World) (hv:v.oneCell'=true) :
 CallsIn Fence.wide n Tryd.prog 38 #[v] w fun e w'=>e = .returned (.func (.func 68) #[] #[.pointer (some ⟨w.heap.size,0,none⟩)])/\w'=w.alloc (.cells #[v] 40):=by
 cases v<;>simp [Value.oneCell'] at hv<;>(
 refine callsIn_of_wp Tryd.func38 rfl trivial ?_ rfl
 simp only [Tryd.ntmps38,List.size_toArray,List.length_cons,List.length_nil,Nat.reduceAdd,Nat.reduceSub,Array.replicate_succ,Array.replicate_zero,List.push_toArray,List.append_toArray,List.nil_append,List.cons_append]
 gi_wp2
 go_ret
 exact ⟨rfl,rfl⟩)
theorem aJ (n:Nat) (hn : 1<=n) (Bs:Nat) (w1 w:World) (hg1:w1.grownBy w none) (v:Value) (l:List Pq) (hB:w.heap[Bs]?=some (.cells #[v] 40 (0,0))) (hP:PtsV w1 v l) (hl:l.length<=1000000) :
 ∃ (b:Nat) (encs:Fin l.length->Array Value),b<w.heap.size/\(∀ x,(encs x).size=2)/\(∀ x,∃ p q,encs x = #[p,q]/\PtV w1 p (pt0 l x)/\PtV w1 q (nxt l x))/\(∀ x:Fin l.length,b<w1.heap.size)/\((b=Bs\/fpS v b) /\ ∃ cs t,w.heap[b]?=some (.cells cs t (0,0))) /\
   SeqStopsK Fence.wide n Tryd.prog 68 #[.pointer (some ⟨Bs,0,none⟩)] encs (KpR b Bs) (fun xs=>xs.map Fin.val=List.range l.length) (fun pre=>∃ k,k<=l.length/\pre.map Fin.val=List.range k) l.length w:=by
 obtain ⟨s,m,c,rfl,hm,hc,h⟩:=hP
 have hBl:Bs<w.heap.size:=(Array.getElem?_eq_some_iff.1 hB).1
 by_cases hnil:l=[]
 · subst hnil
   have hm:m=0:=hm.symm
   subst hm
   refine ⟨Bs,fun _ => #[undef,undef],hBl,fun _=>rfl,fun x=>absurd x.2 (Nat.not_lt_zero x.1),fun x=>absurd x.2 (Nat.not_lt_zero x.1),⟨.inl rfl,_,_,hB⟩,fun l' J Jx W hW hJ _ hY h0=>?_⟩
   exact (WSides0_in n l' Bs undef s c (fun _ W=>J [] W) W ((hW.block Bs hBl).trans hB) h0).mono fun e W' ⟨he,hj⟩=>⟨he,.inl ⟨[],rfl,hj⟩⟩
 · obtain ⟨b,off,cs,rfl,hb1,hA⟩:=h.resolve_left hnil
   have hb1l:b<w1.heap.size:=(Array.getElem?_eq_some_iff.1 hb1).1
   have hb:w.heap[b]?=some (.cells cs 33 (0,0)):=(hg1.block b hb1l (by simp)).trans hb1
   have hbl:b<w.heap.size:=(Array.getElem?_eq_some_iff.1 hb).1
   have hpos : 0<l.length:=List.length_pos_iff.2 hnil
   have hpv:∀ i,i<l.length->PtV w1 (pv cs (off+i*8)) (pt0 l i)/\Sh8 cs (off+i*8)/\off+i*8+7<cs.size:=fun i hi=>by
    have:=hA i hi
    rw [Nat.mul_comm 8 i] at this
    obtain ⟨a0,a1,a2,a3,a4,a5,a6,a7,g0,g1,g2,g3,g4,g5,g6,g7,hv⟩:=this
    have e:∀ {k:Nat} {a:Value},cs[k]?=some a->gc cs k=a:=fun h=>by unfold gc;rw [h];rfl
    have e2:pt0 l i=l[i]:=by unfold pt0;simp [hi]
    refine ⟨?_, ?_,(Array.getElem?_eq_some_iff.1 g7).1⟩
    · unfold pv;rw [e g0,e g1,e g2,e g3,e g4,e g5,e g6,e g7,e2];exact hv
    · unfold Sh8
      rw [e g0,e g1,e g2,e g3,e g4,e g5,e g6,e g7]
      have h1:=pt1 hv
      have h2:=pt2 hv
      obtain ⟨s,xs,x,s',xs',x',q1,_⟩:=h1
      obtain ⟨t,ys,y,t',ys',y',q2,_⟩:=h2
      cases q1;cases q2
      exact ⟨_,_,_,_,_,_,_,_,_,_,_,_,rfl,rfl,rfl,rfl,rfl,rfl,rfl,rfl⟩
   refine ⟨b,fun x => #[pv cs (off+x.1*8),pv cs (off+(x.1+1)%l.length*8)],hbl,fun _=>rfl,fun x=>⟨_,_,rfl,(hpv x.1 x.2).1,(hpv _ (Nat.mod_lt _ hpos)).1⟩,fun _=>hb1l,⟨.inr (by obtain ⟨m1,rfl⟩:∃ m1,m=m1+1:=⟨m-1,by omega⟩;exact ⟨_,_,_,rfl⟩),_,_,hb⟩,fun l' J Jx W hW hJ _ hY h0=>?_⟩
   have hsz:off+8*l.length<=cs.size:=by
    have:=(hpv (l.length-1) (by omega)).2.2
    omega
   rw [<- hm] at hB
   refine (WSides1_in n hn l' Bs b off l.length c cs hsz hl (fun i hi=>(hpv i hi).2.1) (fun pre W=>∃ q:List (Fin l.length),q.map Fin.val=pre/\J q W) (fun pre W=>∃ q:List (Fin l.length),q.map Fin.val=pre/\Jx q W) W
    (fun s A B row hs hg hr=>by obtain ⟨q,h1,h2⟩:=hs;exact ⟨q,h1,hJ q A B row h2 hg hr⟩) (fun pre x W1 h1 hx h2=>?_) ((hW.block b hbl).trans hb) ((hW.block Bs hBl).trans hB) ⟨[],rfl,h0⟩).mono
    fun e W' ⟨he,h⟩=>⟨he,h.imp (fun ⟨ys,h,q,h1,hj⟩=>⟨q,h1.trans h,hj⟩) fun ⟨k,hk,q,h1,hj⟩=>⟨q,⟨k,hk,h1⟩,hj⟩⟩
   obtain ⟨q,rfl,hq⟩:=h1
   obtain ⟨fn,tmps,assign,body,hy,hR⟩:=hY q ⟨x,hx⟩ W1 hq (by simpa using h2)
   refine ⟨fn,tmps,assign,body,hy,hR.mono fun e W' h=>?_⟩
   rcases h with ⟨rfl,h3,h4⟩ | ⟨rfl,h3⟩
   · exact .inl ⟨rfl,⟨q++[⟨x,hx⟩],by simp,h3⟩,h4⟩
   · exact .inr ⟨rfl,⟨q++[⟨x,hx⟩],by simp,h3⟩⟩
end Go.Proofs.YtamdnbbgpacfkaaDoor
namespace Go.Proofs.YtamdnbbgpacfkaaDoor
open Go.RowKit Mat Ex
theorem appS {α : Type} (kd:N9 α) {specs:List Sp} {w W:World} {av:List Nat} {σ : Env} {n m0:Nat} {v:Value} {l:List α} {x : α} {run:Value->World->Prop} (g:w.grownBy W none) (hm0:av.elem m0=true) (hs0:sp specs m0=sOw kd w.heap.size l)
 (hv0 : σ.an m0 0=v) (hsn:sp specs n=sOw kd w.heap.size (l++[x])) (h:OwV kd w.heap.size W v l)
 (hr:∃ v' W',run v' W'/\OwV kd w.heap.size W' v' (l++[x])/\OwV kd w.heap.size W' v l/\AppW w.heap.size v v' W W'/\Keeps G0 W W'/\qQ kd w.heap.size W W' v l)
 (hrows:∀ m,av.elem m=true->m≠m0->(sp specs m).row=true->((sp specs m).F (((sp specs m).sh.sv m).den σ) W /\ ∀ q,(sp specs m).fp (((sp specs m).sh.sv m).den σ) W q->v.ownBlock≠some q)\/(∃ l',sp specs m=sOw kd w.heap.size l'/\l'.length<=l.length/\OwV kd w.heap.size W (σ.an m 0) l')) :
 AppS specs w av σ W n run:=by
 obtain ⟨v',W',hrun,o1,o2,⟨hg,hv'⟩,hkp,hod⟩:=hr
 have hden:((sp specs m0).sh.sv m0).den σ=v:=by rw [hs0];exact hv0
 have hold:∀ q,v.ownBlock=some q->dF specs av σ W q:=fun q hq=>⟨m0,hm0,by rw [hs0];show (σ.an m0 0).ownBlock=some q;rw [hv0];exact hq⟩
 refine ⟨v',W',hrun,⟨⟨hg.os.trans g.os,hg.tape.trans g.tape,hg.output.trans g.output,Nat.le_trans g.size hg.size,fun i hi hne=>?_⟩,hg.size,fun q hq ho=>hg.block q hq fun e=>ho (hold q e.symm),KeepsOthers.of_grownBy hg fun j o e hj=>by obtain ⟨_,_,c,hc⟩:=h.inb e;rw [hc] at hj;cases hj;rfl⟩,hkp,by rw [hsn];exact o1,fun q hq=>?_,fun m hm hr=>?_⟩
 · rw [hg.block i (Nat.lt_of_lt_of_le hi g.size) fun e=>?_,g.block i hi hne]
   have:=(h.inb e.symm).2.1;omega
 · rw [hsn] at hq
   have hq:v'.ownBlock=some q:=hq
   rcases hv' with e | e
   · exact .inr (hold q (e ▸ hq))
   · rw [e] at hq;cases hq;exact .inl (Nat.le_refl _)
 · by_cases hm0':m=m0
   · subst hm0'
     refine ⟨by rw [hden,hs0];exact o2,fun q hq=>?_⟩
     rw [hden,hs0] at hq ⊢;exact hq
   · rcases hrows m hm hm0' hr with ⟨hF,hne⟩ | ⟨l',hs',hl',ho'⟩
     rotate_left
     · by_cases hb:(σ.an m 0).ownBlock=v.ownBlock
       · refine ⟨by rw [hs'];exact hod _ _ ho' hl' hb,fun q hq=>?_⟩
         rw [hs'] at hq ⊢;exact hq
       · rw [hs']
         refine (sOw kd w.heap.size l').lasts _ W W' hkp (fun q hq=>hg.block q (ho'.inb hq).1 fun e=>hb ?_) ho'
         have hq:(σ.an m 0).ownBlock=some q:=hq
         rw [hq];exact e.symm ▸ rfl
     refine (sp specs m).lasts _ W W' hkp (fun q hq=>hg.block q ((sp specs m).inb _ _ hF q hq) fun e=>hne q hq e.symm) hF
end Go.Proofs.YtamdnbbgpacfkaaDoor
namespace Go.Proofs.YtamdnbbgpacfkaaDoor
open Go.RowKit Mat Ex PM
theorem aD {P:Program} {ρ : Operand->Value} {o:Oper} {t t':TypeId} {x y:Operand} {a:Int} {W:World} (b:Bool) (ho:o.op = .binOp .leq t x y t') (hx : ρ x = .int .i64 a) (hy : ρ y = .int .i64 0) (h:decide (a<=0)=b):(execOp ρ o).run P W = .ok (.value (.bool b)) W:=
 B7 ho hx hy (by rw [<- h];rfl)
theorem dA (w:World) (va vb vc:Value) (a b c:Pq) (K:Nat) (Ha:PtV w va a) (Hb:PtV w vb b) (Hc:PtV w vc c) (hK:K<=10000) (ba:Bp K a) (bb:Bp K b) (bc:Bp K c) (hTab:Tab w) :
 Calls Tryd.prog 70 #[va,vb,vc] w (fun e w'=>e = .returned (.int .i64 (rsg (A3 a b c)))/\w.grownBy w' none):=by
 refine A6 B3 Tryd.func70 [sPt a,sPt b,sPt c] [sQ (A3 a b c),sZ (rsg (A3 a b c))] (.cons Ha (.cons Hb (.cons Hc .nil))) (rs:=[cl 3 7 [ag 8 0,ag 8 1,ag 8 2],cl 4 51 [ag 4 3]]) (out:=on 4) (nc:=5) (by kernel_rfl)
  ⟨fun σ W g h hb=>F2 W _ _ _ a b c K (h 0 rfl) (h 1 rfl) (h 2 rfl) hK ba bb bc (hTab.kept g (by simp)),
  fun σ W g h hb=>toZ (D5 W _ _ (8*K+5) (h 3 rfl) (by omega) (ba.cross bb bc).1) rfl,
  trivial⟩ fun τ W g h=>⟨congrArg Ending.returned (h 4 rfl),g⟩
theorem POn_any (w:World) (va vb:Value) (a b p:Pq) (K:Nat) (Ha:SgV w va a b) (Hb:PtV w vb p) (hK : 1<=K/\K<=10000) (ba:Bp K a) (bb:Bp K b) (bp:Bp K p) (hTab:Tab w) :
 Calls Tryd.prog 39 #[va,vb] w (RetB w (dec (InS a b p))):=by
 rcases (show ¬ ple (lo a b) p\/(ple (lo a b) p /\ ¬ ple p (hi a b))\/(ple (lo a b) p/\ple p (hi a b)/\A3 a b p≠0)\/(ple (lo a b) p/\ple p (hi a b)/\A3 a b p=0) by grind) with h1 | ⟨h1,h2⟩ | ⟨h1,h2,h3⟩ | ⟨h1,h2,h3⟩
 · skip
   rw [V9 (fun q=>h1 (ins_prog.1 q).1)]
   refine A6 B3 Tryd.func39 [sSg a b,sPt p] [sPP (lo a b) (hi a b),sZ (H6 (lo a b) p),sV (.bool false)] (.cons Ha (.cons Hb .nil)) (rs:=[cl 2 69 [ag 16 0],cl 3 48 [ag 8 2,ag 8 1],co 4 (.binOp .leq 3 (.tmp 14) (.const (.int .i64 0)) 3) 4 [on 3,.v false [.lit (.int .i64 0)]] [0,1,2,3] []]) (out := .v false [.lit (.bool false)]) (nc:=5) (by kernel_rfl)
    ⟨fun σ W g h hb=>aQ (J0 W _ a b K (h 0 rfl) hK ba bb),
    fun σ W g h hb=>toZ (D6 W _ _ (lo a b) p K (pp1 (h 2 rfl)) (h 1 rfl) (by omega) (ba.lo bb) bp) rfl,
    fun σ W g h hb=>fun ρ o ho _ hv=>⟨_,aD false ho ((A1 hv).1.trans (h 3 rfl)) (A1 hv).2 (decide_eq_false (fun q=>h1 (pcmp_le.1 q))),rfl⟩,
    trivial⟩ fun τ W g h=>⟨rfl,g⟩
 · skip
   rw [V9 (fun q=>h2 (ins_prog.1 q).2.1)]
   refine A6 B3 Tryd.func39 [sSg a b,sPt p] [sPP (lo a b) (hi a b),sZ (H6 (lo a b) p),sV (.bool true),sZ (H6 p (hi a b)),sV (.bool false)] (.cons Ha (.cons Hb .nil)) (rs:=[cl 2 69 [ag 16 0],cl 3 48 [ag 8 2,ag 8 1],co 4 (.binOp .leq 3 (.tmp 14) (.const (.int .i64 0)) 3) 4 [on 3,.v false [.lit (.int .i64 0)]] [0,1,2,3] [],cl 5 48 [ag 8 1,.v true [.an 2 8,.an 2 9,.an 2 10,.an 2 11,.an 2 12,.an 2 13,.an 2 14,.an 2 15]],co 6 (.binOp .leq 3 (.tmp 19) (.const (.int .i64 0)) 3) 4 [on 5,.v false [.lit (.int .i64 0)]] [0,1,2,3,4,5] []]) (out := .v false [.lit (.bool false)]) (nc:=7) (by kernel_rfl)
    ⟨fun σ W g h hb=>aQ (J0 W _ a b K (h 0 rfl) hK ba bb),
    fun σ W g h hb=>toZ (D6 W _ _ (lo a b) p K (pp1 (h 2 rfl)) (h 1 rfl) (by omega) (ba.lo bb) bp) rfl,
    fun σ W g h hb=>fun ρ o ho _ hv=>⟨_,aD true ho ((A1 hv).1.trans (h 3 rfl)) (A1 hv).2 (decide_eq_true (pcmp_le.2 h1)),rfl⟩,
    fun σ W g h hb=>toZ (D6 W _ _ p (hi a b) K (h 1 rfl) (pp2 (h 2 rfl)) (by omega) bp (ba.hi bb)) rfl,
    fun σ W g h hb=>fun ρ o ho _ hv=>⟨_,aD false ho ((A1 hv).1.trans (h 5 rfl)) (A1 hv).2 (decide_eq_false (fun q=>h2 (pcmp_le.1 q))),rfl⟩,
    trivial⟩ fun τ W g h=>⟨rfl,g⟩
 · skip
   rw [V9 (fun q=>h3 (ins_prog.1 q).2.2)]
   refine A6 B3 Tryd.func39 [sSg a b,sPt p] [sPP (lo a b) (hi a b),sZ (H6 (lo a b) p),sV (.bool true),sZ (H6 p (hi a b)),sV (.bool true),sZ (rsg (A3 a b p)),sV (.bool false)] (.cons Ha (.cons Hb .nil)) (rs:=[cl 2 69 [ag 16 0],cl 3 48 [ag 8 2,ag 8 1],co 4 (.binOp .leq 3 (.tmp 14) (.const (.int .i64 0)) 3) 4 [on 3,.v false [.lit (.int .i64 0)]] [0,1,2,3] [],cl 5 48 [ag 8 1,.v true [.an 2 8,.an 2 9,.an 2 10,.an 2 11,.an 2 12,.an 2 13,.an 2 14,.an 2 15]],co 6 (.binOp .leq 3 (.tmp 19) (.const (.int .i64 0)) 3) 4 [on 5,.v false [.lit (.int .i64 0)]] [0,1,2,3,4,5] [],cl 7 70 [ag 8 0,.v true [.an 0 8,.an 0 9,.an 0 10,.an 0 11,.an 0 12,.an 0 13,.an 0 14,.an 0 15],ag 8 1],co 8 (.binOp .eql 3 (.tmp 28) (.const (.int .i64 0)) 3) 4 [on 7,.v false [.lit (.int .i64 0)]] [0,1,2,3,4,5,6,7] []]) (out := .v false [.lit (.bool false)]) (nc:=9) (by kernel_rfl)
    ⟨fun σ W g h hb=>aQ (J0 W _ a b K (h 0 rfl) hK ba bb),
    fun σ W g h hb=>toZ (D6 W _ _ (lo a b) p K (pp1 (h 2 rfl)) (h 1 rfl) (by omega) (ba.lo bb) bp) rfl,
    fun σ W g h hb=>fun ρ o ho _ hv=>⟨_,aD true ho ((A1 hv).1.trans (h 3 rfl)) (A1 hv).2 (decide_eq_true (pcmp_le.2 h1)),rfl⟩,
    fun σ W g h hb=>toZ (D6 W _ _ p (hi a b) K (h 1 rfl) (pp2 (h 2 rfl)) (by omega) bp (ba.hi bb)) rfl,
    fun σ W g h hb=>fun ρ o ho _ hv=>⟨_,aD true ho ((A1 hv).1.trans (h 5 rfl)) (A1 hv).2 (decide_eq_true (pcmp_le.2 h2)),rfl⟩,
    fun σ W g h hb=>toZ (dA W _ _ _ a b p K (sg1 (h 0 rfl)) (sg2 (h 0 rfl)) (h 1 rfl) hK.2 ba bb bp (hTab.kept g (by simp))) rfl,
    fun σ W g h hb=>fun ρ o ho _ hv=>⟨_,C8 false ho ((A1 hv).1.trans (h 7 rfl)) (A1 hv).2 (decide_eq_false (fun q=>h3 (rsg_zero.1 q))),rfl⟩,
    trivial⟩ fun τ W g h=>⟨rfl,g⟩
 · skip
   rw [mN (ins_prog.2 ⟨h1,h2,h3⟩)]
   refine A6 B3 Tryd.func39 [sSg a b,sPt p] [sPP (lo a b) (hi a b),sZ (H6 (lo a b) p),sV (.bool true),sZ (H6 p (hi a b)),sV (.bool true),sZ (rsg (A3 a b p)),sV (.bool true)] (.cons Ha (.cons Hb .nil)) (rs:=[cl 2 69 [ag 16 0],cl 3 48 [ag 8 2,ag 8 1],co 4 (.binOp .leq 3 (.tmp 14) (.const (.int .i64 0)) 3) 4 [on 3,.v false [.lit (.int .i64 0)]] [0,1,2,3] [],cl 5 48 [ag 8 1,.v true [.an 2 8,.an 2 9,.an 2 10,.an 2 11,.an 2 12,.an 2 13,.an 2 14,.an 2 15]],co 6 (.binOp .leq 3 (.tmp 19) (.const (.int .i64 0)) 3) 4 [on 5,.v false [.lit (.int .i64 0)]] [0,1,2,3,4,5] [],cl 7 70 [ag 8 0,.v true [.an 0 8,.an 0 9,.an 0 10,.an 0 11,.an 0 12,.an 0 13,.an 0 14,.an 0 15],ag 8 1],co 8 (.binOp .eql 3 (.tmp 28) (.const (.int .i64 0)) 3) 4 [on 7,.v false [.lit (.int .i64 0)]] [0,1,2,3,4,5,6,7] []]) (out := .v false [.lit (.bool true)]) (nc:=9) (by kernel_rfl)
    ⟨fun σ W g h hb=>aQ (J0 W _ a b K (h 0 rfl) hK ba bb),
    fun σ W g h hb=>toZ (D6 W _ _ (lo a b) p K (pp1 (h 2 rfl)) (h 1 rfl) (by omega) (ba.lo bb) bp) rfl,
    fun σ W g h hb=>fun ρ o ho _ hv=>⟨_,aD true ho ((A1 hv).1.trans (h 3 rfl)) (A1 hv).2 (decide_eq_true (pcmp_le.2 h1)),rfl⟩,
    fun σ W g h hb=>toZ (D6 W _ _ p (hi a b) K (h 1 rfl) (pp2 (h 2 rfl)) (by omega) bp (ba.hi bb)) rfl,
    fun σ W g h hb=>fun ρ o ho _ hv=>⟨_,aD true ho ((A1 hv).1.trans (h 5 rfl)) (A1 hv).2 (decide_eq_true (pcmp_le.2 h2)),rfl⟩,
    fun σ W g h hb=>toZ (dA W _ _ _ a b p K (sg1 (h 0 rfl)) (sg2 (h 0 rfl)) (h 1 rfl) hK.2 ba bb bp (hTab.kept g (by simp))) rfl,
    fun σ W g h hb=>fun ρ o ho _ hv=>⟨_,C8 true ho ((A1 hv).1.trans (h 7 rfl)) (A1 hv).2 (decide_eq_true (rsg_zero.2 h3)),rfl⟩,
    trivial⟩ fun τ W g h=>⟨rfl,g⟩
end Go.Proofs.YtamdnbbgpacfkaaDoor
namespace Go.Proofs.YtamdnbbgpacfkaaDoor
open Go.RowKit Mat Ex
def sR (z:Int):Sp := .of (.agg 2) (fun v W=>RIntV W v z) (fun v W h=>by
 obtain ⟨g,s,l,c,rfl,_⟩:=h
 exact ⟨D7 [.int .i64 g,.slice s l c],B4 (by simp [Value.oneCell']),rfl⟩) (fun v W W' k h=>h.keeps k)
section
variable {P:Program} {f:FuncId} {args:Array Value} {W:World}
end
end Go.Proofs.YtamdnbbgpacfkaaDoor
namespace Go.Proofs.YtamdnbbgpacfkaaDoor
open Go.RowKit Mat Ex PM
def sH (p:H3):Sp := .of (.agg 6) (fun v W=>HV W v p) (fun v W h=>by
 have h0:=h
 obtain ⟨a,b,c,d,e,f,rfl,_⟩:=h
 exact ⟨D7 [a,b,c,d,e,f],B4 h0.one,rfl⟩) (fun v W W' k h=>h.keeps k)
theorem mkh {W:World} {a b c d e f:Value} {p:H3} (h1:RIntV W (.agg #[a,b]) p.x) (h2:RIntV W (.agg #[c,d]) p.y) (h3:RIntV W (.agg #[e,f]) p.z):HV W (.agg #[a,b,c,d,e,f]) p:=⟨_,_,_,_,_,_,rfl,h1,h2,h3⟩
def RetH (w:World) (p:H3) (e:Ending) (w':World):Prop:=∃ v,e = .returned v/\HV w' v p/\w.grownBy w' none
section
variable {P:Program} {ρ : Operand->Value} {o:Oper} {W:World}
end
theorem rHOf_any (w:World) (x y:Int) (h1 : -9223372036854775808<=x) (h2:x<=9223372036854775807) (h3 : -9223372036854775808<=y) (h4:y<=9223372036854775807) :
 Calls Tryd.prog 36 #[.int .i64 x,.int .i64 y] w (RetH w ⟨x,y,1⟩):=by
 refine A6 B3 Tryd.func36 [sZ x,sZ y] [sR x,sR y,sR 1] (.cons rfl (.cons rfl .nil)) (rs:=[cl 2 67 [on 0],cl 3 67 [on 1],cl 4 67 [.v false [.lit (.int .i64 1)]]]) (out := .v true [.an 2 0,.an 2 1,.an 3 0,.an 3 1,.an 4 0,.an 4 1]) (nc:=5) (by kernel_rfl)
  ⟨fun σ W g h hb=>arg1 (h 0 rfl) (lE W x h1 h2),
  fun σ W g h hb=>arg1 (h 1 rfl) (lE W y h3 h4),
  fun σ W g h hb=>lE W 1 (by omega) (by omega),
  trivial⟩ fun τ W g h=>⟨_,rfl,mkh (h 2 rfl) (h 3 rfl) (h 4 rfl),g⟩
theorem hr_lt {ρ : Operand->Value} {o:Oper} {t t':TypeId} {x y:Operand} {a b:Int} {n m:Nat} {W:World} (ho:o.op = .binOp .lss t x y t') (hx : ρ x = .int .i64 a) (hy : ρ y = .int .i64 b) (ha:a=n) (hb:b=m) :
 (execOp ρ o).run Tryd.prog W = .ok (.value (.bool (decide (n<m)))) W:=by
 have h:binOp .lss t (.int .i64 a) (.int .i64 b) = .pure (.bool (decide (a<b))):=rfl
 rw [B7 ho hx hy h,show decide (a<b)=decide (n<m) by subst ha hb;exact decide_eq_decide.2 (by omega)]
theorem Rdo.keepsU {W W':World} {sa:Option Addr} {xs:List Nat} (h:Rdo W sa xs) (k:Keeps M9 W W'):Rdo W' sa xs:=by
 rcases h with h | ⟨b,off,cs,e,h1,h2⟩
 · exact Or.inl h
 · exact Or.inr ⟨b,off,cs,e,k b cs _ _ rfl h1,h2⟩
theorem NatV.keepsU {W W':World} {v:Value} {n:Nat} (h:NatV W v n) (k:Keeps M9 W W'):NatV W' v n:=by
 obtain ⟨sa,xs,e,h1,h2⟩:=h
 exact ⟨sa,xs,e,⟨h1.rd.keepsU k,h1.nil,h1.top,h1.dig⟩,h2⟩
theorem IntV.keepsU {W W':World} {v:Value} {z:Int} (h:IntV W v z) (k:Keeps M9 W W'):IntV W' v z:=by
 obtain ⟨sa,xs,b,e,h1,h2⟩:=h
 exact ⟨sa,xs,b,e,⟨h1.rd.keepsU k,h1.nil,h1.top,h1.dig⟩,h2⟩
theorem RatV.keepsU {W W':World} {v:Value} {r:Rat} (h:RatV W v r) (k:Keeps M9 W W'):RatV W' v r:=by
 obtain ⟨s,xs,b,s',xs',b',e,h1,h2⟩:=h
 exact ⟨s,xs,b,s',xs',b',e,h1.keepsU k,h2.keepsU k⟩
theorem PtV.keepsU {W W':World} {v:Value} {p:Pq} (h:PtV W v p) (k:Keeps M9 W W'):PtV W' v p:=by
 obtain ⟨a,b,c,d,e,f,g,i,e1,h1,h2⟩:=h
 exact ⟨a,b,c,d,e,f,g,i,e1,h1.keepsU k,h2.keepsU k⟩
theorem SgV.keepsU {W W':World} {v:Value} {p q:Pq} (h:SgV W v p q) (k:Keeps M9 W W'):SgV W' v p q:=by
 obtain ⟨a,b,c,d,e,f,g,i,a',b',c',d',e',f',g',i',e1,h1,h2⟩:=h
 exact ⟨a,b,c,d,e,f,g,i,a',b',c',d',e',f',g',i',e1,h1.keepsU k,h2.keepsU k⟩
def uPt (p:Pq):Su:=Sp.u (sPt p) fun _ _ _ k h=>h.keepsU k
def uZ (z:Int):Su:=Sp.u (sZ z) fun _ _ _ _ h=>h
end Go.Proofs.YtamdnbbgpacfkaaDoor
