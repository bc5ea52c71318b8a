/- What the laws lean on, part 7. -/
import Derived.BigQuiet
import Derived.BigRegion
import Derived.Deep.AppendLies
import Derived.Deep.CutBlock
import Derived.Deep.CutRange
import Derived.Deep.DeepCutAuto
import Derived.Deep.LoopGhost
import Derived.Deep.QuietTactic
import Derived.Deep.RegionHeld3
import Derived.Laws.CopyOwn
import Derived.Laws.Externs
import Derived.Laws.IdiomStrings
import Derived.Lib.BitFns
import Derived.Lib.Hide
import Derived.Lib.Slices
import Derived.Lib.Small
import Derived.Lib.Strings
import Derived.Lib.Walk
import Derived.Outline
import Derived.OwnWalk
import Derived.Shelf.Bits.Mul64
import Derived.StillTailTactics
import Derived.WalkKit
import Derived.WalkLawsBesides
import Derived.WalkSpells
import Derived.Test.YtdgdmicbbfoghaaGreatDoorProg
import Derived.Test.YtdgdmicbbfoghaaGreatDoorMg6
set_option linter.unusedVariables false
set_option linter.unusedSimpArgs false
set_option maxRecDepth 100000
namespace Go.Proofs.YtdgdmicbbfoghaaGreatDoor
open Go.RowKit Mat
def D:Nat:=10000
theorem mS : 0<D:=by unfold D;omega
def iv (x:Nat):Value := .int .i64 (x:Int)
def RAt (cs:Array Value) (off:Nat) (xs:List Nat):Prop:=∀ i (h:i<xs.length),cs[off+i]?=some (iv xs[i])
def RBlk (w:World) (b:Nat) (cs:Array Value):Prop:=w.heap[b]?=some (.cells cs 3 (0,0))
theorem RBlk.cell {w:World} {b:Nat} {cs:Array Value} (h:RBlk w b cs) (o:Nat):w.cell? ⟨b,o,none⟩=cs[o]?:=by
 unfold RBlk at h;simp [World.cell?,h]
theorem RBlk.frozen {w:World} {b:Nat} {cs:Array Value} (h:RBlk w b cs) (o:Nat):w.frozen? ⟨b,o,none⟩=false:=by
 unfold RBlk at h;simp [World.frozen?,h]
theorem RBlk.lt {w:World} {b:Nat} {cs:Array Value} (h:RBlk w b cs):b<w.heap.size:=(Array.getElem?_eq_some_iff.1 h).1
theorem RBlk.kept {w w':World} {b:Nat} {cs:Array Value} {row:Option Nat} (h:RBlk w b cs) (hg:w.grownBy w' row) (hr:some b≠row):RBlk w' b cs:=(hg.block b h.lt hr).trans h
theorem RAt.take {cs:Array Value} {off:Nat} {xs:List Nat} (h:RAt cs off xs) (k:Nat):RAt cs off (xs.take k):=by
 intro i hi
 rw [List.length_take] at hi
 rw [h i (by omega),List.getElem_take]
def RRdo (w:World) (s:Option Addr) (xs:List Nat):Prop:=xs=[] \/ ∃ (b off:Nat) (cs:Array Value),s=some ⟨b,off,none⟩/\RBlk w b cs/\RAt cs off xs
theorem RRdo.kept {w w':World} {s:Option Addr} {xs:List Nat} (h:RRdo w s xs) (hg:w.grownBy w' none):RRdo w' s xs:=by
 rcases h with h | ⟨b,off,cs,e,h1,h2⟩
 · exact Or.inl h
 · exact Or.inr ⟨b,off,cs,e,h1.kept hg (by simp),h2⟩
theorem RRdo.take {w:World} {s:Option Addr} {xs:List Nat} (h:RRdo w s xs) (k:Nat):RRdo w s (xs.take k):=by
 rcases h with h | ⟨b,off,cs,e,h1,h2⟩
 · exact Or.inl (by rw [h];simp)
 · exact Or.inr ⟨b,off,cs,e,h1,h2.take k⟩
theorem RRdo.get {w:World} {s:Option Addr} {xs:List Nat} (h:RRdo w s xs) (k:Nat) (hk:k<xs.length):∃ (b off:Nat) (cs:Array Value),s=some ⟨b,off,none⟩/\RBlk w b cs/\RAt cs off xs:=by
 rcases h with h | h
 · rw [h] at hk;simp at hk
 · exact h
def RefV (w:World) (v:Value) (n:Nat):Prop:=∃ (s:Option Addr) (k cap:Nat) (xs:List Nat),v = .agg #[.slice s k cap]/\xs.length=k/\k<=cap/\RRdo w s xs/\Top xs/\Dig D xs/\val D xs=n
theorem RefV.kept {w w':World} {v:Value} {n:Nat} (h:RefV w v n) (hg:w.grownBy w' none):RefV w' v n:=by
 obtain ⟨s,k,cap,xs,e,h1,h2,h3,h4⟩:=h
 exact ⟨s,k,cap,xs,e,h1,h2,h3.kept hg,h4⟩
def iQ (w:World) (n:Nat) (e:Ending) (w':World):Prop:=∃ v,e = .returned v/\RefV w' v n/\w.grownBy w' none
theorem RRdo.set_other {w:World} {s:Option Addr} {xs:List Nat} {g:Nat} {c:Array Value} {t:TypeId} (h:RRdo w s xs) (hbox:w.heap[g]?=some (.cells c t (0,0))) (ht:t≠3) (o:Nat) (u:Value):RRdo (w.setCell ⟨g,o,none⟩ u) s xs:=by
 rcases h with h | ⟨b,off,cs,e,h1,h2⟩
 · exact Or.inl h
 · refine Or.inr ⟨b,off,cs,e,(Below.heap_setCell _ _ _ _ ?_).trans h1,h2⟩
   intro e2
   simp only at e2
   unfold RBlk at h1
   subst e2
   rw [hbox] at h1
   simp at h1
   exact ht h1.2
set_option maxHeartbeats 2000000 in
theorem rcut_any (w:World) (s:Option Addr) (n cap:Nat) (xs:List Nat) (hn:xs.length=n) (hx:RRdo w s xs) (hnc:n<=cap) (bn:n<=1099511627776) (dx:Dig D xs) :
 Calls Tryz.prog 156 #[.slice s n cap] w (iQ w (val D xs)):=by
 have Hn:=Lib.hid hn
 have hgw0:=World.grownBy_alloc w (.cells #[.slice none 0 0] 53) none
 have hbox0:=A4 w (.cells #[.slice none 0 0] 53) w.heap.size rfl
 obtain ⟨cb,fb⟩:=A7 hbox0
 have hx0:=hx.kept hgw0
 clear hn
 go_enter Tryz.func156,Tryz.ntmps156
 go_wp2_with fail
 generalize (w.alloc (.cells #[.slice none 0 0] 53))=w0 at *
 go_loopw [3] (fun i wr=>∃ (k:Nat),k<=n/\i = .int .i64 k/\w0=wr/\Hid (val D (xs.take k)=val D xs)) (fun i _=>(intOf i).toNat)
 case atStart=>exact ⟨n,Nat.le_refl _,rfl,rfl,by show _=_;rw [<- Hn.out,List.take_length]⟩
 case round=>
  obtain ⟨k,hk,rfl,rfl,hv⟩:=hrel
  have hF:Hid (Top (xs.take k)->iQ w (val D xs) (.returned (.agg #[.slice s k cap])) (w0.setCell ⟨w.heap.size,0,none⟩ (.slice s k cap))):=by
   intro ht
   exact ⟨_,rfl,⟨s,k,cap,xs.take k,rfl,by rw [List.length_take,Hn.out];omega,by omega,(hx0.take k).set_other hbox0 (by decide) 0 _,ht,dx.take k,hv.out⟩,B1 hgw0 (B2 (A9 _ _) _ _) (Nat.le_refl _)⟩
  by_cases h0:k=0
  · subst h0
    have hF2:=Lib.hid (hF.out (by intro x hx;simp at hx))
    clear hF
    go_wp2_with fail
    exact bodyPost_ret (v := .agg #[.slice s 0 cap]) (by simp [results,Tryz.results156,go_sem,cb]) rfl hF2.out
  · obtain ⟨j,rfl⟩:∃ j,k=j+1:=⟨k-1,by omega⟩
    clear h0
    obtain ⟨b1,o1,cs1,rfl,hb1,hat1⟩:=hx0.get j (by rw [Hn.out];omega)
    obtain ⟨x,ex⟩:∃ x,xs[j]'(by rw [Hn.out];omega)=x:=⟨_,rfl⟩
    have c1:w0.cell? ⟨b1,o1+j,none⟩=some (.int .i64 (x:Int)):=by
     rw [hb1.cell,hat1 j (by rw [Hn.out];omega),ex];rfl
    have EX:=Lib.hid ex
    clear ex
    by_cases hz:x=0
    · subst hz
      clear hF
      go_wp2_with fail
      go_roundw
      case rel=>exact ⟨j,by omega,by go_num,by trivial,by show _=_;rw [<- hv.out,C0 D xs j (by rw [Hn.out];omega),EX.out];omega⟩
      case measure=>simp [intOf]
    · have t:((x:Int) == 0)=false:=beq_eq_false_iff_ne.2 (by omega)
      have hF2:=Lib.hid (hF.out (top_take xs j (by rw [Hn.out];omega) (by rw [EX.out];exact hz)))
      clear hF
      go_wp2_with fail
      exact bodyPost_ret (v := .agg #[.slice (some ⟨b1,o1,none⟩) (j+1) cap]) (by simp [results,Tryz.results156,go_sem,cb]) rfl hF2.out
theorem Tryz.infoI64:(Tryz.prog.info? 3).map (fun i=>(i.zero,i.size,i.bytes))=some (some (.int .i64 0),1,8):=by kernel_rfl
theorem eE:∃ i,Tryz.prog.info? 3=some i/\i.zero=some (.int .i64 0)/\i.size=1/\i.bytes=8:=by
 obtain ⟨i,hi,he⟩:=Option.map_eq_some_iff.1 Tryz.infoI64
 exact ⟨i,hi,congrArg Prod.fst he,congrArg (fun x=>x.2.1) he,congrArg (fun x=>x.2.2) he⟩
theorem kV {d:Nat} : ∀ u ∈ ([iv d]:List Value),u.oneCell'=true:=by intro u hu;simp at hu;subst hu;rfl
theorem pH {w:World} {base:Nat} {s:Option Addr} {n cap:Nat} {xs:List Nat} (h:w.ownsRow base 3 1 (.slice s n cap) n (xs.map iv)):RRdo w s xs/\n<=cap/\xs.length=n:=by
 obtain ⟨h1,⟨e,h2⟩ | ⟨g,cap',cur,e,hg,hb,hc,hm,hs,ht⟩⟩:=h
 · cases e
   rw [List.length_map] at h1
   exact ⟨Or.inl (List.length_eq_zero_iff.1 (by omega)),by omega,by omega⟩
 · cases e
   rw [List.length_map,Nat.mul_one] at h1
   refine ⟨Or.inr ⟨g,0,cur,rfl,hb,fun i hi=>?_⟩,hc,h1⟩
   have h3:(cur.toList.take (n*1))[i]?=(xs.map iv)[i]?:=by rw [ht]
   rw [Nat.mul_one,List.getElem?_take,if_pos (by omega),Array.getElem?_toList,List.getElem?_map,List.getElem?_eq_getElem hi] at h3
   rw [Nat.zero_add];exact h3
theorem iD {w:World} {base:Nat} {v:Value} {n:Nat} {xs:List Value} {t:TypeId} (h:w.ownsRow base t 1 v n xs) (o:Obj):(w.alloc o).ownsRow base t 1 v n xs:=by
 obtain ⟨h1,h2 | ⟨g,cap',cur,e,hg,hb,hr⟩⟩:=h
 · exact ⟨h1,Or.inl h2⟩
 · exact ⟨h1,Or.inr ⟨g,cap',cur,e,hg,(Below.heap_alloc w o g (Array.getElem?_eq_some_iff.1 hb).1).trans hb,hr⟩⟩
theorem Y9 {w w':World} {base n:Nat} {v:Value} {xs:List Value} {t:TypeId} (h:w.ownsRow base t 1 v n xs) (hg:w.grownBy w' v.ownBlock) (hs:base<=w.heap.size):Below base w w':=by
 obtain ⟨h1,⟨e,_⟩ | ⟨g,cap',cur,e,hg',hb,hr⟩⟩:=h
 · subst e;exact I4 hg hs
 · subst e;exact N7 (g:=g) hg hg' hs
theorem of_bound {v x n k:Nat} (h:v+x*D^k=n) (hx : 0<x) (hn:n<B):k<64:=by
 have h1:D^k<=x*D^k:=Nat.le_mul_of_pos_left _ hx
 have h2 : 2^k<=D^k:=Nat.pow_le_pow_left (by unfold D;omega) k
 rcases Nat.lt_or_ge k 64 with h3 | h3
 · exact h3
 · have : 2^64<=2^k:=Nat.pow_le_pow_right (by omega) h3
   have:B=2^64:=by decide
   omega
theorem of_step {v x p d q:Nat} (hd:x%10000=d) (hq:x / 10000=q):v+p*d+q*(p*D)=v+x*p:=by
 have:=Nat.div_add_mod x 10000
 rw [hd,hq] at this
 rw [<- this]
 unfold D
 grind
theorem nZ {ds:List Nat} {d:Nat} (h:d≠0):Top (ds++[d]):=by
 intro x hx
 rw [List.getLast?_append] at hx
 simp at hx
 omega
set_option maxHeartbeats 4000000 in
theorem uY (w:World) (n:Nat) (hn:n<B) :
 Calls Tryz.prog 118 #[.int .u64 (n:Int)] w (iQ w n):=by
 obtain ⟨i1,hi,hz0,hz1,hz2⟩:=eE
 have HN:=Lib.hid hn
 have hgw0:=World.grownBy_alloc w (.cells #[.slice none 0 0] 53) none
 have hbox0:=A4 w (.cells #[.slice none 0 0] 53) w.heap.size rfl
 have hs0:w.heap.size+1<=(w.alloc (.cells #[.slice none 0 0] 53)).heap.size:=by simp
 go_enter Tryz.func118,Tryz.ntmps118
 go_wp2_with fail
 generalize (w.alloc (.cells #[.slice none 0 0] 53))=w0 at *
 go_loopg [0,3] n (fun gh a b wr=>∃ (x:Nat) (sl:Option Addr) (nl cl:Nat) (ds:List Nat),a = .int .u64 x/\b = .slice sl nl cl/\x<=gh/\Hid (x<B)/\wr.ownsRow (w.heap.size+1) 3 1 (.slice sl nl cl) nl (ds.map iv)/\Hid (ds.length=nl)/\Dig D ds/\Hid (x=0->Top ds)/\Hid (val D ds+x*D^nl=n)/\Below (w.heap.size+1) w0 wr)
 case atStart=>exact ⟨n,none,0,0,[],rfl,rfl,Nat.le_refl _,HN,⟨rfl,Or.inl ⟨rfl,rfl⟩⟩,rfl,Dig.nil _,fun _ x hx=>by simp at hx,by show _=_;simp [val],Below.refl _ _⟩
 case round=>
  obtain ⟨x,sl,nl,cl,ds,rfl,rfl,hgh,hxB,hown,hdl,hdd,htp,hv,hbl⟩:=hrel
  by_cases h0:x=0
  · subst h0
    obtain ⟨hrd,hcap,_⟩:=pH hown
    have hbox:=P1 hbl hbox0 (by omega)
    obtain ⟨cb,fb⟩:=A7 hbox
    have hF:Hid (iQ w n (.returned (.agg #[.slice sl nl cl])) (wr.setCell ⟨w.heap.size,0,none⟩ (.slice sl nl cl))):=
     ⟨_,rfl,⟨sl,nl,cl,ds,rfl,hdl.out,hcap,hrd.set_other hbox (by decide) 0 _,htp.out rfl,hdd,by have:=hv.out;omega⟩,B1 (H8 hgw0 hbl (by omega)) (B2 (A9 _ _) _ _) (Nat.le_refl _)⟩
    clear hown hbl hbox hv htp
    go_wp2_with fail
    exact bodyPost_ret (v := .agg #[.slice sl nl cl]) (by simp [results,Tryz.results118,go_sem,cb]) rfl hF.out
  · have f1:decide ((0:Int)<(x:Int))=true:=decide_eq_true (by omega)
    have hk:=of_bound hv.out (by omega) HN.out
    obtain ⟨d,hd⟩:∃ d,x%10000=d:=⟨_,rfl⟩
    obtain ⟨q,hq⟩:∃ q,x / 10000=q:=⟨_,rfl⟩
    have hd1:d<10000:=by omega
    have hqx:q<x:=by omega
    have e1:(x:Int)%10000=(d:Int):=by omega
    have e2:(x:Int) / 10000=(q:Int):=by omega
    have hqB:Hid (q<B):=Nat.lt_trans hqx hxB.out
    have htp2:Hid (q=0->Top (ds++[d])):=fun e=>nZ (by omega)
    have hvn:Hid (val D (ds++[d])+q*D^(nl+1)=n):=by
     show _=_
     rw [F8,hdl.out,Nat.pow_succ,of_step hd hq];exact hv.out
    have hownA:=iD hown (.cells #[iv d] 3)
    have hnews:∀ j u,([iv d]:List Value)[j]?=some u->(wr.alloc (.cells #[iv d] 3)).cell? ((⟨wr.heap.size,0,none⟩:Addr).add j)=some u:=World.news_of_block (heap_alloc_new wr _)
    have hsr:w.heap.size+1<=wr.heap.size:=by have:=hbl.size;omega
    have hsi:w.heap.size+1<=(wr.alloc (.cells #[iv d] 3)).heap.size:=by simp;omega
    have hblA:Below (w.heap.size+1) w0 (wr.alloc (.cells #[iv d] 3)):=hbl.trans (I4 (World.grownBy_alloc _ _ _) hsr)
    clear hd hq hown hbl htp hv
    go_wp2_with (at_builtin;refine wpList_append_lies _ rfl _ _ _ rfl (w.heap.size+1) 3 i1 (.int .i64 0) 1 8 Tryz.underlying22 hi hz0 hz1 hz2 rfl (by omega) (.slice sl nl cl) nl (ds.map iv) rfl hownA ⟨wr.heap.size,0,none⟩ 1 1 [iv d] rfl rfl hnews kV (by omega) (by unfold maxLen;omega) (by omega) hsi (wr.heap.size+1) (by simp) ?_;intro g2 cap2 w5 hown5 hgrow hat9 hlt9)
    have hbl5:=hblA.trans (Y9 hownA hgrow hsi)
    have hmap:ds.map iv++[iv d]=(ds++[d]).map iv:=by rw [List.map_append];rfl
    rw [hmap] at hown5
    have hl5:Hid ((ds++[d]).length=nl+1):=by show _=_;rw [List.length_append,hdl.out];rfl
    clear hgrow hownA hnews hblA hmap
    go_roundg q
    case measure=>omega
    case rel=>exact ⟨q,_,nl+1,cap2,ds++[d],(by first | rfl | rw [Mul64.wrapN q hqB.out]),rfl,Nat.le_refl _,hqB,hown5,hl5,hdd.snoc hd1,htp2,hvn,hbl5⟩
theorem rlen {xs:List Nat} {n K:Nat} (ht:Top xs) (hn:xs.length=n) (h:val D xs<D^K):n<=K:=by
 rcases Nat.lt_or_ge K n with h1 | h1
 · have h2:=kM D xs (by rintro rfl;simp at hn;omega) ht
   have h3:D^K<=D^(xs.length-1):=Nat.pow_le_pow_right mS (by omega)
   omega
 · exact h1
theorem radd_step {v c x y p d q s:Nat} (h:v+c*p=s) (hd:(c+x+y)%10000=d) (hq:(c+x+y) / 10000=q):v+p*d+q*(p*D)=s+p*x+p*y:=by
 have:=Nat.div_add_mod (c+x+y) 10000
 rw [hd,hq] at this
 rw [<- h]
 have h2:p*d+q*(p*D)=p*(c+x+y):=by rw [<- this];unfold D;grind
 have h3:p*(c+x+y)=c*p+p*x+p*y:=by grind
 omega
theorem sK (xs:List Nat) (k:Nat):val D (xs.take (k+1))=val D (xs.take k)+D^k*xs.getD k 0:=by
 rcases Nat.lt_or_ge k xs.length with h | h
 · rw [C0 D xs k h,List.getD_eq_getElem?_getD,List.getElem?_eq_getElem h];rfl
 · rw [List.take_of_length_le (by omega),List.take_of_length_le (by omega),List.getD_eq_getElem?_getD,List.getElem?_eq_none (by omega)];simp
theorem getD_top {xs:List Nat} {k:Nat} (ht:Top xs) (h:xs.length=k+1):xs.getD k 0≠0:=by
 rw [List.getD_eq_getElem?_getD,List.getElem?_eq_getElem (by omega)]
 refine ht _ ?_
 have e:xs.length-1=k:=by omega
 rw [List.getLast?_eq_getElem?,e,List.getElem?_eq_getElem (by omega)];rfl
theorem getD_lt {xs:List Nat} (hd:Dig D xs) (k:Nat):xs.getD k 0<10000:=hd.getD mS k
theorem getD_out {xs:List Nat} {k n:Nat} (hn:xs.length=n) (h:n<=k):xs.getD k 0=0:=by
 rw [List.getD_eq_getElem?_getD,List.getElem?_eq_none (by omega)];rfl
theorem rcell {w:World} {s:Option Addr} {xs:List Nat} {n:Nat} (h:RRdo w s xs) (hn:xs.length=n) (k:Nat) (hk:k<n):∃ b o,s=some ⟨b,o,none⟩/\w.cell? ⟨b,o+k,none⟩=some (.int .i64 (xs.getD k 0:Int)):=by
 obtain ⟨b,o,cs,e,h1,h2⟩:=h.get k (by omega)
 refine ⟨b,o,e, ?_⟩
 rw [h1.cell,h2 k (by omega),List.getD_eq_getElem?_getD,List.getElem?_eq_getElem (by omega)];rfl
theorem RRdo.below {w w':World} {N:Nat} {s:Option Addr} {xs:List Nat} (h:RRdo w s xs) (hb:Below N w w') (hN:w.heap.size<=N):RRdo w' s xs:=by
 rcases h with h | ⟨b,off,cs,e,h1,h2⟩
 · exact Or.inl h
 · exact Or.inr ⟨b,off,cs,e,(hb.block b (Nat.lt_of_lt_of_le h1.lt hN)).trans h1,h2⟩
set_option maxHeartbeats 8000000 in
theorem rAdd_any (w:World) (va vb:Value) (a b:Nat) (ha:RefV w va a) (hb:RefV w vb b) (ba:a<D^1000000) (bb:b<D^1000000) :
 Calls Tryz.prog 117 #[va,vb] w (iQ w (a+b)):=by
 obtain ⟨sa,n,cx,xs,rfl,hn,hnc,hx,tx,dx,rfl⟩:=ha
 obtain ⟨sb,m,cy,ys,rfl,hm,hmc,hy,ty,dy,rfl⟩:=hb
 have Hn:=Lib.hid hn
 have Hm:=Lib.hid hm
 have hn6:n<=1000000:=rlen tx hn ba
 have hm6:m<=1000000:=rlen ty hm bb
 obtain ⟨i1,hi,hz0,hz1,hz2⟩:=eE
 have hgw0:w.grownBy (((w.alloc (.cells #[.slice sa n cx] 53)).alloc (.cells #[.slice sb m cy] 53)).alloc (.cells #[.slice none 0 0] 53)) none:=A8 (A8 (World.grownBy_alloc _ _ _) _) _
 have hboxr:=A4 ((w.alloc (.cells #[.slice sa n cx] 53)).alloc (.cells #[.slice sb m cy] 53)) (.cells #[.slice none 0 0] 53) (w.heap.size+1+1) (by simp)
 have hboxb:=(Below.heap_alloc _ (.cells #[.slice none 0 0] 53) (w.heap.size+1) (by simp)).trans (A4 (w.alloc (.cells #[.slice sa n cx] 53)) (.cells #[.slice sb m cy] 53) (w.heap.size+1) (by simp))
 have hboxa:=((Below.heap_alloc _ (.cells #[.slice none 0 0] 53) w.heap.size (by simp;omega)).trans (Below.heap_alloc _ (.cells #[.slice sb m cy] 53) w.heap.size (by simp))).trans (A4 w (.cells #[.slice sa n cx] 53) w.heap.size rfl)
 have hs0:(((w.alloc (.cells #[.slice sa n cx] 53)).alloc (.cells #[.slice sb m cy] 53)).alloc (.cells #[.slice none 0 0] 53)).heap.size=w.heap.size+1+1+1:=by simp
 obtain ⟨N,hN⟩:∃ N,N=w.heap.size+1+1+1:=⟨_,rfl⟩
 have hx0:=hx.kept hgw0
 have hy0:=hy.kept hgw0
 clear hn hm ba bb hx hy
 go_enter Tryz.func117,Tryz.ntmps117
 go_wp2_with fail
 generalize (((w.alloc (.cells #[.slice sa n cx] 53)).alloc (.cells #[.slice sb m cy] 53)).alloc (.cells #[.slice none 0 0] 53))=w0 at *
 go_loopg [5,6,7] (max n m+1) (fun gh s c i wr=>∃ (k cc:Nat) (sl:Option Addr) (cl:Nat) (ds:List Nat),s = .slice sl k cl/\c = .int .i64 cc/\i = .int .i64 k/\cc<=1/\k<=max n m+1/\(k=max n m+1->cc=0)/\max n m+1-k<=gh/\wr.ownsRow N 3 1 (.slice sl k cl) k (ds.map iv)/\Hid (ds.length=k)/\Dig D ds/\Hid (n<=k->m<=k->cc=0->Top ds)/\Hid (val D ds+cc*D^k=val D (xs.take k)+val D (ys.take k))/\Below N w0 wr)
 case atStart=>exact ⟨0,0,none,0,[],rfl,rfl,rfl,by omega,by omega,by omega,by omega,⟨rfl,Or.inl ⟨rfl,rfl⟩⟩,rfl,Dig.nil _,fun _ _ _ x hx=>by simp at hx,by show _=_;simp [val],Below.refl _ _⟩
 case round=>
  obtain ⟨k,cc,sl,cl,ds,rfl,rfl,rfl,hc1,hkm,hkc,hgh,hown,hdl,hdd,htp,hv,hbl⟩:=hrel
  obtain ⟨ca,fa⟩:=A7 (P1 hbl hboxa (by omega))
  obtain ⟨cb,fb⟩:=A7 (P1 hbl hboxb (by omega))
  have hboxr1:=P1 hbl hboxr (by omega)
  obtain ⟨cr,fr⟩:=A7 hboxr1
  have hsr:N<=wr.heap.size:=by have:=hbl.size;omega
  have hxr:RRdo wr sa xs:=hx0.below hbl (by omega)
  have hyr:RRdo wr sb ys:=hy0.below hbl (by omega)
  by_cases hend:n<=k/\m<=k/\cc=0
  · obtain ⟨hnk,hmk,rfl⟩:=hend
    have f1:decide ((k:Int)<(n:Int))=false:=decide_eq_false (by omega)
    have f2:decide ((k:Int)<(m:Int))=false:=decide_eq_false (by omega)
    obtain ⟨hrd,hcap,_⟩:=pH hown
    have hF:Hid (iQ w (val D xs+val D ys) (.returned (.agg #[.slice sl k cl])) (wr.setCell ⟨w.heap.size+1+1,0,none⟩ (.slice sl k cl))):=by
     refine ⟨_,rfl,⟨sl,k,cl,ds,rfl,hdl.out,hcap,hrd.set_other hboxr1 (by decide) 0 _,htp.out hnk hmk rfl,hdd, ?_⟩,B1 (H8 hgw0 hbl (by omega)) (B2 (A9 _ _) _ _) (by omega)⟩
     have:=hv.out
     rw [List.take_of_length_le (by rw [Hn.out];exact hnk),List.take_of_length_le (by rw [Hm.out];exact hmk)] at this
     omega
    clear hown hbl hboxr1 hv htp hxr hyr
    go_wp2_with fail
    exact bodyPost_ret (v := .agg #[.slice sl k cl]) (by simp [results,Tryz.results117,go_sem,cr]) rfl hF.out
  · obtain ⟨x,hxk⟩:∃ x,xs.getD k 0=x:=⟨_,rfl⟩
    obtain ⟨y,hyk⟩:∃ y,ys.getD k 0=y:=⟨_,rfl⟩
    have hx4:x<10000:=hxk ▸ getD_lt dx k
    have hy4:y<10000:=hyk ▸ getD_lt dy k
    obtain ⟨d,hd⟩:∃ d,(cc+x+y)%10000=d:=⟨_,rfl⟩
    obtain ⟨q,hq⟩:∃ q,(cc+x+y) / 10000=q:=⟨_,rfl⟩
    have hvn:Hid (val D (ds++[d])+q*D^(k+1)=val D (xs.take (k+1))+val D (ys.take (k+1))):=by
     show _=_
     rw [F8,hdl.out,Nat.pow_succ,radd_step hv.out hd hq,sK,sK,hxk,hyk];omega
    have hxo:n<=k->x=0:=fun h=>by rw [<- hxk];exact getD_out Hn.out h
    have hyo:m<=k->y=0:=fun h=>by rw [<- hyk];exact getD_out Hm.out h
    have hxt:n=k+1->x≠0:=fun h=>by rw [<- hxk];exact getD_top tx (by rw [Hn.out];exact h)
    have hyt:m=k+1->y≠0:=fun h=>by rw [<- hyk];exact getD_top ty (by rw [Hm.out];exact h)
    have htp2:Hid (n<=k+1->m<=k+1->q=0->Top (ds++[d])):=fun h1 h2 h3=>nZ (by omega)
    have hk2:k<max n m+1:=by omega
    have hk3:k+1=max n m+1->q=0:=by omega
    have hd4:d<10000:=by omega
    have hq1:q<=1:=by omega
    have hownA:=iD hown (.cells #[iv d] 3)
    have hnews:∀ j u,([iv d]:List Value)[j]?=some u->(wr.alloc (.cells #[iv d] 3)).cell? ((⟨wr.heap.size,0,none⟩:Addr).add j)=some u:=World.news_of_block (heap_alloc_new wr _)
    have hsi:N<=(wr.alloc (.cells #[iv d] 3)).heap.size:=by simp;omega
    have hblA:Below N w0 (wr.alloc (.cells #[iv d] 3)):=hbl.trans (I4 (World.grownBy_alloc _ _ _) hsr)
    have HX:=Lib.hid hxk
    have HY:=Lib.hid hyk
    clear hxk hyk hxt hyt hown hbl hv htp hboxr1 hkc
    by_cases hkn:k<n<;>by_cases hkm2:k<m
    ·
     obtain ⟨b1,o1,rfl,c1⟩:=rcell hxr Hn.out k (by omega);rw [HX.out] at c1;have f1:decide ((k:Int)<(n:Int))=true:=decide_eq_true (by omega)
     obtain ⟨b2,o2,rfl,c2⟩:=rcell hyr Hm.out k (by omega);rw [HY.out] at c2;have f2:decide ((k:Int)<(m:Int))=true:=decide_eq_true (by omega)
     have e1:((cc:Int)+(x:Int)+(y:Int))%10000=(d:Int):=by omega
     have e2:((cc:Int)+(x:Int)+(y:Int)) / 10000=(q:Int):=by omega
     clear hd hq hxo hyo
     go_wp2_with (at_builtin;refine wpList_append_lies _ rfl _ _ _ rfl N 3 i1 (.int .i64 0) 1 8 Tryz.underlying22 hi hz0 hz1 hz2 rfl (by omega) (.slice sl k cl) k (ds.map iv) rfl hownA ⟨wr.heap.size,0,none⟩ 1 1 [iv d] rfl rfl hnews kV (by omega) (by unfold maxLen;omega) (by omega) hsi (wr.heap.size+1) (by simp) ?_;intro g2 cap2 w5 hown5 hgrow hat9 hlt9)
     have hbl5:=hblA.trans (Y9 hownA hgrow hsi)
     have hmap:ds.map iv++[iv d]=(ds++[d]).map iv:=by rw [List.map_append];rfl
     rw [hmap] at hown5
     have hl5:Hid ((ds++[d]).length=k+1):=by show _=_;rw [List.length_append,hdl.out];rfl
     clear hgrow hownA hnews hblA hmap
     go_roundg (max n m-k)
     case measure=>omega
     case rel=>exact ⟨k+1,q,_,cap2,ds++[d],rfl,(by first | rfl | rw [e2]),by go_num,hq1,by omega,hk3,by omega,hown5,hl5,hdd.snoc hd4,htp2,hvn,hbl5⟩
    ·
     obtain ⟨b1,o1,rfl,c1⟩:=rcell hxr Hn.out k (by omega);rw [HX.out] at c1;have f1:decide ((k:Int)<(n:Int))=true:=decide_eq_true (by omega)
     have f2:decide ((k:Int)<(m:Int))=false:=decide_eq_false (by omega)
     have y00:=hyo (by omega)
     have e1:((cc:Int)+(x:Int))%10000=(d:Int):=by omega
     have e2:((cc:Int)+(x:Int)) / 10000=(q:Int):=by omega
     clear hd hq hxo hyo
     go_wp2_with (at_builtin;refine wpList_append_lies _ rfl _ _ _ rfl N 3 i1 (.int .i64 0) 1 8 Tryz.underlying22 hi hz0 hz1 hz2 rfl (by omega) (.slice sl k cl) k (ds.map iv) rfl hownA ⟨wr.heap.size,0,none⟩ 1 1 [iv d] rfl rfl hnews kV (by omega) (by unfold maxLen;omega) (by omega) hsi (wr.heap.size+1) (by simp) ?_;intro g2 cap2 w5 hown5 hgrow hat9 hlt9)
     have hbl5:=hblA.trans (Y9 hownA hgrow hsi)
     have hmap:ds.map iv++[iv d]=(ds++[d]).map iv:=by rw [List.map_append];rfl
     rw [hmap] at hown5
     have hl5:Hid ((ds++[d]).length=k+1):=by show _=_;rw [List.length_append,hdl.out];rfl
     clear hgrow hownA hnews hblA hmap
     go_roundg (max n m-k)
     case measure=>omega
     case rel=>exact ⟨k+1,q,_,cap2,ds++[d],rfl,(by first | rfl | rw [e2]),by go_num,hq1,by omega,hk3,by omega,hown5,hl5,hdd.snoc hd4,htp2,hvn,hbl5⟩
    ·
     have f1:decide ((k:Int)<(n:Int))=false:=decide_eq_false (by omega)
     obtain ⟨b2,o2,rfl,c2⟩:=rcell hyr Hm.out k (by omega);rw [HY.out] at c2;have f2:decide ((k:Int)<(m:Int))=true:=decide_eq_true (by omega)
     have x00:=hxo (by omega)
     have e1:((cc:Int)+(y:Int))%10000=(d:Int):=by omega
     have e2:((cc:Int)+(y:Int)) / 10000=(q:Int):=by omega
     clear hd hq hxo hyo
     go_wp2_with (at_builtin;refine wpList_append_lies _ rfl _ _ _ rfl N 3 i1 (.int .i64 0) 1 8 Tryz.underlying22 hi hz0 hz1 hz2 rfl (by omega) (.slice sl k cl) k (ds.map iv) rfl hownA ⟨wr.heap.size,0,none⟩ 1 1 [iv d] rfl rfl hnews kV (by omega) (by unfold maxLen;omega) (by omega) hsi (wr.heap.size+1) (by simp) ?_;intro g2 cap2 w5 hown5 hgrow hat9 hlt9)
     have hbl5:=hblA.trans (Y9 hownA hgrow hsi)
     have hmap:ds.map iv++[iv d]=(ds++[d]).map iv:=by rw [List.map_append];rfl
     rw [hmap] at hown5
     have hl5:Hid ((ds++[d]).length=k+1):=by show _=_;rw [List.length_append,hdl.out];rfl
     clear hgrow hownA hnews hblA hmap
     go_roundg (max n m-k)
     case measure=>omega
     case rel=>exact ⟨k+1,q,_,cap2,ds++[d],rfl,(by first | rfl | rw [e2]),by go_num,hq1,by omega,hk3,by omega,hown5,hl5,hdd.snoc hd4,htp2,hvn,hbl5⟩
    ·
     have f1:decide ((k:Int)<(n:Int))=false:=decide_eq_false (by omega)
     have f2:decide ((k:Int)<(m:Int))=false:=decide_eq_false (by omega)
     have y00:=hyo (by omega)
     have x00:=hxo (by omega)
     obtain rfl:cc=1:=by omega
     subst x00
     subst y00
     obtain rfl:d=1:=by omega
     obtain rfl:q=0:=by omega
     have e0:iv 1 = .int .i64 1:=rfl
     rw [e0] at hownA hnews hblA hsi
     clear hd hq hxo hyo
     go_wp2_with (at_builtin;refine wpList_append_lies _ rfl _ _ _ rfl N 3 i1 (.int .i64 0) 1 8 Tryz.underlying22 hi hz0 hz1 hz2 rfl (by omega) (.slice sl k cl) k (ds.map iv) rfl hownA ⟨wr.heap.size,0,none⟩ 1 1 [Value.int .i64 1] rfl rfl hnews kV (by omega) (by unfold maxLen;omega) (by omega) hsi (wr.heap.size+1) (by simp) ?_;intro g2 cap2 w5 hown5 hgrow hat9 hlt9)
     have hbl5:=hblA.trans (Y9 hownA hgrow hsi)
     have hmap:ds.map iv++[Value.int .i64 1]=(ds++[1]).map iv:=by rw [List.map_append];rfl
     rw [hmap] at hown5
     have hl5:Hid ((ds++[1]).length=k+1):=by show _=_;rw [List.length_append,hdl.out];rfl
     clear hgrow hownA hnews hblA hmap
     go_roundg (max n m-k)
     case measure=>omega
     case rel=>exact ⟨k+1,0,_,cap2,ds++[1],rfl,(by first | rfl | rw [e2]),by go_num,hq1,by omega,fun _=>rfl,by omega,hown5,hl5,hdd.snoc hd4,fun a b _=>(show Top (ds++[1]) from nZ (by omega)),hvn,hbl5⟩
theorem qJ {l:List Nat} (h:∀ k (hk:k<l.length),48<=l[k]/\l[k]<=57):(((l.map (· - 48)).reverse).map (48 + ·)).reverse=l:=by
 rw [List.map_reverse,List.reverse_reverse,List.map_map]
 have:∀ x ∈ l,((48 + ·) ∘ (· - 48)) x=x:=by
  intro x hx
  obtain ⟨k,hk,rfl⟩:=List.getElem_of_mem hx
  have:=h k hk
  simp only [Function.comp];omega
 rw [List.map_congr_left this];simp
theorem vR {l:List Nat} (h:∀ k (hk:k<l.length),48<=l[k]/\l[k]<=57):Dig 10 ((l.map (· - 48)).reverse):=by
 intro x hx
 rw [List.mem_reverse,List.mem_map] at hx
 obtain ⟨y,hy,rfl⟩:=hx
 obtain ⟨k,hk,rfl⟩:=List.getElem_of_mem hy
 have:=h k hk
 omega
theorem jZ {l:List Nat} (h:∀ k (hk:k<l.length),48<=l[k]/\l[k]<=57):G7 l=val 10 ((l.map (· - 48)).reverse):=by
 rw [<- dval_rev,qJ h]
theorem nR {l:List Nat} (h:S9 l) (h0:l≠[48]):Top ((l.map (· - 48)).reverse):=by
 rcases h with ⟨h1,h2 | ⟨h2,h3⟩⟩
 · exact absurd h2 h0
 · intro x hx
   rw [List.getLast?_reverse,List.head?_map] at hx
   cases l with
   | nil=>exact absurd rfl h2
   | cons d t=>
     simp at hx h3
     have:=h1 0 (by simp)
     simp at this
     omega
theorem dec_pos {l:List Nat} (h:S9 l) (h0:l≠[48]) : 0<G7 l:=by
 rw [jZ h.1]
 refine val_pos 10 (by omega) _ ?_ (nR h h0)
 intro e
 have e2:=congrArg List.length e
 simp at e2
 subst e2
 rcases h.2 with h2 | h2
 · simp at h2
 · exact h2.1 rfl
theorem lJ {l m:List Nat} (hl:S9 l) (hm:S9 m) (e:G7 l=G7 m):l=m:=by
 by_cases l0:l=[48]
 · by_cases m0:m=[48]
   · rw [l0,m0]
   · have:=dec_pos hm m0
     rw [<- e,l0] at this
     exact absurd this (by decide)
 · by_cases m0:m=[48]
   · have:=dec_pos hl l0
     rw [e,m0] at this
     exact absurd this (by decide)
   · rw [jZ hl.1,jZ hm.1] at e
     have:=val_uniq 10 (by omega) _ _ (vR hl.1) (vR hm.1) (nR hl l0) (nR hm m0) e
     rw [<- qJ hl.1, <- qJ hm.1,this]
theorem bts_inj {s t:ByteArray} (h:bts s=bts t):s=t:=by
 apply ByteArray.ext
 apply Array.ext'
 unfold bts at h
 exact (List.map_inj_right (fun a b e=>UInt8.toNat_inj.1 e)).1 h
theorem RefV.zero (w:World):RefV w (.agg #[.slice none 0 0]) 0:=⟨none,0,0,[],rfl,rfl,Nat.le_refl _,Or.inl rfl,fun x hx=>by simp at hx,Dig.nil _,rfl⟩
theorem RefV.set_other {w:World} {v:Value} {n g:Nat} {c:Array Value} {t:TypeId} (h:RefV w v n) (hbox:w.heap[g]?=some (.cells c t (0,0))) (ht:t≠3) (o:Nat) (u:Value):RefV (w.setCell ⟨g,o,none⟩ u) v n:=by
 obtain ⟨s,k,cap,xs,e,h1,h2,h3,h4⟩:=h
 exact ⟨s,k,cap,xs,e,h1,h2,h3.set_other hbox ht o u,h4⟩
def U3 (w:World) (n:Nat) (code:Int) (e:Ending) (w':World):Prop:=∃ v,e = .returned (.tuple #[v,.int .i64 code])/\RefV w' v n/\w.grownBy w' none
theorem rretE {w w':World} {v:Value} {n g:Nat} {code:Int} {c:Array Value} {t:TypeId} (hg:w.grownBy w' none) (hbox:w'.heap[g]?=some (.cells c t (0,0))) (ht:t≠3) (hl:w.heap.size<=g) (h:RefV w' v n) (u:Value) :
 U3 w n code (.returned (.tuple #[v,.int .i64 code])) (w'.setCell ⟨g,0,none⟩ u):=⟨v,rfl,h.set_other hbox ht 0 u,B1 hg (B2 (A9 _ _) _ _) hl⟩
theorem rparse_step {l:List Nat} {n e f m k:Nat} (hl:l.length=n) (hfm:f+m=e) (hek:e+4*k=n):G7 (l.drop e)+D^k*G7 ((l.drop f).take m)=G7 (l.drop f):=by
 have h:(l.drop f).take m++l.drop e=l.drop f:=by rw [<- hfm, <- List.drop_drop,List.take_append_drop]
 rw [<- congrArg G7 h,bA,List.length_drop,hl,show n-e=4*k from by omega]
 have:(10:Nat)^(4*k)=D^k:=by rw [Nat.pow_mul];rfl
 rw [this];grind
set_option maxHeartbeats 2000000 in
theorem mE (w:World) (s:ByteArray) (hs : 4096<s.size) :
 Calls Tryz.prog 124 #[.string s] w (U3 w 0 2):=by
 have f1:decide ((4096:Int)<(s.size:Int))=true:=decide_eq_true (by omega)
 go_enter Tryz.func124,Tryz.ntmps124
 go_wp2_with fail
 exact bodyPost_ret (v := .tuple #[.agg #[.slice none 0 0],.int .i64 2]) (by simp [results,Tryz.results124,go_sem]) rfl ⟨_,rfl,RefV.zero _,by repeat (first | exact World.grownBy_alloc _ _ _ | refine A8 ?_ _ | refine B1 (g:=w.heap.size) ?_ (B2 (A9 _ _) _ _) (by omega))⟩
set_option maxHeartbeats 4000000 in
theorem rParse_form (w:World) (s:ByteArray) (hs:s.size<=4096) (hd:¬ S9 (bts s)) :
 Calls Tryz.prog 124 #[.string s] w (U3 w 0 3):=by
 have f1:decide ((4096:Int)<(s.size:Int))=false:=decide_eq_false (by omega)
 have hgw0:=World.grownBy_alloc w (.cells #[.slice none 0 0] 53) none
 have hF:Hid (∀ u,U3 w 0 3 (.returned (.tuple #[.agg #[.slice none 0 0],.int .i64 3])) ((w.alloc (.cells #[.slice none 0 0] 53)).setCell ⟨w.heap.size,0,none⟩ u)):=fun u=>⟨_,rfl,RefV.zero _,B1 hgw0 (B2 (A9 _ _) _ _) (Nat.le_refl _)⟩
 have hF0:Hid (U3 w 0 3 (.returned (.tuple #[.agg #[.slice none 0 0],.int .i64 3])) (w.alloc (.cells #[.slice none 0 0] 53))):=⟨_,rfl,RefV.zero _,hgw0⟩
 obtain ⟨hc0,hf0⟩:=A7 (A4 w (.cells #[.slice none 0 0] 53) w.heap.size rfl)
 rcases Nat.eq_zero_or_pos s.size with h0 | h0
 · have f2:((s.size:Int) == 0)=true:=by rw [h0];rfl
   go_enter Tryz.func124,Tryz.ntmps124
   go_wp2_with fail
   exact bodyPost_ret (v := .tuple #[.agg #[.slice none 0 0],.int .i64 3]) (by simp [results,Tryz.results124,go_sem]) rfl hF0.out
 · have f2:((s.size:Int) == 0)=false:=beq_eq_false_iff_ne.2 (by omega)
   obtain ⟨x,ex⟩:∃ x,(s[0]'h0).toNat=x:=⟨_,rfl⟩
   by_cases hb : 1<s.size/\x=48
   · obtain ⟨hb1,rfl⟩:=hb
     have f3:decide ((1:Int)<(s.size:Int))=true:=decide_eq_true (by omega)
     go_enter Tryz.func124,Tryz.ntmps124
     go_wp2_with fail
     exact bodyPost_ret (v := .tuple #[.agg #[.slice none 0 0],.int .i64 3]) (by simp [results,Tryz.results124,go_sem]) rfl hF0.out
   · have hdec:Hid (¬ ∀ j (h:j<s.size),j<s.size->48<=(s[j]'h).toNat/\(s[j]'h).toNat<=57):=by
      intro h
      refine hd ⟨fun k hk=>?_, ?_⟩
      · have hk':k<s.size:=by rw [C7] at hk;exact hk
        rw [Q7 s k hk'];exact h k hk' hk'
      · by_cases h1:s.size=1
        · have hl:(bts s).length=1:=by rw [C7];exact h1
          obtain ⟨y,hy⟩:=List.length_eq_one_iff.1 hl
          by_cases h48:y=48
          · left;rw [hy,h48]
          · right;rw [hy];simpa using h48
        · right
          refine ⟨fun e=>?_,fun e=>?_⟩
          · have:=C7 s;rw [e] at this;simp at this;omega
          · rw [Q0 s h0,ex] at e
            exact hb ⟨by omega,Option.some.inj e⟩
     have key:decide ((1:Int)<(s.size:Int))=false\/(decide ((1:Int)<(s.size:Int))=true/\((x:Int) == 48)=false):=by
      by_cases h1 : 1<s.size
      · right;exact ⟨decide_eq_true (by omega),beq_eq_false_iff_ne.2 (by omega)⟩
      · left;exact decide_eq_false (by omega)
     clear hb hd
     rcases key with f3 | ⟨f3,f4⟩
     all_goals (
      go_enter Tryz.func124,Tryz.ntmps124
      go_wp2_with fail
      generalize (w.alloc (.cells #[.slice none 0 0] 53))=w0 at *
      go_loopw [4] (fun i wr=>∃ k:Nat,k<=s.size/\i = .int .i64 k/\w0=wr/\Hid (∀ j (h:j<s.size),j<k->48<=(s[j]'h).toNat/\(s[j]'h).toNat<=57)) (fun i _=>s.size-(intOf i).toNat)
      case atStart=>exact ⟨0,Nat.zero_le _,rfl,rfl,fun j h h0=>absurd h0 (by omega)⟩
      case round=>
       obtain ⟨k,hk,rfl,rfl,hd⟩:=hrel
       by_cases hlt:k<s.size
       · obtain ⟨y,ey⟩:∃ y,(s[k]'hlt).toNat=y:=⟨_,rfl⟩
         by_cases hy : 48<=y/\y<=57
         · have f5:decide ((y:Int)<48)=false:=decide_eq_false (by omega)
           have f6:decide ((57:Int)<(y:Int))=false:=decide_eq_false (by omega)
           go_wp2_with fail
           go_roundw
           case rel=>
            refine ⟨k+1,by omega,by go_num,by trivial,fun j h hj=>?_⟩
            rcases Nat.lt_or_ge j k with h1 | h1
            · exact hd.out j h h1
            · obtain rfl:j=k:=by omega
              rw [ey];exact hy
           case measure=>simp [intOf];omega
         · go_wp2_with fail
           all_goals first | exact bodyPost_ret (v := .tuple #[.agg #[.slice none 0 0],.int .i64 3]) (by simp [results,Tryz.results124,go_sem,hc0]) rfl (hF.out _) | (exfalso;omega)
       · obtain rfl:k=s.size:=by omega
         exact absurd hd.out hdec.out)
set_option maxHeartbeats 8000000 in
theorem aV (w:World) (s:ByteArray) (hs:s.size<=4096) (hd:S9 (bts s)) :
 Calls Tryz.prog 124 #[.string s] w (U3 w (G7 (bts s)) 0):=by
 have f1:decide ((4096:Int)<(s.size:Int))=false:=decide_eq_false (by omega)
 obtain ⟨i1,hi,hz0,hz1,hz2⟩:=eE
 have hgw0:=World.grownBy_alloc w (.cells #[.slice none 0 0] 53) none
 have hbox0:=A4 w (.cells #[.slice none 0 0] 53) w.heap.size rfl
 have hs0:(w.alloc (.cells #[.slice none 0 0] 53)).heap.size=w.heap.size+1:=by simp
 have HB:=Lib.hid (C7 s)
 have h0 : 0<s.size:=by
  rcases Nat.eq_zero_or_pos s.size with h | h
  · have h2:=C7 s
    rw [h] at h2
    have h3:=List.length_eq_zero_iff.1 h2
    rcases hd.2 with h4 | h4
    · rw [h3] at h4;simp at h4
    · exact absurd h3 h4.1
  · exact h
 have f2:((s.size:Int) == 0)=false:=beq_eq_false_iff_ne.2 (by omega)
 obtain ⟨x0,ex⟩:∃ x0,(s[0]'h0).toNat=x0:=⟨_,rfl⟩
 have HDG:Hid (∀ j (h:j<s.size),48<=(s[j]'h).toNat/\(s[j]'h).toNat<=57):=by
  intro j h
  have:=hd.1 j (by rw [C7];exact h)
  rw [Q7 s j h] at this;exact this
 have key:decide ((1:Int)<(s.size:Int))=false\/(decide ((1:Int)<(s.size:Int))=true/\((x0:Int) == 48)=false):=by
  by_cases h1 : 1<s.size
  · right
    refine ⟨decide_eq_true (by omega),beq_eq_false_iff_ne.2 ?_⟩
    rcases hd.2 with h4 | h4
    · have:=C7 s;rw [h4] at this;simp at this;omega
    · intro e
      apply h4.2
      rw [Q0 s h0,ex]
      congr 1;omega
  · left;exact decide_eq_false (by omega)
 clear hd
 rcases key with f3 | ⟨f3,f4⟩
 all_goals (
  go_enter Tryz.func124,Tryz.ntmps124
  go_wp2_with fail
  generalize (w.alloc (.cells #[.slice none 0 0] 53))=w0 at *
  go_loopw [4] (fun i wr=>∃ k:Nat,k<=s.size/\i = .int .i64 k/\w0=wr) (fun i _=>s.size-(intOf i).toNat)
  case atStart=>exact ⟨0,Nat.zero_le _,rfl,rfl⟩
  case round=>
   obtain ⟨k,hk,rfl,rfl⟩:=hrel
   by_cases hlt:k<s.size
   · obtain ⟨y,ey⟩:∃ y,(s[k]'hlt).toNat=y:=⟨_,rfl⟩
     have hy : 48<=y/\y<=57:=ey ▸ HDG.out k hlt
     have f5:decide ((y:Int)<48)=false:=decide_eq_false (by omega)
     have f6:decide ((57:Int)<(y:Int))=false:=decide_eq_false (by omega)
     go_wp2_with fail
     go_roundw
     case rel=>exact ⟨k+1,by omega,by go_num,by trivial⟩
     case measure=>simp [intOf];omega
   · obtain rfl:k=s.size:=by omega
     clear f3 f2 f1
     go_wp2_with fail
     go_loopg [5,6] s.size (fun gh a b wr=>∃ (k:Nat) (E:Int) (sl:Option Addr) (cl:Nat) (ds:List Nat),a = .slice sl k cl/\b = .int .i64 E/\Hid (E=(s.size:Int)-4*(k:Int)) /\ -4<E/\E<=4096/\E.toNat<=gh/\k<=1024/\wr.ownsRow (w.heap.size+1) 3 1 (.slice sl k cl) k (ds.map iv)/\Hid (ds.length=k)/\Dig D ds/\Hid (val D ds=G7 ((bts s).drop E.toNat))/\Below (w.heap.size+1) w0 wr)
     case atStart=>exact ⟨0,s.size,none,0,[],rfl,rfl,by show _=_;omega,by omega,by omega,by omega,by omega,⟨rfl,Or.inl ⟨rfl,rfl⟩⟩,rfl,Dig.nil _,by show _=_;rw [List.drop_of_length_le (by rw [HB.out];simp)];rfl,Below.refl _ _⟩
     case round=>
      obtain ⟨k,E,sl,cl,ds,rfl,rfl,hE,hE0,hE1,hgh,hk,hown,hdl,hdd,hv,hbl⟩:=hrel
      by_cases hpos : 0<E
      · obtain ⟨e,rfl⟩:∃ e:Nat,E=(e:Int):=⟨E.toNat,by omega⟩
        have f7:decide ((0:Int)<(e:Int))=true:=decide_eq_true (by omega)
        have hek:Hid (e+4*k=s.size):=by show _=_;have:=hE.out;omega
        have hk2:k<1024:=by have:=hek.out;omega
        obtain ⟨f,hf⟩:∃ f,e-4=f:=⟨_,rfl⟩
        obtain ⟨m,hm⟩:∃ m,e-f=m:=⟨_,rfl⟩
        have hfm:f+m=e:=by omega
        have hm4:m<=4:=by omega
        have hes:e<=s.size:=by have:=hek.out;omega
        have key2:(decide ((e:Int)-4<0)=true/\f=0)\/(decide ((e:Int)-4<0)=false/\(e:Int)-4=(f:Int)):=by
         by_cases h4:e<4
         · left;exact ⟨decide_eq_true (by omega),by omega⟩
         · right;exact ⟨decide_eq_false (by omega),by omega⟩
        have hsr:w.heap.size+1<=wr.heap.size:=by have:=hbl.size;omega
        have hv2:Hid (val D ds+D^k*G7 (((bts s).drop f).take m)=G7 ((bts s).drop f)):=by
         show _=_
         rw [hv.out];exact rparse_step HB.out hfm hek.out
        have hEn:Hid ((e:Int)-4=(s.size:Int)-4*((k+1:Nat):Int)):=by show _=_;have:=hek.out;omega
        have hef:((e:Int)-4).toNat=f:=by omega
        clear hE hm hv hf
        rcases key2 with ⟨g1,hf0⟩ | ⟨g1,g2⟩
        all_goals (
         go_wp2_with fail
         go_loopw [8,9] (fun v i wi=>∃ (j x:Nat),j<=m/\i = .int .i64 ((f:Int)+(j:Int))/\v = .int .i64 x/\Hid (x<10^j)/\x<10000/\Hid (x=G7 (((bts s).drop f).take j))/\wr=wi) (fun _ i _=>e-(intOf i).toNat)
         case atStart=>exact ⟨0,0,Nat.zero_le _,by go_num,rfl,by show _<_;simp,by omega,rfl,rfl⟩
         case round=>
          obtain ⟨j,x,hj,rfl,rfl,hx,hx4,hxv,rfl⟩:=hrel
          by_cases hlt2:j<m
          · obtain ⟨p,hp⟩:∃ p,f+j=p:=⟨_,rfl⟩
            have hps:p<s.size:=by omega
            obtain ⟨d,ed⟩:∃ d,(s[p]'hps).toNat=d:=⟨_,rfl⟩
            have hds : 48<=d/\d<=57:=ed ▸ HDG.out p hps
            obtain ⟨q,hq⟩:∃ q,d-48=q:=⟨_,rfl⟩
            have g3:IntKind.u8.wrap ((d:Int)-48)=(q:Int):=by rw [IntKind.wrap_u8];omega
            have g4:(f:Int)+(j:Int)=(p:Int):=by omega
            have g5:decide ((p:Int)<(e:Int))=true:=decide_eq_true (by omega)
            have hx9:x<1000:=by
             have h1 : 10^j<=10^3:=Nat.pow_le_pow_right (by omega) (by omega)
             have:=hx.out;omega
            have hxn:Hid (10*x+q<10^(j+1)):=by show _<_;have:=hx.out;rw [Nat.pow_succ];omega
            have hxvn:Hid (10*x+q=G7 (((bts s).drop f).take (j+1))):=by
             show _=_
             rw [tT ((bts s).drop f) j d (by rw [List.length_drop,HB.out];omega) (by rw [List.getElem_drop];simp only [hp];rw [Q7 s p hps];exact ed), <- hxv.out,hq];omega
            have hq9:q<=9:=by omega
            have g6:(p:Int)+1=(f:Int)+((j+1:Nat):Int):=by omega
            rw [g4]
            clear hq hp
            go_wp2_with fail
            go_roundw
            case rel=>exact ⟨j+1,10*x+q,by omega,by first | (rw [g6];done) | (rw [<- g6];go_num) | go_num,by go_num,hxn,by omega,hxvn,by trivial⟩
            case measure=>simp [intOf];omega
          · obtain rfl:j=m:=by omega
            have g4:(f:Int)+(j:Int)=(e:Int):=by omega
            rw [g4]
            have hownA:=iD hown (.cells #[iv x] 3)
            have hnews:∀ j u,([iv x]:List Value)[j]?=some u->(wr.alloc (.cells #[iv x] 3)).cell? ((⟨wr.heap.size,0,none⟩:Addr).add j)=some u:=World.news_of_block (heap_alloc_new wr _)
            have hsi:w.heap.size+1<=(wr.alloc (.cells #[iv x] 3)).heap.size:=by simp;omega
            have hblA:Below (w.heap.size+1) w0 (wr.alloc (.cells #[iv x] 3)):=hbl.trans (I4 (World.grownBy_alloc _ _ _) hsr)
            have hvn:Hid (val D (ds++[x])=G7 ((bts s).drop ((e:Int)-4).toNat)):=by
             show _=_
             rw [F8,hdl.out,hxv.out,hv2.out,hef]
            clear hown hbl hv2 hxv
            go_wp2_with (at_builtin;refine wpList_append_lies _ rfl _ _ _ rfl (w.heap.size+1) 3 i1 (.int .i64 0) 1 8 Tryz.underlying22 hi hz0 hz1 hz2 rfl (by omega) (.slice sl k cl) k (ds.map iv) rfl hownA ⟨wr.heap.size,0,none⟩ 1 1 [iv x] rfl rfl hnews kV (by omega) (by unfold maxLen;omega) (by omega) hsi (wr.heap.size+1) (by simp) ?_;intro g2 cap2 w5 hown5 hgrow hat9 hlt9)
            have hbl5:=hblA.trans (Y9 hownA hgrow hsi)
            have hmap:ds.map iv++[iv x]=(ds++[x]).map iv:=by rw [List.map_append];rfl
            rw [hmap] at hown5
            have hl5:Hid ((ds++[x]).length=k+1):=by show _=_;rw [List.length_append,hdl.out];rfl
            clear hgrow hownA hnews hblA hmap
            go_roundg (((e:Int)-4).toNat)
            case measure=>omega
            case rel=>exact ⟨k+1,(e:Int)-4,_,cap2,ds++[x],rfl,by go_num,hEn,by omega,by omega,Nat.le_refl _,by omega,hown5,hl5,hdd.snoc hx4,hvn,hbl5⟩)
      · have f7:decide ((0:Int)<E)=false:=decide_eq_false (by omega)
        obtain ⟨hrd,hcap,_⟩:=pH hown
        have hgw:=H8 hgw0 hbl (by omega)
        have hbox:=P1 hbl hbox0 (by omega)
        have HV:Hid (val D ds=G7 (bts s)):=by
         show _=_
         rw [hv.out,show E.toNat=0 from by omega];rfl
        clear hown hbl hv hE
        go_wp2_with fail
        refine (rcut_any wr sl k cl ds hdl.out hrd hcap (by omega) hdd).mono ?_
        rintro e w4 ⟨v,rfl,hv4,hg4⟩
        have hbox4:=A1 hg4 hbox
        obtain ⟨hc4,hf4⟩:=A7 hbox4
        rw [HV.out] at hv4
        obtain ⟨s4,k4,c4,zs4,rfl,hz4⟩:=hv4
        have hF:=Lib.hid (rretE (code:=0) (A2 hgw hg4) hbox4 (by decide) (Nat.le_refl _) ⟨s4,k4,c4,zs4,rfl,hz4⟩ (.slice s4 k4 c4))
        clear hz4 hbox4 hbox hg4 hgw hbox0 hgw0
        go_wp2_with fail
        exact bodyPost_ret (v := .tuple #[.agg #[.slice s4 k4 c4],.int .i64 0]) (by simp [results,Tryz.results124,go_sem,hc4]) rfl hF.out)
def DigL (l:List Nat):Prop:=∀ k (h:k<l.length),48<=l[k]/\l[k]<=57
theorem DigL.append {l m:List Nat} (h:DigL l) (g:DigL m):DigL (l++m):=by
 intro k hk
 rcases Nat.lt_or_ge k l.length with h1 | h1
 · rw [List.getElem_append_left h1];exact h k h1
 · rw [List.getElem_append_right h1];exact g _ _
theorem DigL.drop {l:List Nat} (h:DigL l) (n:Nat):DigL (l.drop n):=by
 intro k hk
 rw [List.getElem_drop];exact h _ _
theorem bts_app (s t:ByteArray):bts (s++t)=bts s++bts t:=by
 unfold bts
 rw [ByteArray.data_append,Array.toList_append,List.map_append]
def J8 (x y:Int):Int:=if x<y then -1 else if x=y then 0 else 1
theorem zcmp_pos {x y:Int} (hx : 0<=x) (hy : 0<=y):K5 x.natAbs y.natAbs=J8 x y:=by
 unfold K5 J8
 rcases Int.lt_trichotomy x y with h | h | h
 · rw [if_pos (by omega),if_pos h]
 · rw [if_neg (by omega),if_pos (by omega),if_neg (by omega),if_pos h]
 · rw [if_neg (by omega),if_neg (by omega),if_neg (by omega),if_neg (by omega)]
theorem zcmp_neg {x y:Int} (hx:x<0) (hy:y<0):K5 y.natAbs x.natAbs=J8 x y:=by
 unfold K5 J8
 rcases Int.lt_trichotomy x y with h | h | h
 · rw [if_pos (by omega),if_pos h]
 · rw [if_neg (by omega),if_pos (by omega),if_neg (by omega),if_pos h]
 · rw [if_neg (by omega),if_neg (by omega),if_neg (by omega),if_neg (by omega)]
theorem iV (x:Int):(x<0/\x.sign = -1)\/(x=0/\x.sign=0)\/(0<x/\x.sign=1):=by
 rcases Int.lt_trichotomy x 0 with h | h | h
 · left;exact ⟨h,Int.sign_eq_neg_one_of_neg h⟩
 · right;left;subst h;exact ⟨rfl,rfl⟩
 · right;right;exact ⟨h,Int.sign_eq_one_of_pos h⟩
theorem zcmp_cases (x y:Int):(x.sign<y.sign/\J8 x y = -1)\/(y.sign<x.sign/\J8 x y=1)\/(x.sign=y.sign/\x.sign<0/\x<0/\y<0)\/(x.sign=y.sign /\ ¬ x.sign<0/\0<=x/\0<=y):=by
 unfold J8
 rcases iV x with ⟨h,e⟩ | ⟨h,e⟩ | ⟨h,e⟩<;>rcases iV y with ⟨k,f⟩ | ⟨k,f⟩ | ⟨k,f⟩<;>rw [e,f]
 · right;right;left;exact ⟨rfl,by omega,h,k⟩
 · left;exact ⟨by omega,if_pos (by omega)⟩
 · left;exact ⟨by omega,if_pos (by omega)⟩
 · right;left;refine ⟨by omega, ?_⟩;rw [if_neg (by omega),if_neg (by omega)]
 · right;right;right;exact ⟨rfl,by omega,by omega,by omega⟩
 · left;exact ⟨by omega,if_pos (by omega)⟩
 · right;left;refine ⟨by omega, ?_⟩;rw [if_neg (by omega),if_neg (by omega)]
 · right;left;refine ⟨by omega, ?_⟩;rw [if_neg (by omega),if_neg (by omega)]
 · right;right;right;exact ⟨rfl,by omega,by omega,by omega⟩
set_option maxHeartbeats 8000000 in
theorem L8 (w:World) (va vb:Value) (x y:Int) (K:Nat) (ha:IntV w va x) (hb:IntV w vb y) (hK:K<=900000) (la:x.natAbs<B^K) (lb:y.natAbs<B^K) :
 Calls Tryz.prog 18 #[va,vb] w (fun e w'=>e = .returned (.int .i64 (J8 x y))/\w.grownBy w' none):=by
 obtain ⟨sa,xs,za,rfl,hx,hv,hza⟩:=ha
 obtain ⟨sb,ys,zb,rfl,hy,hvy,hzb⟩:=hb
 have hgw0:w.grownBy ((w.alloc (.cells #[.slice sa xs.length xs.length,.bool za] 28)).alloc (.cells #[.slice sb ys.length ys.length,.bool zb] 28)) none:=A8 (World.grownBy_alloc _ _ _) _
 have hbb:=A4 (w.alloc (.cells #[.slice sa xs.length xs.length,.bool za] 28)) (.cells #[.slice sb ys.length ys.length,.bool zb] 28) (w.heap.size+1) (by simp)
 have hba:=A1 (World.grownBy_alloc _ (.cells #[.slice sb ys.length ys.length,.bool zb] 28) none) (A4 w (.cells #[.slice sa xs.length xs.length,.bool za] 28) w.heap.size rfl)
 have ia:IntV ((w.alloc (.cells #[.slice sa xs.length xs.length,.bool za] 28)).alloc (.cells #[.slice sb ys.length ys.length,.bool zb] 28)) (.agg #[.slice sa xs.length xs.length,.bool za]) x:=⟨sa,xs,za,rfl,hx.kept hgw0,hv,hza⟩
 have ib:IntV ((w.alloc (.cells #[.slice sa xs.length xs.length,.bool za] 28)).alloc (.cells #[.slice sb ys.length ys.length,.bool zb] 28)) (.agg #[.slice sb ys.length ys.length,.bool zb]) y:=⟨sb,ys,zb,rfl,hy.kept hgw0,hvy,hzb⟩
 have na:NatV ((w.alloc (.cells #[.slice sa xs.length xs.length,.bool za] 28)).alloc (.cells #[.slice sb ys.length ys.length,.bool zb] 28)) (.agg #[.slice sa xs.length xs.length]) x.natAbs:=⟨sa,xs,rfl,hx.kept hgw0,hv⟩
 have nn:NatV ((w.alloc (.cells #[.slice sa xs.length xs.length,.bool za] 28)).alloc (.cells #[.slice sb ys.length ys.length,.bool zb] 28)) (.agg #[.slice sb ys.length ys.length]) y.natAbs:=⟨sb,ys,rfl,hy.kept hgw0,hvy⟩
 have Hla:=Lib.hid la
 have Hlb:=Lib.hid lb
 have hc:=zcmp_cases x y
 obtain ⟨s1,h1⟩:∃ s,x.sign=s:=⟨_,rfl⟩
 obtain ⟨s2,h2⟩:∃ s,y.sign=s:=⟨_,rfl⟩
 rw [h1,h2] at hc
 have H1:=Lib.hid h1
 have H2:=Lib.hid h2
 clear hx hv hy hvy la lb hza hzb h1 h2
 have hc4:(decide (s1<s2)=true/\Hid (J8 x y = -1))\/(decide (s1<s2)=false/\decide (s2<s1)=true/\Hid (J8 x y=1))\/(decide (s1<s2)=false/\decide (s2<s1)=false/\decide (s1<0)=true/\Hid (K5 y.natAbs x.natAbs=J8 x y))\/(decide (s1<s2)=false/\decide (s2<s1)=false/\decide (s1<0)=false/\Hid (K5 x.natAbs y.natAbs=J8 x y)):=by
  rcases hc with ⟨q,r⟩ | ⟨q,r⟩ | ⟨q,r,t,u⟩ | ⟨q,r,t,u⟩
  · left;exact ⟨decide_eq_true q,r⟩
  · right;left;exact ⟨decide_eq_false (by omega),decide_eq_true q,r⟩
  · right;right;left;exact ⟨decide_eq_false (by omega),decide_eq_false (by omega),decide_eq_true r,zcmp_neg t u⟩
  · right;right;right;exact ⟨decide_eq_false (by omega),decide_eq_false (by omega),decide_eq_false r,zcmp_pos t u⟩
 clear hc
 rcases hc4 with ⟨f1,hz⟩ | ⟨f1,f2,hz⟩ | ⟨f1,f2,f3,hz⟩ | ⟨f1,f2,f3,hz⟩
 all_goals (
  go_enter Tryz.func18,Tryz.ntmps18
  go_wp2_with fail
  generalize ((w.alloc (.cells #[.slice sa xs.length xs.length,.bool za] 28)).alloc (.cells #[.slice sb ys.length ys.length,.bool zb] 28))=w0 at *
  obtain ⟨ca0,ca1,fa0,fa1⟩:=A3 hba
  obtain ⟨cb0,cb1,fb0,fb1⟩:=A3 hbb
  go_region_held3 (fun w'=>w'.cell? ⟨w.heap.size,0,none⟩=some (.slice sa xs.length xs.length)/\w'.cell? ⟨w.heap.size,1,none⟩=some (.bool za)/\w'.cell? ⟨w.heap.size+1,0,none⟩=some (.slice sb ys.length ys.length)/\w'.cell? ⟨w.heap.size+1,1,none⟩=some (.bool zb))
   (first | assumption | exact ⟨ca0,ca1,cb0,cb1⟩ | go_keep)
   (first
    | (go_at_call 46;(with_reducible refine (D5 w0.drew _ x K (ia.kept (C9 (A9 _ _))) (by omega) Hla.out).mono ?_);rintro e w1 ⟨rfl,g1⟩;rw [H1.out];have hG1:=H6 w0 g1 rfl rfl rfl rfl;have hS1:=And.intro (hG1.cell ca0 (by simp)) (And.intro (hG1.cell ca1 (by simp)) (And.intro (hG1.cell cb0 (by simp)) (hG1.cell cb1 (by simp)))))
    | (go_at_call 46;(with_reducible refine (D5 w1 _ y K (ib.kept hG1) (by omega) Hlb.out).mono ?_);rintro e w2 ⟨rfl,g2⟩;rw [H2.out];have hG2:=A2 hG1 g2;have hS2:=And.intro (hG2.cell ca0 (by simp)) (And.intro (hG2.cell ca1 (by simp)) (And.intro (hG2.cell cb0 (by simp)) (hG2.cell cb1 (by simp))))))
  have hgw:=A2 hgw0 hG2
  obtain ⟨da0,da1,ga0,ga1⟩:=A3 (A1 hG2 hba)
  obtain ⟨db0,db1,gb0,gb1⟩:=A3 (A1 hG2 hbb)
  have na2:=na.kept hG2
  have nn2:=nn.kept hG2
  go_wp2_with fail)
 · go_ret
   exact ⟨by rw [hz.out];rfl,hgw⟩
 · go_ret
   exact ⟨by rw [hz.out];rfl,hgw⟩
 · refine (wH w2 _ _ y.natAbs x.natAbs K nn2 na2 (by omega) Hlb.out Hla.out).mono ?_
   rintro e w3 ⟨rfl,g3⟩
   go_wp2_with fail
   go_ret
   exact ⟨by rw [<- hz.out];rfl,A2 hgw g3⟩
 · refine (wH w2 _ _ x.natAbs y.natAbs K na2 nn2 (by omega) Hla.out Hlb.out).mono ?_
   rintro e w3 ⟨rfl,g3⟩
   go_wp2_with fail
   go_ret
   exact ⟨by rw [<- hz.out];rfl,A2 hgw g3⟩
theorem dec_len {l:List Nat} {m:Nat} (h:S9 l) (hv:G7 l<10^m) (hm : 1<=m):l.length<=m:=by
 by_cases h0:l=[48]
 · rw [h0];exact hm
 · have ht:=nR h h0
   have hne:(l.map (· - 48)).reverse≠[]:=by
    intro e
    have e2:=congrArg List.length e
    simp at e2
    rcases h.2 with h2 | h2
    · rw [e2] at h2;simp at h2
    · exact h2.1 e2
   have h1:=kM 10 _ hne ht
   rw [<- jZ h.1,List.length_reverse,List.length_map] at h1
   rcases Nat.lt_or_ge m l.length with h2 | h2
   · have:=Nat.pow_le_pow_right (show 0<10 by omega) (show m<=l.length-1 by omega)
     omega
   · exact h2
theorem NText_any (w:World) (va:Value) (a K:Nat) (ha:NatV w va a) (hK:K<=1000000) (la:a<B^K) :
 Calls Tryz.prog 57 #[va] w (kF w a):=by
 rcases Nat.eq_zero_or_pos a with h | h
 · subst h;exact Text_zero w va ha
 · exact Text_some w va a K ha h hK la
def F5 (s:ByteArray) (z:Int):Prop:=∃ l,S9 l/\G7 l=z.natAbs/\bts s=if z<0 then 45 :: l else l
set_option maxHeartbeats 4000000 in
theorem U0 (w:World) (va:Value) (z:Int) (K:Nat) (ha:IntV w va z) (hK:K<=900000) (la:z.natAbs<B^K) :
 Calls Tryz.prog 15 #[va] w (fun e w'=>∃ s,e = .returned (.string s)/\F5 s z/\w.grownBy w' none):=by
 obtain ⟨sa,xs,za,rfl,hx,hv,hza⟩:=ha
 have hgw0:=World.grownBy_alloc w (.cells #[.slice sa xs.length xs.length,.bool za] 28) none
 have hba:=A4 w (.cells #[.slice sa xs.length xs.length,.bool za] 28) w.heap.size rfl
 have ia:IntV (w.alloc (.cells #[.slice sa xs.length xs.length,.bool za] 28)) (.agg #[.slice sa xs.length xs.length,.bool za]) z:=⟨sa,xs,za,rfl,hx.kept hgw0,hv,hza⟩
 have na:NatV (w.alloc (.cells #[.slice sa xs.length xs.length,.bool za] 28)) (.agg #[.slice sa xs.length xs.length]) z.natAbs:=⟨sa,xs,rfl,hx.kept hgw0,hv⟩
 have Hla:=Lib.hid la
 obtain ⟨s1,h1⟩:∃ s,z.sign=s:=⟨_,rfl⟩
 have H1:=Lib.hid h1
 have hc:(decide (s1<0)=true/\z<0)\/(decide (s1<0)=false /\ ¬ z<0):=by
  rcases iV z with ⟨h,e⟩ | ⟨h,e⟩ | ⟨h,e⟩
  · left;exact ⟨decide_eq_true (by omega),h⟩
  · right;exact ⟨decide_eq_false (by omega),by omega⟩
  · right;exact ⟨decide_eq_false (by omega),by omega⟩
 clear hx hv la hza h1
 rcases hc with ⟨f1,hz⟩ | ⟨f1,hz⟩
 all_goals (
  have HZ:=Lib.hid hz
  clear hz
  go_enter Tryz.func15,Tryz.ntmps15
  obtain ⟨ca0,ca1,fa0,fa1⟩:=A3 hba
  go_wp2_with fail
  refine (D5 _ _ z K ia (by omega) Hla.out).mono ?_
  rintro e w1 ⟨rfl,g1⟩
  rw [H1.out]
  obtain ⟨da0,da1,ga0,ga1⟩:=A3 (A1 g1 hba)
  have na1:=na.kept g1
  have hgw1:=A2 hgw0 g1
  clear na ia g1
  go_wp2_with fail
  refine (NText_any w1 _ z.natAbs K na1 (by omega) Hla.out).mono ?_
  rintro e w2 ⟨s,rfl,hd,hdv,g2⟩
  have hgw2:=A2 hgw1 g2)
 · have hsz:s.size<=20*K+1:=by
    rw [<- C7]
    refine dec_len hd ?_ (by omega)
    rw [hdv]
    refine Nat.lt_of_lt_of_le Hla.out ?_
    have q1:B^K<=(10^20)^K:=Nat.pow_le_pow_left (by decide) K
    rw [<- Nat.pow_mul] at q1
    exact Nat.le_trans q1 (Nat.pow_le_pow_right (by omega) (by omega))
   have hF:Hid (F5 ({ data := #[45] } ++ s) z):=⟨bts s,hd,hdv,by rw [bts_app,if_pos HZ.out];rfl⟩
   clear hd hdv g2 na1
   go_wp2_with fail
   go_ret
   exact ⟨_,rfl,hF.out,hgw2⟩
 · have hF:Hid (F5 s z):=⟨bts s,hd,hdv,by rw [if_neg (by have:=HZ.out;omega)]⟩
   clear hd hdv g2 na1
   go_wp2_with fail
   go_ret
   exact ⟨_,rfl,hF.out,hgw2⟩
def fA (z:Int):Prop := -9223372036854775808<=z/\z<=9223372036854775807
instance (z:Int):Decidable (fA z):=by unfold fA;infer_instance
def cD (w:World) (z:Int) (e:Ending) (w':World):Prop:=
 e = .returned (.tuple #[.int .i64 (if fA z then z else 0),.bool (decide (fA z))])/\w.grownBy w' none
theorem gV {w w':World} {z c:Int} (h:fA z) (hc:c=z) (hg:w.grownBy w' none):cD w z (.returned (.tuple #[.int .i64 c,.bool true])) w':=
 ⟨by rw [if_pos h,decide_eq_true h,hc],hg⟩
theorem cN {w w':World} {z:Int} (h:¬ fA z) (hg:w.grownBy w' none):cD w z (.returned (.tuple #[.int .i64 0,.bool false])) w':=
 ⟨by rw [if_neg h,decide_eq_false h],hg⟩
set_option maxHeartbeats 4000000 in
theorem qX (w:World) (va:Value) (z:Int) (K:Nat) (ha:IntV w va z) (hK:K<=900000) (la:z.natAbs<B^K) :
 Calls Tryz.prog 173 #[va] w (cD w z):=by
 obtain ⟨sa,xs,za,rfl,hx,hv,hza⟩:=ha
 have hgw0:=World.grownBy_alloc w (.cells #[.slice sa xs.length xs.length,.bool za] 28) none
 have hba:=A4 w (.cells #[.slice sa xs.length xs.length,.bool za] 28) w.heap.size rfl
 have ia:IntV (w.alloc (.cells #[.slice sa xs.length xs.length,.bool za] 28)) (.agg #[.slice sa xs.length xs.length,.bool za]) z:=⟨sa,xs,za,rfl,hx.kept hgw0,hv,hza⟩
 have na:NatV (w.alloc (.cells #[.slice sa xs.length xs.length,.bool za] 28)) (.agg #[.slice sa xs.length xs.length]) z.natAbs:=⟨sa,xs,rfl,hx.kept hgw0,hv⟩
 have Hla:=Lib.hid la
 obtain ⟨s1,h1⟩:∃ s,z.sign=s:=⟨_,rfl⟩
 have H1:=Lib.hid h1
 have hB:B=18446744073709551616:=rfl
 have hc:(Hid (¬ fA z)/\decide (z.natAbs<B)=false) \/
  (decide (z.natAbs<B)=true/\decide (s1<0)=true/\decide ((z.natAbs:Int)<=9223372036854775808)=true/\Hid (fA z/\z<0)) \/
  (decide (z.natAbs<B)=true/\decide (s1<0)=true/\decide (0<=s1)=false/\decide ((z.natAbs:Int)<=9223372036854775808)=false/\Hid (¬ fA z)) \/
  (decide (z.natAbs<B)=true/\decide (s1<0)=false/\decide (0<=s1)=true/\decide ((z.natAbs:Int)<9223372036854775808)=true/\Hid (fA z/\0<=z)) \/
  (decide (z.natAbs<B)=true/\decide (s1<0)=false/\decide (0<=s1)=true/\decide ((z.natAbs:Int)<9223372036854775808)=false/\Hid (¬ fA z)):=by
  have hs:(z<0/\s1<0)\/(0<=z/\0<=s1):=by
   rcases iV z with ⟨h,e⟩ | ⟨h,e⟩ | ⟨h,e⟩<;>omega
  have hf:fA z ↔ (-9223372036854775808<=z/\z<=9223372036854775807):=Iff.rfl
  by_cases q:z.natAbs<B
  · right
    rcases hs with ⟨h,k⟩ | ⟨h,k⟩
    · by_cases r:(z.natAbs:Int)<=9223372036854775808
      · left;exact ⟨decide_eq_true q,decide_eq_true k,decide_eq_true r,hf.2 (by omega),h⟩
      · right;left;exact ⟨decide_eq_true q,decide_eq_true k,decide_eq_false (by omega),decide_eq_false r,fun t=>by have:=hf.1 t;omega⟩
    · by_cases r:(z.natAbs:Int)<9223372036854775808
      · right;right;left;exact ⟨decide_eq_true q,decide_eq_false (by omega),decide_eq_true k,decide_eq_true r,hf.2 (by omega),h⟩
      · right;right;right;exact ⟨decide_eq_true q,decide_eq_false (by omega),decide_eq_true k,decide_eq_false r,fun t=>by have:=hf.1 t;omega⟩
  · left;exact ⟨fun t=>by have:=hf.1 t;omega,decide_eq_false q⟩
 clear hx hv la h1 hza hB
 obtain ⟨x,hx⟩:∃ x,z.natAbs=x:=⟨_,rfl⟩
 have HX:=Lib.hid hx
 rw [hx] at hc na Hla
 clear hx
 rcases hc with ⟨hz,f0⟩ | ⟨f0,f1,f2,hz⟩ | ⟨f0,f1,f3,f2,hz⟩ | ⟨f0,f1,f3,f2,hz⟩ | ⟨f0,f1,f3,f2,hz⟩
 all_goals (
  obtain ⟨ca0,ca1,fa0,fa1⟩:=A3 hba
  go_enter Tryz.func173,Tryz.ntmps173
  go_wp2_with fail
  refine (Word_any _ _ x K na (by omega) Hla.out).mono ?_
  rintro e w1 ⟨⟨y,rfl,hy,hy0⟩,g1⟩
  rw [f0]
  have hgw:=A2 hgw0 g1
  have ia1:=ia.kept g1
  have hba1:=A1 g1 hba
  obtain ⟨da0,da1,ga0,ga1⟩:=A3 hba1
  clear g1 ia hba ca0 ca1 fa0 fa1 na hgw0)
 · clear hy hy0
   have hF:Hid (cD w z (.returned (.tuple #[.int .i64 0,.bool false])) w1):=cN hz.out hgw
   go_wp2_with fail
   go_ret2
   exact hF.out
 · obtain rfl:y=x:=hy (of_decide_eq_true f0)
   clear hy hy0
   go_wp2_with fail
   refine (D5 w1 _ z K ia1 (by omega) (by rw [HX.out];exact Hla.out)).mono ?_
   rintro e w2 ⟨rfl,g2⟩
   rw [H1.out]
   obtain ⟨ea0,ea1,ha0,ha1⟩:=A3 (A1 g2 hba1)
   have hgw2:=A2 hgw g2
   go_wp2_with fail
   go_ret2
   refine gV hz.out.1 ?_ hgw2
   have q1:=HX.out
   have q2:=hz.out.2
   have q3:=of_decide_eq_true f2
   simp only [IntKind.wrap_u64]
   unfold wrap64
   omega
 · obtain rfl:y=x:=hy (of_decide_eq_true f0)
   clear hy hy0
   go_wp2_with fail
   refine (D5 w1 _ z K ia1 (by omega) (by rw [HX.out];exact Hla.out)).mono ?_
   rintro e w2 ⟨rfl,g2⟩
   rw [H1.out]
   have hba2:=A1 g2 hba1
   obtain ⟨ea0,ea1,ha0,ha1⟩:=A3 hba2
   have hgw2:=A2 hgw g2
   have ia2:=ia1.kept g2
   go_wp2_with fail
   refine (D5 w2 _ z K ia2 (by omega) (by rw [HX.out];exact Hla.out)).mono ?_
   rintro e w3 ⟨rfl,g3⟩
   rw [H1.out]
   have hF:Hid (cD w z (.returned (.tuple #[.int .i64 0,.bool false])) w3):=cN hz.out (A2 hgw2 g3)
   go_wp2_with fail
   go_ret2
   exact hF.out
 · obtain rfl:y=x:=hy (of_decide_eq_true f0)
   clear hy hy0
   go_wp2_with fail
   refine (D5 w1 _ z K ia1 (by omega) (by rw [HX.out];exact Hla.out)).mono ?_
   rintro e w2 ⟨rfl,g2⟩
   rw [H1.out]
   have hba2:=A1 g2 hba1
   obtain ⟨ea0,ea1,ha0,ha1⟩:=A3 hba2
   have hgw2:=A2 hgw g2
   have ia2:=ia1.kept g2
   go_wp2_with fail
   refine (D5 w2 _ z K ia2 (by omega) (by rw [HX.out];exact Hla.out)).mono ?_
   rintro e w3 ⟨rfl,g3⟩
   rw [H1.out]
   have hgw3:=A2 hgw2 g3
   go_wp2_with fail
   go_ret2
   refine gV hz.out.1 ?_ hgw3
   have q1:=HX.out
   have q2:=hz.out.2
   have q3:=of_decide_eq_true f2
   try unfold wrap64
   omega
 · obtain rfl:y=x:=hy (of_decide_eq_true f0)
   clear hy hy0
   go_wp2_with fail
   refine (D5 w1 _ z K ia1 (by omega) (by rw [HX.out];exact Hla.out)).mono ?_
   rintro e w2 ⟨rfl,g2⟩
   rw [H1.out]
   have hba2:=A1 g2 hba1
   obtain ⟨ea0,ea1,ha0,ha1⟩:=A3 hba2
   have hgw2:=A2 hgw g2
   have ia2:=ia1.kept g2
   go_wp2_with fail
   refine (D5 w2 _ z K ia2 (by omega) (by rw [HX.out];exact Hla.out)).mono ?_
   rintro e w3 ⟨rfl,g3⟩
   rw [H1.out]
   have hF:Hid (cD w z (.returned (.tuple #[.int .i64 0,.bool false])) w3):=cN hz.out (A2 hgw2 g3)
   go_wp2_with fail
   go_ret2
   exact hF.out
theorem zfl {x y q r:Int} (h0 : 0<=r) (h1:r<y.natAbs) (h:r+y*q=x):q=x / y/\r=x%y:=by
 rcases Int.lt_trichotomy y 0 with hy | hy | hy
 · have t:x / (-y) = -q/\x%(-y)=r:=(Int.ediv_emod_unique (by omega)).2 ⟨by rw [Int.neg_mul_neg];exact h,h0,by omega⟩
   rw [Int.ediv_neg,Int.emod_neg] at t
   exact ⟨by omega,t.2.symm⟩
 · subst hy;simp at h1;omega
 · have t:x / y=q/\x%y=r:=(Int.ediv_emod_unique hy).2 ⟨h,h0,by omega⟩
   exact ⟨t.1.symm,t.2.symm⟩
theorem lG {x y:Int} {za zb:Bool} (ha:za=true ↔ x<0) (hb:zb=true ↔ y<0) (k r:Nat) (hr:r<y.natAbs) (h:(¬ x<0/\y.natAbs*k+r=x.natAbs)\/(x<0/\y.natAbs*k=x.natAbs+r)) :
 (if (za != zb)=true then -(k:Int) else k)=x / y/\(r:Int)=x%y:=by
 refine zfl (by omega) (by omega) ?_
 have e:((y.natAbs*k:Nat):Int)=(y.natAbs:Int)*(k:Int):=Int.natCast_mul _ _
 have e1:=dR ha
 have e2:=dR hb
 obtain ⟨m,hm⟩:∃ m:Int,(y.natAbs:Int)=m:=⟨_,rfl⟩
 have f1:m * -(k:Int) = -(m*k):=Int.mul_neg _ _
 have f2 : -m*(k:Int) = -(m*k):=Int.neg_mul _ _
 have f3 : -m * -(k:Int)=m*k:=Int.neg_mul_neg _ _
 rw [hm] at e e2
 generalize y.natAbs*k=p at *
 cases za<;>cases zb<;>simp at e1 e2 ha hb ⊢
 · rw [<- e2];omega
 · rw [<- e2,f3];omega
 · rw [<- e2,f1];omega
 · rw [<- e2,f2];omega
def eU (w:World) (n k:Int) (code:Int) (e:Ending) (w':World):Prop:=∃ v u,e = .returned (.tuple #[v,u,.int .i64 code])/\IntV w' v n/\IntV w' u k/\w.grownBy w' none
theorem IntV.zero (w:World):IntV w (.agg #[.slice none 0 0,.bool false]) 0:=⟨none,[],false,rfl,⟨Or.inl rfl,fun _=>rfl,by intro x hx;simp at hx,Dig.nil _⟩,rfl,by simp⟩
theorem IntV.set_other {w:World} {v:Value} {n:Int} {g:Nat} {c:Array Value} {t:TypeId} (h:IntV w v n) (hbox:w.heap[g]?=some (.cells c t (0,0))) (ht:t≠91) (o:Nat) (u:Value):IntV (w.setCell ⟨g,o,none⟩ u) v n:=by
 obtain ⟨sa,xs,b,e,h1,h2⟩:=h
 exact ⟨sa,xs,b,e,h1.set_other hbox ht o u,h2⟩
theorem vM {w:World} {g:Nat} {a0 a1:Value} {t:TypeId} (h:w.heap[g]?=some (.cells #[a0,a1] t (0,0))) (v0:Value):(w.setCell ⟨g,0,none⟩ v0).heap[g]?=some (.cells #[v0,a1] t (0,0)):=by
 simp [World.setCell,Array.getElem?_modify,h]
theorem IntV.set2 {w:World} {v:Value} {n:Int} {g:Nat} {a0 a1:Value} (h:IntV w v n) (hbox:w.heap[g]?=some (.cells #[a0,a1] 28 (0,0))) (v0 v1:Value):IntV ((w.setCell ⟨g,0,none⟩ v0).setCell ⟨g,1,none⟩ v1) v n:=
 (h.set_other hbox (by decide) 0 v0).set_other (vM hbox v0) (by decide) 1 v1
theorem pW {w w':World} {g:Nat} (hg:w.grownBy w' none) (hl:w.heap.size<=g) (v0 v1:Value):w.grownBy ((w'.setCell ⟨g,0,none⟩ v0).setCell ⟨g,1,none⟩ v1) none:=
 B1 (B1 hg (B2 (A9 _ _) _ _) hl) (B2 (A9 _ _) _ _) hl
theorem Of_one (w:World):Calls Tryz.prog 48 #[.int .u64 1] w (RetNat w 1):=rH w 1 (by decide)
end Go.Proofs.YtdgdmicbbfoghaaGreatDoor
