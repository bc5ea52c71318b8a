/- What the laws lean on, part 5. -/
import Derived.BigQuiet
import Derived.BigRegion
import Derived.Deep.AppendLies
import Derived.Deep.CutBlock
import Derived.Deep.CutRange
import Derived.Deep.DeepCutAuto
import Derived.Deep.LoopGhost
import Derived.Deep.QuietTactic
import Derived.Deep.RegionHeld3
import Derived.Laws.CopyOwn
import Derived.Laws.Externs
import Derived.Laws.IdiomStrings
import Derived.Lib.BitFns
import Derived.Lib.Hide
import Derived.Lib.Slices
import Derived.Lib.Small
import Derived.Lib.Strings
import Derived.Lib.Walk
import Derived.Outline
import Derived.OwnWalk
import Derived.Shelf.Bits.Mul64
import Derived.Shelf.Spec.TrailingZeros
import Derived.StillTailTactics
import Derived.WalkKit
import Derived.WalkLawsBesides
import Derived.WalkSpells
import Derived.Test.YtamdnbbgpacfkaaGreatDoorProg
import Derived.Test.YtamdnbbgpacfkaaGreatDoorMd4
set_option linter.unusedVariables false
set_option linter.unusedSimpArgs false
set_option maxRecDepth 100000
namespace Go.Proofs.YtamdnbbgpacfkaaGreatDoor
open Go.RowKit Mat
def D:Nat:=10000
theorem bX : 0<D:=by unfold D;omega
def iv (x:Nat):Value := .int .i64 (x:Int)
def RAt (cs:Array Value) (off:Nat) (xs:List Nat):Prop:=∀ i (h:i<xs.length),cs[off+i]?=some (iv xs[i])
def RBlk (w:World) (b:Nat) (cs:Array Value):Prop:=w.heap[b]?=some (.cells cs 3 (0,0))
theorem RBlk.cell {w:World} {b:Nat} {cs:Array Value} (h:RBlk w b cs) (o:Nat):w.cell? ⟨b,o,none⟩=cs[o]?:=by
 unfold RBlk at h;simp [World.cell?,h]
theorem RBlk.frozen {w:World} {b:Nat} {cs:Array Value} (h:RBlk w b cs) (o:Nat):w.frozen? ⟨b,o,none⟩=false:=by
 unfold RBlk at h;simp [World.frozen?,h]
theorem RBlk.lt {w:World} {b:Nat} {cs:Array Value} (h:RBlk w b cs):b<w.heap.size:=(Array.getElem?_eq_some_iff.1 h).1
theorem RBlk.kept {w w':World} {b:Nat} {cs:Array Value} {row:Option Nat} (h:RBlk w b cs) (hg:w.grownBy w' row) (hr:some b≠row):RBlk w' b cs:=(hg.block b h.lt hr).trans h
theorem RAt.take {cs:Array Value} {off:Nat} {xs:List Nat} (h:RAt cs off xs) (k:Nat):RAt cs off (xs.take k):=by
 intro i hi
 rw [List.length_take] at hi
 rw [h i (by omega),List.getElem_take]
def RRdo (w:World) (s:Option Addr) (xs:List Nat):Prop:=xs=[] \/ ∃ (b off:Nat) (cs:Array Value),s=some ⟨b,off,none⟩/\RBlk w b cs/\RAt cs off xs
theorem RRdo.kept {w w':World} {s:Option Addr} {xs:List Nat} (h:RRdo w s xs) (hg:w.grownBy w' none):RRdo w' s xs:=by
 rcases h with h | ⟨b,off,cs,e,h1,h2⟩
 · exact Or.inl h
 · exact Or.inr ⟨b,off,cs,e,h1.kept hg (by simp),h2⟩
theorem RRdo.take {w:World} {s:Option Addr} {xs:List Nat} (h:RRdo w s xs) (k:Nat):RRdo w s (xs.take k):=by
 rcases h with h | ⟨b,off,cs,e,h1,h2⟩
 · exact Or.inl (by rw [h];simp)
 · exact Or.inr ⟨b,off,cs,e,h1,h2.take k⟩
theorem RRdo.get {w:World} {s:Option Addr} {xs:List Nat} (h:RRdo w s xs) (k:Nat) (hk:k<xs.length):∃ (b off:Nat) (cs:Array Value),s=some ⟨b,off,none⟩/\RBlk w b cs/\RAt cs off xs:=by
 rcases h with h | h
 · rw [h] at hk;simp at hk
 · exact h
def RefV (w:World) (v:Value) (n:Nat):Prop:=∃ (s:Option Addr) (k cap:Nat) (xs:List Nat),v = .agg #[.slice s k cap]/\xs.length=k/\k<=cap/\RRdo w s xs/\Top xs/\Dig D xs/\val D xs=n
theorem RefV.kept {w w':World} {v:Value} {n:Nat} (h:RefV w v n) (hg:w.grownBy w' none):RefV w' v n:=by
 obtain ⟨s,k,cap,xs,e,h1,h2,h3,h4⟩:=h
 exact ⟨s,k,cap,xs,e,h1,h2,h3.kept hg,h4⟩
def X3 (w:World) (n:Nat) (e:Ending) (w':World):Prop:=∃ v,e = .returned v/\RefV w' v n/\w.grownBy w' none
theorem RRdo.set_other {w:World} {s:Option Addr} {xs:List Nat} {g:Nat} {c:Array Value} {t:TypeId} (h:RRdo w s xs) (hbox:w.heap[g]?=some (.cells c t (0,0))) (ht:t≠3) (o:Nat) (u:Value):RRdo (w.setCell ⟨g,o,none⟩ u) s xs:=by
 rcases h with h | ⟨b,off,cs,e,h1,h2⟩
 · exact Or.inl h
 · refine Or.inr ⟨b,off,cs,e,(Below.heap_setCell _ _ _ _ ?_).trans h1,h2⟩
   intro e2
   simp only at e2
   unfold RBlk at h1
   subst e2
   rw [hbox] at h1
   simp at h1
   exact ht h1.2
set_option maxHeartbeats 2000000 in
theorem rcut_any (w:World) (s:Option Addr) (n cap:Nat) (xs:List Nat) (hn:xs.length=n) (hx:RRdo w s xs) (hnc:n<=cap) (bn:n<=1099511627776) (dx:Dig D xs) :
 Calls Tryz.prog 184 #[.slice s n cap] w (X3 w (val D xs)):=by
 have Hn:=Lib.hid hn
 have hgw0:=World.grownBy_alloc w (.cells #[.slice none 0 0] 30) none
 have hbox0:=A8 w (.cells #[.slice none 0 0] 30) w.heap.size rfl
 obtain ⟨cb,fb⟩:=B7 hbox0
 have hx0:=hx.kept hgw0
 clear hn
 go_enter Tryz.func184,Tryz.ntmps184
 go_wp2_with fail
 generalize (w.alloc (.cells #[.slice none 0 0] 30))=w0 at *
 go_loopw [3] (fun i wr=>∃ (k:Nat),k<=n/\i = .int .i64 k/\w0=wr/\Hid (val D (xs.take k)=val D xs)) (fun i _=>(intOf i).toNat)
 case atStart=>exact ⟨n,Nat.le_refl _,rfl,rfl,by show _=_;rw [<- Hn.out,List.take_length]⟩
 case round=>
  obtain ⟨k,hk,rfl,rfl,hv⟩:=hrel
  have hF:Hid (Top (xs.take k)->X3 w (val D xs) (.returned (.agg #[.slice s k cap])) (w0.setCell ⟨w.heap.size,0,none⟩ (.slice s k cap))):=by
   intro ht
   exact ⟨_,rfl,⟨s,k,cap,xs.take k,rfl,by rw [List.length_take,Hn.out];omega,by omega,(hx0.take k).set_other hbox0 (by decide) 0 _,ht,dx.take k,hv.out⟩,D6 hgw0 (C9 (B0 _ _) _ _) (Nat.le_refl _)⟩
  by_cases h0:k=0
  · subst h0
    have hF2:=Lib.hid (hF.out (by intro x hx;simp at hx))
    clear hF
    go_wp2_with fail
    exact bodyPost_ret (v := .agg #[.slice s 0 cap]) (by simp [results,Tryz.results184,go_sem,cb]) rfl hF2.out
  · obtain ⟨j,rfl⟩:∃ j,k=j+1:=⟨k-1,by omega⟩
    clear h0
    obtain ⟨b1,o1,cs1,rfl,hb1,hat1⟩:=hx0.get j (by rw [Hn.out];omega)
    obtain ⟨x,ex⟩:∃ x,xs[j]'(by rw [Hn.out];omega)=x:=⟨_,rfl⟩
    have c1:w0.cell? ⟨b1,o1+j,none⟩=some (.int .i64 (x:Int)):=by
     rw [hb1.cell,hat1 j (by rw [Hn.out];omega),ex];rfl
    have EX:=Lib.hid ex
    clear ex
    by_cases hz:x=0
    · subst hz
      clear hF
      go_wp2_with fail
      go_roundw
      case rel=>exact ⟨j,by omega,by go_num,by trivial,by show _=_;rw [<- hv.out,C8 D xs j (by rw [Hn.out];omega),EX.out];omega⟩
      case measure=>simp [intOf]
    · have t:((x:Int) == 0)=false:=beq_eq_false_iff_ne.2 (by omega)
      have hF2:=Lib.hid (hF.out (top_take xs j (by rw [Hn.out];omega) (by rw [EX.out];exact hz)))
      clear hF
      go_wp2_with fail
      exact bodyPost_ret (v := .agg #[.slice (some ⟨b1,o1,none⟩) (j+1) cap]) (by simp [results,Tryz.results184,go_sem,cb]) rfl hF2.out
theorem Tryz.infoI64:(Tryz.prog.info? 3).map (fun i=>(i.zero,i.size,i.bytes))=some (some (.int .i64 0),1,8):=by kernel_rfl
theorem V6:∃ i,Tryz.prog.info? 3=some i/\i.zero=some (.int .i64 0)/\i.size=1/\i.bytes=8:=by
 obtain ⟨i,hi,he⟩:=Option.map_eq_some_iff.1 Tryz.infoI64
 exact ⟨i,hi,congrArg Prod.fst he,congrArg (fun x=>x.2.1) he,congrArg (fun x=>x.2.2) he⟩
theorem aE {d:Nat} : ∀ u ∈ ([iv d]:List Value),u.oneCell'=true:=by intro u hu;simp at hu;subst hu;rfl
theorem lU {w:World} {base:Nat} {s:Option Addr} {n cap:Nat} {xs:List Nat} (h:w.ownsRow base 3 1 (.slice s n cap) n (xs.map iv)):RRdo w s xs/\n<=cap/\xs.length=n:=by
 obtain ⟨h1,⟨e,h2⟩ | ⟨g,cap',cur,e,hg,hb,hc,hm,hs,ht⟩⟩:=h
 · cases e
   rw [List.length_map] at h1
   exact ⟨Or.inl (List.length_eq_zero_iff.1 (by omega)),by omega,by omega⟩
 · cases e
   rw [List.length_map,Nat.mul_one] at h1
   refine ⟨Or.inr ⟨g,0,cur,rfl,hb,fun i hi=>?_⟩,hc,h1⟩
   have h3:(cur.toList.take (n*1))[i]?=(xs.map iv)[i]?:=by rw [ht]
   rw [Nat.mul_one,List.getElem?_take,if_pos (by omega),Array.getElem?_toList,List.getElem?_map,List.getElem?_eq_getElem hi] at h3
   rw [Nat.zero_add];exact h3
theorem R2 {w:World} {base:Nat} {v:Value} {n:Nat} {xs:List Value} {t:TypeId} (h:w.ownsRow base t 1 v n xs) (o:Obj):(w.alloc o).ownsRow base t 1 v n xs:=by
 obtain ⟨h1,h2 | ⟨g,cap',cur,e,hg,hb,hr⟩⟩:=h
 · exact ⟨h1,Or.inl h2⟩
 · exact ⟨h1,Or.inr ⟨g,cap',cur,e,hg,(Below.heap_alloc w o g (Array.getElem?_eq_some_iff.1 hb).1).trans hb,hr⟩⟩
theorem N3 {w w':World} {base n:Nat} {v:Value} {xs:List Value} {t:TypeId} (h:w.ownsRow base t 1 v n xs) (hg:w.grownBy w' v.ownBlock) (hs:base<=w.heap.size):Below base w w':=by
 obtain ⟨h1,⟨e,_⟩ | ⟨g,cap',cur,e,hg',hb,hr⟩⟩:=h
 · subst e;exact I7 hg hs
 · subst e;exact Z0 (g:=g) hg hg' hs
theorem of_bound {v x n k:Nat} (h:v+x*D^k=n) (hx : 0<x) (hn:n<B):k<64:=by
 have h1:D^k<=x*D^k:=Nat.le_mul_of_pos_left _ hx
 have h2 : 2^k<=D^k:=Nat.pow_le_pow_left (by unfold D;omega) k
 rcases Nat.lt_or_ge k 64 with h3 | h3
 · exact h3
 · have : 2^64<=2^k:=Nat.pow_le_pow_right (by omega) h3
   have:B=2^64:=by decide
   omega
theorem of_step {v x p d q:Nat} (hd:x%10000=d) (hq:x / 10000=q):v+p*d+q*(p*D)=v+x*p:=by
 have:=Nat.div_add_mod x 10000
 rw [hd,hq] at this
 rw [<- this]
 unfold D
 grind
theorem kW {ds:List Nat} {d:Nat} (h:d≠0):Top (ds++[d]):=by
 intro x hx
 rw [List.getLast?_append] at hx
 simp at hx
 omega
set_option maxHeartbeats 4000000 in
theorem rH (w:World) (n:Nat) (hn:n<B) :
 Calls Tryz.prog 82 #[.int .u64 (n:Int)] w (X3 w n):=by
 obtain ⟨i1,hi,hz0,hz1,hz2⟩:=V6
 have HN:=Lib.hid hn
 have hgw0:=World.grownBy_alloc w (.cells #[.slice none 0 0] 30) none
 have hbox0:=A8 w (.cells #[.slice none 0 0] 30) w.heap.size rfl
 have hs0:w.heap.size+1<=(w.alloc (.cells #[.slice none 0 0] 30)).heap.size:=by simp
 go_enter Tryz.func82,Tryz.ntmps82
 go_wp2_with fail
 generalize (w.alloc (.cells #[.slice none 0 0] 30))=w0 at *
 go_loopg [0,3] n (fun gh a b wr=>∃ (x:Nat) (sl:Option Addr) (nl cl:Nat) (ds:List Nat),a = .int .u64 x/\b = .slice sl nl cl/\x<=gh/\Hid (x<B)/\wr.ownsRow (w.heap.size+1) 3 1 (.slice sl nl cl) nl (ds.map iv)/\Hid (ds.length=nl)/\Dig D ds/\Hid (x=0->Top ds)/\Hid (val D ds+x*D^nl=n)/\Below (w.heap.size+1) w0 wr)
 case atStart=>exact ⟨n,none,0,0,[],rfl,rfl,Nat.le_refl _,HN,⟨rfl,Or.inl ⟨rfl,rfl⟩⟩,rfl,Dig.nil _,fun _ x hx=>by simp at hx,by show _=_;simp [val],Below.refl _ _⟩
 case round=>
  obtain ⟨x,sl,nl,cl,ds,rfl,rfl,hgh,hxB,hown,hdl,hdd,htp,hv,hbl⟩:=hrel
  by_cases h0:x=0
  · subst h0
    obtain ⟨hrd,hcap,_⟩:=lU hown
    have hbox:=K8 hbl hbox0 (by omega)
    obtain ⟨cb,fb⟩:=B7 hbox
    have hF:Hid (X3 w n (.returned (.agg #[.slice sl nl cl])) (wr.setCell ⟨w.heap.size,0,none⟩ (.slice sl nl cl))):=
     ⟨_,rfl,⟨sl,nl,cl,ds,rfl,hdl.out,hcap,hrd.set_other hbox (by decide) 0 _,htp.out rfl,hdd,by have:=hv.out;omega⟩,D6 (K1 hgw0 hbl (by omega)) (C9 (B0 _ _) _ _) (Nat.le_refl _)⟩
    clear hown hbl hbox hv htp
    go_wp2_with fail
    exact bodyPost_ret (v := .agg #[.slice sl nl cl]) (by simp [results,Tryz.results82,go_sem,cb]) rfl hF.out
  · have f1:decide ((0:Int)<(x:Int))=true:=decide_eq_true (by omega)
    have hk:=of_bound hv.out (by omega) HN.out
    obtain ⟨d,hd⟩:∃ d,x%10000=d:=⟨_,rfl⟩
    obtain ⟨q,hq⟩:∃ q,x / 10000=q:=⟨_,rfl⟩
    have hd1:d<10000:=by omega
    have hqx:q<x:=by omega
    have e1:(x:Int)%10000=(d:Int):=by omega
    have e2:(x:Int) / 10000=(q:Int):=by omega
    have hqB:Hid (q<B):=Nat.lt_trans hqx hxB.out
    have htp2:Hid (q=0->Top (ds++[d])):=fun e=>kW (by omega)
    have hvn:Hid (val D (ds++[d])+q*D^(nl+1)=n):=by
     show _=_
     rw [G0,hdl.out,Nat.pow_succ,of_step hd hq];exact hv.out
    have hownA:=R2 hown (.cells #[iv d] 3)
    have hnews:∀ j u,([iv d]:List Value)[j]?=some u->(wr.alloc (.cells #[iv d] 3)).cell? ((⟨wr.heap.size,0,none⟩:Addr).add j)=some u:=World.news_of_block (heap_alloc_new wr _)
    have hsr:w.heap.size+1<=wr.heap.size:=by have:=hbl.size;omega
    have hsi:w.heap.size+1<=(wr.alloc (.cells #[iv d] 3)).heap.size:=by simp;omega
    have hblA:Below (w.heap.size+1) w0 (wr.alloc (.cells #[iv d] 3)):=hbl.trans (I7 (World.grownBy_alloc _ _ _) hsr)
    clear hd hq hown hbl htp hv
    go_wp2_with (at_builtin;refine wpList_append_lies _ rfl _ _ _ rfl (w.heap.size+1) 3 i1 (.int .i64 0) 1 8 Tryz.underlying28 hi hz0 hz1 hz2 rfl (by omega) (.slice sl nl cl) nl (ds.map iv) rfl hownA ⟨wr.heap.size,0,none⟩ 1 1 [iv d] rfl rfl hnews aE (by omega) (by unfold maxLen;omega) (by omega) hsi (wr.heap.size+1) (by simp) ?_;intro g2 cap2 w5 hown5 hgrow hat9 hlt9)
    have hbl5:=hblA.trans (N3 hownA hgrow hsi)
    have hmap:ds.map iv++[iv d]=(ds++[d]).map iv:=by rw [List.map_append];rfl
    rw [hmap] at hown5
    have hl5:Hid ((ds++[d]).length=nl+1):=by show _=_;rw [List.length_append,hdl.out];rfl
    clear hgrow hownA hnews hblA hmap
    go_roundg q
    case measure=>omega
    case rel=>exact ⟨q,_,nl+1,cap2,ds++[d],(by first | rfl | rw [Mul64.wrapN q hqB.out]),rfl,Nat.le_refl _,hqB,hown5,hl5,hdd.snoc hd1,htp2,hvn,hbl5⟩
def RetCmp (w:World) (a b:Nat) (e:Ending) (w':World):Prop:=e = .returned (.int .i64 (G3 a b))/\w.grownBy w' none
theorem rlen {xs:List Nat} {n K:Nat} (ht:Top xs) (hn:xs.length=n) (h:val D xs<D^K):n<=K:=by
 rcases Nat.lt_or_ge K n with h1 | h1
 · have h2:=kV D xs (by rintro rfl;simp at hn;omega) ht
   have h3:D^K<=D^(xs.length-1):=Nat.pow_le_pow_right bX (by omega)
   omega
 · exact h1
set_option maxHeartbeats 4000000 in
theorem lR (w:World) (va vb:Value) (a b:Nat) (ha:RefV w va a) (hb:RefV w vb b) (ba:a<D^1000000) (bb:b<D^1000000) :
 Calls Tryz.prog 88 #[va,vb] w (RetCmp w a b):=by
 obtain ⟨sa,n,cx,xs,rfl,hn,hnc,hx,tx,dx,rfl⟩:=ha
 obtain ⟨sb,m,cy,ys,rfl,hm,hmc,hy,ty,dy,rfl⟩:=hb
 have Hn:=Lib.hid hn
 have Hm:=Lib.hid hm
 have hn6:n<=1000000:=rlen tx hn ba
 have hm6:m<=1000000:=rlen ty hm bb
 have hgw0:w.grownBy ((w.alloc (.cells #[.slice sa n cx] 30)).alloc (.cells #[.slice sb m cy] 30)) none:=A7 (World.grownBy_alloc _ _ _) _
 have hboxb:=A8 (w.alloc (.cells #[.slice sa n cx] 30)) (.cells #[.slice sb m cy] 30) (w.heap.size+1) (by simp)
 have hboxa:=(Below.heap_alloc _ (.cells #[.slice sb m cy] 30) w.heap.size (by simp)).trans (A8 w (.cells #[.slice sa n cx] 30) w.heap.size rfl)
 obtain ⟨ca,fa⟩:=B7 hboxa
 obtain ⟨cb,fb⟩:=B7 hboxb
 have hx0:=hx.kept hgw0
 have hy0:=hy.kept hgw0
 clear hn hm hboxa hboxb hx hy ba bb
 rcases Nat.lt_trichotomy n m with h | h | h
 · have hF:Hid (G3 (val D xs) (val D ys) = -1):=R4 (G9 D bX xs ys dx ty (by rw [Hn.out,Hm.out];exact h))
   have f1:decide ((n:Int)<(m:Int))=true:=decide_eq_true (by omega)
   go_enter Tryz.func88,Tryz.ntmps88
   go_wp2_with fail
   go_ret
   exact ⟨by rw [hF.out];rfl,hgw0⟩
 · subst h
   go_enter Tryz.func88,Tryz.ntmps88
   go_wp2_with fail
   generalize ((w.alloc (.cells #[.slice sa n cx] 30)).alloc (.cells #[.slice sb n cy] 30))=w0 at *
   go_loopw [5] (fun i wr=>∃ (k q:Nat),k<=n/\i = .int .i64 ((k:Int)-1)/\wr=w0.drewN q/\Hid (xs.drop k=ys.drop k)) (fun i _=>(intOf i+1).toNat)
   case atStart=>exact ⟨n,0,Nat.le_refl _,rfl,rfl,by show _=_;rw [List.drop_eq_nil_of_le (by rw [Hn.out];omega),List.drop_eq_nil_of_le (by rw [Hm.out];omega)]⟩
   case round=>
    obtain ⟨k,q,hk,rfl,rfl,hd⟩:=hrel
    by_cases h0:k=0
    · subst h0
      go_wp2_with fail
      go_ret
      exact ⟨by rw [Y8 (by have:=hd.out;simp at this;rw [this])];rfl,A2 hgw0 (C1 _ _ _)⟩
    · obtain ⟨j,rfl⟩:∃ j,k=j+1:=⟨k-1,by omega⟩
      clear h0
      obtain ⟨b1,o1,cs1,rfl,hb1,hat1⟩:=hx0.get j (by rw [Hn.out];omega)
      obtain ⟨b2,o2,cs2,rfl,hb2,hat2⟩:=hy0.get j (by rw [Hm.out];omega)
      obtain ⟨x,ex⟩:∃ x,xs[j]'(by rw [Hn.out];omega)=x:=⟨_,rfl⟩
      obtain ⟨y,ey⟩:∃ y,ys[j]'(by rw [Hm.out];omega)=y:=⟨_,rfl⟩
      have c1:w0.cell? ⟨b1,o1+j,none⟩=some (.int .i64 (x:Int)):=by
       rw [hb1.cell,hat1 j (by rw [Hn.out];omega),ex];rfl
      have c2:w0.cell? ⟨b2,o2+j,none⟩=some (.int .i64 (y:Int)):=by
       rw [hb2.cell,hat2 j (by rw [Hm.out];omega),ey];rfl
      have e1:((j+1:Nat):Int)-1=(j:Int):=by omega
      rw [e1]
      clear e1
      have EX:=Lib.hid ex
      have EY:=Lib.hid ey
      clear ex ey
      rcases Nat.lt_trichotomy x y with hxy | hxy | hxy
      · have t1:decide ((x:Int)<(y:Int))=true:=decide_eq_true (by omega)
        have hC:=Lib.hid (R4 (cA D xs ys j (by rw [Hn.out,Hm.out]) (by rw [Hn.out];omega) dx hd.out (by rw [EX.out,EY.out];exact hxy)))
        go_wp2_with fail
        go_quiet (fail)
        go_wp2_with fail
        go_ret
        exact ⟨by rw [hC.out];rfl,A2 hgw0 (A2 (C1 _ _ _) (C1 _ _ _))⟩
      · subst hxy
        have t1:decide ((x:Int)<(x:Int))=false:=decide_eq_false (by omega)
        go_wp2_with fail
        go_quiet (fail)
        go_wp2_with fail
        go_quiet (fail)
        go_wp2_with fail
        go_roundw
        case rel=>exact ⟨j,_,by omega,by go_num,rfl,by
         show _=_;rw [List.drop_eq_getElem_cons (by rw [Hn.out];omega),List.drop_eq_getElem_cons (l:=ys) (by rw [Hm.out];omega),EX.out,EY.out,hd.out]⟩
        case measure=>simp [intOf]
      · have t1:decide ((x:Int)<(y:Int))=false:=decide_eq_false (by omega)
        have t2:decide ((y:Int)<(x:Int))=true:=decide_eq_true (by omega)
        have hC:=Lib.hid (R5 (cA D ys xs j (by rw [Hn.out,Hm.out]) (by rw [Hm.out];omega) dy hd.out.symm (by rw [EX.out,EY.out];exact hxy)))
        go_wp2_with fail
        go_quiet (fail)
        go_wp2_with fail
        go_quiet (fail)
        go_wp2_with fail
        go_ret
        exact ⟨by rw [hC.out];rfl,A2 hgw0 (A2 (A2 (C1 _ _ _) (C1 _ _ _)) (C1 _ _ _))⟩
 · have hF:Hid (G3 (val D xs) (val D ys)=1):=R5 (G9 D bX ys xs dy tx (by rw [Hn.out,Hm.out];exact h))
   have f1:decide ((n:Int)<(m:Int))=false:=decide_eq_false (by omega)
   have f2:decide ((m:Int)<(n:Int))=true:=decide_eq_true (by omega)
   go_enter Tryz.func88,Tryz.ntmps88
   go_wp2_with fail
   go_ret
   exact ⟨by rw [hF.out];rfl,hgw0⟩
theorem radd_step {v c x y p d q s:Nat} (h:v+c*p=s) (hd:(c+x+y)%10000=d) (hq:(c+x+y) / 10000=q):v+p*d+q*(p*D)=s+p*x+p*y:=by
 have:=Nat.div_add_mod (c+x+y) 10000
 rw [hd,hq] at this
 rw [<- h]
 have h2:p*d+q*(p*D)=p*(c+x+y):=by rw [<- this];unfold D;grind
 have h3:p*(c+x+y)=c*p+p*x+p*y:=by grind
 omega
theorem I9 (xs:List Nat) (k:Nat):val D (xs.take (k+1))=val D (xs.take k)+D^k*xs.getD k 0:=by
 rcases Nat.lt_or_ge k xs.length with h | h
 · rw [C8 D xs k h,List.getD_eq_getElem?_getD,List.getElem?_eq_getElem h];rfl
 · rw [List.take_of_length_le (by omega),List.take_of_length_le (by omega),List.getD_eq_getElem?_getD,List.getElem?_eq_none (by omega)];simp
theorem getD_top {xs:List Nat} {k:Nat} (ht:Top xs) (h:xs.length=k+1):xs.getD k 0≠0:=by
 rw [List.getD_eq_getElem?_getD,List.getElem?_eq_getElem (by omega)]
 refine ht _ ?_
 have e:xs.length-1=k:=by omega
 rw [List.getLast?_eq_getElem?,e,List.getElem?_eq_getElem (by omega)];rfl
theorem V7 {xs:List Nat} (hd:Dig D xs) (k:Nat):xs.getD k 0<10000:=hd.getD bX k
theorem mQ {xs:List Nat} {k n:Nat} (hn:xs.length=n) (h:n<=k):xs.getD k 0=0:=by
 rw [List.getD_eq_getElem?_getD,List.getElem?_eq_none (by omega)];rfl
theorem jB {w:World} {s:Option Addr} {xs:List Nat} {n:Nat} (h:RRdo w s xs) (hn:xs.length=n) (k:Nat) (hk:k<n):∃ b o,s=some ⟨b,o,none⟩/\w.cell? ⟨b,o+k,none⟩=some (.int .i64 (xs.getD k 0:Int)):=by
 obtain ⟨b,o,cs,e,h1,h2⟩:=h.get k (by omega)
 refine ⟨b,o,e, ?_⟩
 rw [h1.cell,h2 k (by omega),List.getD_eq_getElem?_getD,List.getElem?_eq_getElem (by omega)];rfl
theorem RRdo.below {w w':World} {N:Nat} {s:Option Addr} {xs:List Nat} (h:RRdo w s xs) (hb:Below N w w') (hN:w.heap.size<=N):RRdo w' s xs:=by
 rcases h with h | ⟨b,off,cs,e,h1,h2⟩
 · exact Or.inl h
 · exact Or.inr ⟨b,off,cs,e,(hb.block b (Nat.lt_of_lt_of_le h1.lt hN)).trans h1,h2⟩
set_option maxHeartbeats 8000000 in
theorem rAdd_any (w:World) (va vb:Value) (a b:Nat) (ha:RefV w va a) (hb:RefV w vb b) (ba:a<D^1000000) (bb:b<D^1000000) :
 Calls Tryz.prog 81 #[va,vb] w (X3 w (a+b)):=by
 obtain ⟨sa,n,cx,xs,rfl,hn,hnc,hx,tx,dx,rfl⟩:=ha
 obtain ⟨sb,m,cy,ys,rfl,hm,hmc,hy,ty,dy,rfl⟩:=hb
 have Hn:=Lib.hid hn
 have Hm:=Lib.hid hm
 have hn6:n<=1000000:=rlen tx hn ba
 have hm6:m<=1000000:=rlen ty hm bb
 obtain ⟨i1,hi,hz0,hz1,hz2⟩:=V6
 have hgw0:w.grownBy (((w.alloc (.cells #[.slice sa n cx] 30)).alloc (.cells #[.slice sb m cy] 30)).alloc (.cells #[.slice none 0 0] 30)) none:=A7 (A7 (World.grownBy_alloc _ _ _) _) _
 have hboxr:=A8 ((w.alloc (.cells #[.slice sa n cx] 30)).alloc (.cells #[.slice sb m cy] 30)) (.cells #[.slice none 0 0] 30) (w.heap.size+1+1) (by simp)
 have hboxb:=(Below.heap_alloc _ (.cells #[.slice none 0 0] 30) (w.heap.size+1) (by simp)).trans (A8 (w.alloc (.cells #[.slice sa n cx] 30)) (.cells #[.slice sb m cy] 30) (w.heap.size+1) (by simp))
 have hboxa:=((Below.heap_alloc _ (.cells #[.slice none 0 0] 30) w.heap.size (by simp;omega)).trans (Below.heap_alloc _ (.cells #[.slice sb m cy] 30) w.heap.size (by simp))).trans (A8 w (.cells #[.slice sa n cx] 30) w.heap.size rfl)
 have hs0:(((w.alloc (.cells #[.slice sa n cx] 30)).alloc (.cells #[.slice sb m cy] 30)).alloc (.cells #[.slice none 0 0] 30)).heap.size=w.heap.size+1+1+1:=by simp
 obtain ⟨N,hN⟩:∃ N,N=w.heap.size+1+1+1:=⟨_,rfl⟩
 have hx0:=hx.kept hgw0
 have hy0:=hy.kept hgw0
 clear hn hm ba bb hx hy
 go_enter Tryz.func81,Tryz.ntmps81
 go_wp2_with fail
 generalize (((w.alloc (.cells #[.slice sa n cx] 30)).alloc (.cells #[.slice sb m cy] 30)).alloc (.cells #[.slice none 0 0] 30))=w0 at *
 go_loopg [5,6,7] (max n m+1) (fun gh s c i wr=>∃ (k cc:Nat) (sl:Option Addr) (cl:Nat) (ds:List Nat),s = .slice sl k cl/\c = .int .i64 cc/\i = .int .i64 k/\cc<=1/\k<=max n m+1/\(k=max n m+1->cc=0)/\max n m+1-k<=gh/\wr.ownsRow N 3 1 (.slice sl k cl) k (ds.map iv)/\Hid (ds.length=k)/\Dig D ds/\Hid (n<=k->m<=k->cc=0->Top ds)/\Hid (val D ds+cc*D^k=val D (xs.take k)+val D (ys.take k))/\Below N w0 wr)
 case atStart=>exact ⟨0,0,none,0,[],rfl,rfl,rfl,by omega,by omega,by omega,by omega,⟨rfl,Or.inl ⟨rfl,rfl⟩⟩,rfl,Dig.nil _,fun _ _ _ x hx=>by simp at hx,by show _=_;simp [val],Below.refl _ _⟩
 case round=>
  obtain ⟨k,cc,sl,cl,ds,rfl,rfl,rfl,hc1,hkm,hkc,hgh,hown,hdl,hdd,htp,hv,hbl⟩:=hrel
  obtain ⟨ca,fa⟩:=B7 (K8 hbl hboxa (by omega))
  obtain ⟨cb,fb⟩:=B7 (K8 hbl hboxb (by omega))
  have hboxr1:=K8 hbl hboxr (by omega)
  obtain ⟨cr,fr⟩:=B7 hboxr1
  have hsr:N<=wr.heap.size:=by have:=hbl.size;omega
  have hxr:RRdo wr sa xs:=hx0.below hbl (by omega)
  have hyr:RRdo wr sb ys:=hy0.below hbl (by omega)
  by_cases hend:n<=k/\m<=k/\cc=0
  · obtain ⟨hnk,hmk,rfl⟩:=hend
    have f1:decide ((k:Int)<(n:Int))=false:=decide_eq_false (by omega)
    have f2:decide ((k:Int)<(m:Int))=false:=decide_eq_false (by omega)
    obtain ⟨hrd,hcap,_⟩:=lU hown
    have hF:Hid (X3 w (val D xs+val D ys) (.returned (.agg #[.slice sl k cl])) (wr.setCell ⟨w.heap.size+1+1,0,none⟩ (.slice sl k cl))):=by
     refine ⟨_,rfl,⟨sl,k,cl,ds,rfl,hdl.out,hcap,hrd.set_other hboxr1 (by decide) 0 _,htp.out hnk hmk rfl,hdd, ?_⟩,D6 (K1 hgw0 hbl (by omega)) (C9 (B0 _ _) _ _) (by omega)⟩
     have:=hv.out
     rw [List.take_of_length_le (by rw [Hn.out];exact hnk),List.take_of_length_le (by rw [Hm.out];exact hmk)] at this
     omega
    clear hown hbl hboxr1 hv htp hxr hyr
    go_wp2_with fail
    exact bodyPost_ret (v := .agg #[.slice sl k cl]) (by simp [results,Tryz.results81,go_sem,cr]) rfl hF.out
  · obtain ⟨x,hxk⟩:∃ x,xs.getD k 0=x:=⟨_,rfl⟩
    obtain ⟨y,hyk⟩:∃ y,ys.getD k 0=y:=⟨_,rfl⟩
    have hx4:x<10000:=hxk ▸ V7 dx k
    have hy4:y<10000:=hyk ▸ V7 dy k
    obtain ⟨d,hd⟩:∃ d,(cc+x+y)%10000=d:=⟨_,rfl⟩
    obtain ⟨q,hq⟩:∃ q,(cc+x+y) / 10000=q:=⟨_,rfl⟩
    have hvn:Hid (val D (ds++[d])+q*D^(k+1)=val D (xs.take (k+1))+val D (ys.take (k+1))):=by
     show _=_
     rw [G0,hdl.out,Nat.pow_succ,radd_step hv.out hd hq,I9,I9,hxk,hyk];omega
    have hxo:n<=k->x=0:=fun h=>by rw [<- hxk];exact mQ Hn.out h
    have hyo:m<=k->y=0:=fun h=>by rw [<- hyk];exact mQ Hm.out h
    have hxt:n=k+1->x≠0:=fun h=>by rw [<- hxk];exact getD_top tx (by rw [Hn.out];exact h)
    have hyt:m=k+1->y≠0:=fun h=>by rw [<- hyk];exact getD_top ty (by rw [Hm.out];exact h)
    have htp2:Hid (n<=k+1->m<=k+1->q=0->Top (ds++[d])):=fun h1 h2 h3=>kW (by omega)
    have hk2:k<max n m+1:=by omega
    have hk3:k+1=max n m+1->q=0:=by omega
    have hd4:d<10000:=by omega
    have hq1:q<=1:=by omega
    have hownA:=R2 hown (.cells #[iv d] 3)
    have hnews:∀ j u,([iv d]:List Value)[j]?=some u->(wr.alloc (.cells #[iv d] 3)).cell? ((⟨wr.heap.size,0,none⟩:Addr).add j)=some u:=World.news_of_block (heap_alloc_new wr _)
    have hsi:N<=(wr.alloc (.cells #[iv d] 3)).heap.size:=by simp;omega
    have hblA:Below N w0 (wr.alloc (.cells #[iv d] 3)):=hbl.trans (I7 (World.grownBy_alloc _ _ _) hsr)
    have HX:=Lib.hid hxk
    have HY:=Lib.hid hyk
    clear hxk hyk hxt hyt hown hbl hv htp hboxr1 hkc
    by_cases hkn:k<n<;>by_cases hkm2:k<m
    ·
     obtain ⟨b1,o1,rfl,c1⟩:=jB hxr Hn.out k (by omega);rw [HX.out] at c1;have f1:decide ((k:Int)<(n:Int))=true:=decide_eq_true (by omega)
     obtain ⟨b2,o2,rfl,c2⟩:=jB hyr Hm.out k (by omega);rw [HY.out] at c2;have f2:decide ((k:Int)<(m:Int))=true:=decide_eq_true (by omega)
     have e1:((cc:Int)+(x:Int)+(y:Int))%10000=(d:Int):=by omega
     have e2:((cc:Int)+(x:Int)+(y:Int)) / 10000=(q:Int):=by omega
     clear hd hq hxo hyo
     go_wp2_with (at_builtin;refine wpList_append_lies _ rfl _ _ _ rfl N 3 i1 (.int .i64 0) 1 8 Tryz.underlying28 hi hz0 hz1 hz2 rfl (by omega) (.slice sl k cl) k (ds.map iv) rfl hownA ⟨wr.heap.size,0,none⟩ 1 1 [iv d] rfl rfl hnews aE (by omega) (by unfold maxLen;omega) (by omega) hsi (wr.heap.size+1) (by simp) ?_;intro g2 cap2 w5 hown5 hgrow hat9 hlt9)
     have hbl5:=hblA.trans (N3 hownA hgrow hsi)
     have hmap:ds.map iv++[iv d]=(ds++[d]).map iv:=by rw [List.map_append];rfl
     rw [hmap] at hown5
     have hl5:Hid ((ds++[d]).length=k+1):=by show _=_;rw [List.length_append,hdl.out];rfl
     clear hgrow hownA hnews hblA hmap
     go_roundg (max n m-k)
     case measure=>omega
     case rel=>exact ⟨k+1,q,_,cap2,ds++[d],rfl,(by first | rfl | rw [e2]),by go_num,hq1,by omega,hk3,by omega,hown5,hl5,hdd.snoc hd4,htp2,hvn,hbl5⟩
    ·
     obtain ⟨b1,o1,rfl,c1⟩:=jB hxr Hn.out k (by omega);rw [HX.out] at c1;have f1:decide ((k:Int)<(n:Int))=true:=decide_eq_true (by omega)
     have f2:decide ((k:Int)<(m:Int))=false:=decide_eq_false (by omega)
     have y00:=hyo (by omega)
     have e1:((cc:Int)+(x:Int))%10000=(d:Int):=by omega
     have e2:((cc:Int)+(x:Int)) / 10000=(q:Int):=by omega
     clear hd hq hxo hyo
     go_wp2_with (at_builtin;refine wpList_append_lies _ rfl _ _ _ rfl N 3 i1 (.int .i64 0) 1 8 Tryz.underlying28 hi hz0 hz1 hz2 rfl (by omega) (.slice sl k cl) k (ds.map iv) rfl hownA ⟨wr.heap.size,0,none⟩ 1 1 [iv d] rfl rfl hnews aE (by omega) (by unfold maxLen;omega) (by omega) hsi (wr.heap.size+1) (by simp) ?_;intro g2 cap2 w5 hown5 hgrow hat9 hlt9)
     have hbl5:=hblA.trans (N3 hownA hgrow hsi)
     have hmap:ds.map iv++[iv d]=(ds++[d]).map iv:=by rw [List.map_append];rfl
     rw [hmap] at hown5
     have hl5:Hid ((ds++[d]).length=k+1):=by show _=_;rw [List.length_append,hdl.out];rfl
     clear hgrow hownA hnews hblA hmap
     go_roundg (max n m-k)
     case measure=>omega
     case rel=>exact ⟨k+1,q,_,cap2,ds++[d],rfl,(by first | rfl | rw [e2]),by go_num,hq1,by omega,hk3,by omega,hown5,hl5,hdd.snoc hd4,htp2,hvn,hbl5⟩
    ·
     have f1:decide ((k:Int)<(n:Int))=false:=decide_eq_false (by omega)
     obtain ⟨b2,o2,rfl,c2⟩:=jB hyr Hm.out k (by omega);rw [HY.out] at c2;have f2:decide ((k:Int)<(m:Int))=true:=decide_eq_true (by omega)
     have x00:=hxo (by omega)
     have e1:((cc:Int)+(y:Int))%10000=(d:Int):=by omega
     have e2:((cc:Int)+(y:Int)) / 10000=(q:Int):=by omega
     clear hd hq hxo hyo
     go_wp2_with (at_builtin;refine wpList_append_lies _ rfl _ _ _ rfl N 3 i1 (.int .i64 0) 1 8 Tryz.underlying28 hi hz0 hz1 hz2 rfl (by omega) (.slice sl k cl) k (ds.map iv) rfl hownA ⟨wr.heap.size,0,none⟩ 1 1 [iv d] rfl rfl hnews aE (by omega) (by unfold maxLen;omega) (by omega) hsi (wr.heap.size+1) (by simp) ?_;intro g2 cap2 w5 hown5 hgrow hat9 hlt9)
     have hbl5:=hblA.trans (N3 hownA hgrow hsi)
     have hmap:ds.map iv++[iv d]=(ds++[d]).map iv:=by rw [List.map_append];rfl
     rw [hmap] at hown5
     have hl5:Hid ((ds++[d]).length=k+1):=by show _=_;rw [List.length_append,hdl.out];rfl
     clear hgrow hownA hnews hblA hmap
     go_roundg (max n m-k)
     case measure=>omega
     case rel=>exact ⟨k+1,q,_,cap2,ds++[d],rfl,(by first | rfl | rw [e2]),by go_num,hq1,by omega,hk3,by omega,hown5,hl5,hdd.snoc hd4,htp2,hvn,hbl5⟩
    ·
     have f1:decide ((k:Int)<(n:Int))=false:=decide_eq_false (by omega)
     have f2:decide ((k:Int)<(m:Int))=false:=decide_eq_false (by omega)
     have y00:=hyo (by omega)
     have x00:=hxo (by omega)
     obtain rfl:cc=1:=by omega
     subst x00
     subst y00
     obtain rfl:d=1:=by omega
     obtain rfl:q=0:=by omega
     have e0:iv 1 = .int .i64 1:=rfl
     rw [e0] at hownA hnews hblA hsi
     clear hd hq hxo hyo
     go_wp2_with (at_builtin;refine wpList_append_lies _ rfl _ _ _ rfl N 3 i1 (.int .i64 0) 1 8 Tryz.underlying28 hi hz0 hz1 hz2 rfl (by omega) (.slice sl k cl) k (ds.map iv) rfl hownA ⟨wr.heap.size,0,none⟩ 1 1 [Value.int .i64 1] rfl rfl hnews aE (by omega) (by unfold maxLen;omega) (by omega) hsi (wr.heap.size+1) (by simp) ?_;intro g2 cap2 w5 hown5 hgrow hat9 hlt9)
     have hbl5:=hblA.trans (N3 hownA hgrow hsi)
     have hmap:ds.map iv++[Value.int .i64 1]=(ds++[1]).map iv:=by rw [List.map_append];rfl
     rw [hmap] at hown5
     have hl5:Hid ((ds++[1]).length=k+1):=by show _=_;rw [List.length_append,hdl.out];rfl
     clear hgrow hownA hnews hblA hmap
     go_roundg (max n m-k)
     case measure=>omega
     case rel=>exact ⟨k+1,0,_,cap2,ds++[1],rfl,(by first | rfl | rw [e2]),by go_num,hq1,by omega,fun _=>rfl,by omega,hown5,hl5,hdd.snoc hd4,fun a b _=>(show Top (ds++[1]) from kW (by omega)),hvn,hbl5⟩
theorem RefV.zero (w:World):RefV w (.agg #[.slice none 0 0]) 0:=⟨none,0,0,[],rfl,rfl,Nat.le_refl _,Or.inl rfl,fun x hx=>by simp at hx,Dig.nil _,rfl⟩
theorem RefV.set_other {w:World} {v:Value} {n g:Nat} {c:Array Value} {t:TypeId} (h:RefV w v n) (hbox:w.heap[g]?=some (.cells c t (0,0))) (ht:t≠3) (o:Nat) (u:Value):RefV (w.setCell ⟨g,o,none⟩ u) v n:=by
 obtain ⟨s,k,cap,xs,e,h1,h2,h3,h4⟩:=h
 exact ⟨s,k,cap,xs,e,h1,h2,h3.set_other hbox ht o u,h4⟩
theorem rret {w w':World} {v:Value} {n g:Nat} {c:Array Value} {t:TypeId} (hg:w.grownBy w' none) (hbox:w'.heap[g]?=some (.cells c t (0,0))) (ht:t≠3) (hl:w.heap.size<=g) (h:RefV w' v n) (u:Value) :
 X3 w n (.returned v) (w'.setCell ⟨g,0,none⟩ u):=⟨v,rfl,h.set_other hbox ht 0 u,D6 hg (C9 (B0 _ _) _ _) hl⟩
def DigL (l:List Nat):Prop:=∀ k (h:k<l.length),48<=l[k]/\l[k]<=57
theorem DigL.append {l m:List Nat} (h:DigL l) (g:DigL m):DigL (l++m):=by
 intro k hk
 rcases Nat.lt_or_ge k l.length with h1 | h1
 · rw [List.getElem_append_left h1];exact h k h1
 · rw [List.getElem_append_right h1];exact g _ _
theorem DigL.drop {l:List Nat} (h:DigL l) (n:Nat):DigL (l.drop n):=by
 intro k hk
 rw [List.getElem_drop];exact h _ _
def M0 (x y:Int):Int:=if x<y then -1 else if x=y then 0 else 1
theorem zcmp_pos {x y:Int} (hx : 0<=x) (hy : 0<=y):G3 x.natAbs y.natAbs=M0 x y:=by
 unfold G3 M0
 rcases Int.lt_trichotomy x y with h | h | h
 · rw [if_pos (by omega),if_pos h]
 · rw [if_neg (by omega),if_pos (by omega),if_neg (by omega),if_pos h]
 · rw [if_neg (by omega),if_neg (by omega),if_neg (by omega),if_neg (by omega)]
theorem zcmp_neg {x y:Int} (hx:x<0) (hy:y<0):G3 y.natAbs x.natAbs=M0 x y:=by
 unfold G3 M0
 rcases Int.lt_trichotomy x y with h | h | h
 · rw [if_pos (by omega),if_pos h]
 · rw [if_neg (by omega),if_pos (by omega),if_neg (by omega),if_pos h]
 · rw [if_neg (by omega),if_neg (by omega),if_neg (by omega),if_neg (by omega)]
theorem S5 (x:Int):(x<0/\x.sign = -1)\/(x=0/\x.sign=0)\/(0<x/\x.sign=1):=by
 rcases Int.lt_trichotomy x 0 with h | h | h
 · left;exact ⟨h,Int.sign_eq_neg_one_of_neg h⟩
 · right;left;subst h;exact ⟨rfl,rfl⟩
 · right;right;exact ⟨h,Int.sign_eq_one_of_pos h⟩
theorem kU (x y:Int):(x.sign<y.sign/\M0 x y = -1)\/(y.sign<x.sign/\M0 x y=1)\/(x.sign=y.sign/\x.sign<0/\x<0/\y<0)\/(x.sign=y.sign /\ ¬ x.sign<0/\0<=x/\0<=y):=by
 unfold M0
 rcases S5 x with ⟨h,e⟩ | ⟨h,e⟩ | ⟨h,e⟩<;>rcases S5 y with ⟨k,f⟩ | ⟨k,f⟩ | ⟨k,f⟩<;>rw [e,f]
 · right;right;left;exact ⟨rfl,by omega,h,k⟩
 · left;exact ⟨by omega,if_pos (by omega)⟩
 · left;exact ⟨by omega,if_pos (by omega)⟩
 · right;left;refine ⟨by omega, ?_⟩;rw [if_neg (by omega),if_neg (by omega)]
 · right;right;right;exact ⟨rfl,by omega,by omega,by omega⟩
 · left;exact ⟨by omega,if_pos (by omega)⟩
 · right;left;refine ⟨by omega, ?_⟩;rw [if_neg (by omega),if_neg (by omega)]
 · right;left;refine ⟨by omega, ?_⟩;rw [if_neg (by omega),if_neg (by omega)]
 · right;right;right;exact ⟨rfl,by omega,by omega,by omega⟩
set_option maxHeartbeats 8000000 in
theorem nV (w:World) (va vb:Value) (x y:Int) (K:Nat) (ha:IntV w va x) (hb:IntV w vb y) (hK:K<=900000) (la:x.natAbs<B^K) (lb:y.natAbs<B^K) :
 Calls Tryz.prog 116 #[va,vb] w (fun e w'=>e = .returned (.int .i64 (M0 x y))/\w.grownBy w' none):=by
 obtain ⟨sa,xs,za,rfl,hx,hv,hza⟩:=ha
 obtain ⟨sb,ys,zb,rfl,hy,hvy,hzb⟩:=hb
 have hgw0:w.grownBy ((w.alloc (.cells #[.slice sa xs.length xs.length,.bool za] 46)).alloc (.cells #[.slice sb ys.length ys.length,.bool zb] 46)) none:=A7 (World.grownBy_alloc _ _ _) _
 have hbb:=A8 (w.alloc (.cells #[.slice sa xs.length xs.length,.bool za] 46)) (.cells #[.slice sb ys.length ys.length,.bool zb] 46) (w.heap.size+1) (by simp)
 have hba:=A1 (World.grownBy_alloc _ (.cells #[.slice sb ys.length ys.length,.bool zb] 46) none) (A8 w (.cells #[.slice sa xs.length xs.length,.bool za] 46) w.heap.size rfl)
 have ia:IntV ((w.alloc (.cells #[.slice sa xs.length xs.length,.bool za] 46)).alloc (.cells #[.slice sb ys.length ys.length,.bool zb] 46)) (.agg #[.slice sa xs.length xs.length,.bool za]) x:=⟨sa,xs,za,rfl,hx.kept hgw0,hv,hza⟩
 have ib:IntV ((w.alloc (.cells #[.slice sa xs.length xs.length,.bool za] 46)).alloc (.cells #[.slice sb ys.length ys.length,.bool zb] 46)) (.agg #[.slice sb ys.length ys.length,.bool zb]) y:=⟨sb,ys,zb,rfl,hy.kept hgw0,hvy,hzb⟩
 have na:NatV ((w.alloc (.cells #[.slice sa xs.length xs.length,.bool za] 46)).alloc (.cells #[.slice sb ys.length ys.length,.bool zb] 46)) (.agg #[.slice sa xs.length xs.length]) x.natAbs:=⟨sa,xs,rfl,hx.kept hgw0,hv⟩
 have nn:NatV ((w.alloc (.cells #[.slice sa xs.length xs.length,.bool za] 46)).alloc (.cells #[.slice sb ys.length ys.length,.bool zb] 46)) (.agg #[.slice sb ys.length ys.length]) y.natAbs:=⟨sb,ys,rfl,hy.kept hgw0,hvy⟩
 have Hla:=Lib.hid la
 have Hlb:=Lib.hid lb
 have hc:=kU x y
 obtain ⟨s1,h1⟩:∃ s,x.sign=s:=⟨_,rfl⟩
 obtain ⟨s2,h2⟩:∃ s,y.sign=s:=⟨_,rfl⟩
 rw [h1,h2] at hc
 have H1:=Lib.hid h1
 have H2:=Lib.hid h2
 clear hx hv hy hvy la lb hza hzb h1 h2
 have hc4:(decide (s1<s2)=true/\Hid (M0 x y = -1))\/(decide (s1<s2)=false/\decide (s2<s1)=true/\Hid (M0 x y=1))\/(decide (s1<s2)=false/\decide (s2<s1)=false/\decide (s1<0)=true/\Hid (G3 y.natAbs x.natAbs=M0 x y))\/(decide (s1<s2)=false/\decide (s2<s1)=false/\decide (s1<0)=false/\Hid (G3 x.natAbs y.natAbs=M0 x y)):=by
  rcases hc with ⟨q,r⟩ | ⟨q,r⟩ | ⟨q,r,t,u⟩ | ⟨q,r,t,u⟩
  · left;exact ⟨decide_eq_true q,r⟩
  · right;left;exact ⟨decide_eq_false (by omega),decide_eq_true q,r⟩
  · right;right;left;exact ⟨decide_eq_false (by omega),decide_eq_false (by omega),decide_eq_true r,zcmp_neg t u⟩
  · right;right;right;exact ⟨decide_eq_false (by omega),decide_eq_false (by omega),decide_eq_false r,zcmp_pos t u⟩
 clear hc
 rcases hc4 with ⟨f1,hz⟩ | ⟨f1,f2,hz⟩ | ⟨f1,f2,f3,hz⟩ | ⟨f1,f2,f3,hz⟩
 all_goals (
  go_enter Tryz.func116,Tryz.ntmps116
  go_wp2_with fail
  generalize ((w.alloc (.cells #[.slice sa xs.length xs.length,.bool za] 46)).alloc (.cells #[.slice sb ys.length ys.length,.bool zb] 46))=w0 at *
  obtain ⟨ca0,ca1,fa0,fa1⟩:=A3 hba
  obtain ⟨cb0,cb1,fb0,fb1⟩:=A3 hbb
  go_region_held3 (fun w'=>w'.cell? ⟨w.heap.size,0,none⟩=some (.slice sa xs.length xs.length)/\w'.cell? ⟨w.heap.size,1,none⟩=some (.bool za)/\w'.cell? ⟨w.heap.size+1,0,none⟩=some (.slice sb ys.length ys.length)/\w'.cell? ⟨w.heap.size+1,1,none⟩=some (.bool zb))
   (first | assumption | exact ⟨ca0,ca1,cb0,cb1⟩ | go_keep)
   (first
    | (go_at_call 118;(with_reducible refine (G8 w0.drew _ x K (ia.kept (C4 (B0 _ _))) (by omega) Hla.out).mono ?_);rintro e w1 ⟨rfl,g1⟩;rw [H1.out];have hG1:=H5 w0 g1 rfl rfl rfl rfl;have hS1:=And.intro (hG1.cell ca0 (by simp)) (And.intro (hG1.cell ca1 (by simp)) (And.intro (hG1.cell cb0 (by simp)) (hG1.cell cb1 (by simp)))))
    | (go_at_call 118;(with_reducible refine (G8 w1 _ y K (ib.kept hG1) (by omega) Hlb.out).mono ?_);rintro e w2 ⟨rfl,g2⟩;rw [H2.out];have hG2:=A2 hG1 g2;have hS2:=And.intro (hG2.cell ca0 (by simp)) (And.intro (hG2.cell ca1 (by simp)) (And.intro (hG2.cell cb0 (by simp)) (hG2.cell cb1 (by simp))))))
  have hgw:=A2 hgw0 hG2
  obtain ⟨da0,da1,ga0,ga1⟩:=A3 (A1 hG2 hba)
  obtain ⟨db0,db1,gb0,gb1⟩:=A3 (A1 hG2 hbb)
  have na2:=na.kept hG2
  have nn2:=nn.kept hG2
  go_wp2_with fail)
 · go_ret
   exact ⟨by rw [hz.out];rfl,hgw⟩
 · go_ret
   exact ⟨by rw [hz.out];rfl,hgw⟩
 · refine (Cmp_any w2 _ _ y.natAbs x.natAbs K nn2 na2 (by omega) Hlb.out Hla.out).mono ?_
   rintro e w3 ⟨rfl,g3⟩
   go_wp2_with fail
   go_ret
   exact ⟨by rw [<- hz.out];rfl,A2 hgw g3⟩
 · refine (Cmp_any w2 _ _ x.natAbs y.natAbs K na2 nn2 (by omega) Hla.out Hlb.out).mono ?_
   rintro e w3 ⟨rfl,g3⟩
   go_wp2_with fail
   go_ret
   exact ⟨by rw [<- hz.out];rfl,A2 hgw g3⟩
def bW (z:Int):Prop := -9223372036854775808<=z/\z<=9223372036854775807
instance (z:Int):Decidable (bW z):=by unfold bW;infer_instance
def Z3 (w:World) (z:Int) (e:Ending) (w':World):Prop:=
 e = .returned (.tuple #[.int .i64 (if bW z then z else 0),.bool (decide (bW z))])/\w.grownBy w' none
theorem dL {w w':World} {z c:Int} (h:bW z) (hc:c=z) (hg:w.grownBy w' none):Z3 w z (.returned (.tuple #[.int .i64 c,.bool true])) w':=
 ⟨by rw [if_pos h,decide_eq_true h,hc],hg⟩
theorem aB {w w':World} {z:Int} (h:¬ bW z) (hg:w.grownBy w' none):Z3 w z (.returned (.tuple #[.int .i64 0,.bool false])) w':=
 ⟨by rw [if_neg h,decide_eq_false h],hg⟩
set_option maxHeartbeats 4000000 in
theorem nU (w:World) (va:Value) (z:Int) (K:Nat) (ha:IntV w va z) (hK:K<=900000) (la:z.natAbs<B^K) :
 Calls Tryz.prog 224 #[va] w (Z3 w z):=by
 obtain ⟨sa,xs,za,rfl,hx,hv,hza⟩:=ha
 have hgw0:=World.grownBy_alloc w (.cells #[.slice sa xs.length xs.length,.bool za] 46) none
 have hba:=A8 w (.cells #[.slice sa xs.length xs.length,.bool za] 46) w.heap.size rfl
 have ia:IntV (w.alloc (.cells #[.slice sa xs.length xs.length,.bool za] 46)) (.agg #[.slice sa xs.length xs.length,.bool za]) z:=⟨sa,xs,za,rfl,hx.kept hgw0,hv,hza⟩
 have na:NatV (w.alloc (.cells #[.slice sa xs.length xs.length,.bool za] 46)) (.agg #[.slice sa xs.length xs.length]) z.natAbs:=⟨sa,xs,rfl,hx.kept hgw0,hv⟩
 have Hla:=Lib.hid la
 obtain ⟨s1,h1⟩:∃ s,z.sign=s:=⟨_,rfl⟩
 have H1:=Lib.hid h1
 have hB:B=18446744073709551616:=rfl
 have hc:(Hid (¬ bW z)/\decide (z.natAbs<B)=false) \/
  (decide (z.natAbs<B)=true/\decide (s1<0)=true/\decide ((z.natAbs:Int)<=9223372036854775808)=true/\Hid (bW z/\z<0)) \/
  (decide (z.natAbs<B)=true/\decide (s1<0)=true/\decide (0<=s1)=false/\decide ((z.natAbs:Int)<=9223372036854775808)=false/\Hid (¬ bW z)) \/
  (decide (z.natAbs<B)=true/\decide (s1<0)=false/\decide (0<=s1)=true/\decide ((z.natAbs:Int)<9223372036854775808)=true/\Hid (bW z/\0<=z)) \/
  (decide (z.natAbs<B)=true/\decide (s1<0)=false/\decide (0<=s1)=true/\decide ((z.natAbs:Int)<9223372036854775808)=false/\Hid (¬ bW z)):=by
  have hs:(z<0/\s1<0)\/(0<=z/\0<=s1):=by
   rcases S5 z with ⟨h,e⟩ | ⟨h,e⟩ | ⟨h,e⟩<;>omega
  have hf:bW z ↔ (-9223372036854775808<=z/\z<=9223372036854775807):=Iff.rfl
  by_cases q:z.natAbs<B
  · right
    rcases hs with ⟨h,k⟩ | ⟨h,k⟩
    · by_cases r:(z.natAbs:Int)<=9223372036854775808
      · left;exact ⟨decide_eq_true q,decide_eq_true k,decide_eq_true r,hf.2 (by omega),h⟩
      · right;left;exact ⟨decide_eq_true q,decide_eq_true k,decide_eq_false (by omega),decide_eq_false r,fun t=>by have:=hf.1 t;omega⟩
    · by_cases r:(z.natAbs:Int)<9223372036854775808
      · right;right;left;exact ⟨decide_eq_true q,decide_eq_false (by omega),decide_eq_true k,decide_eq_true r,hf.2 (by omega),h⟩
      · right;right;right;exact ⟨decide_eq_true q,decide_eq_false (by omega),decide_eq_true k,decide_eq_false r,fun t=>by have:=hf.1 t;omega⟩
  · left;exact ⟨fun t=>by have:=hf.1 t;omega,decide_eq_false q⟩
 clear hx hv la h1 hza hB
 obtain ⟨x,hx⟩:∃ x,z.natAbs=x:=⟨_,rfl⟩
 have HX:=Lib.hid hx
 rw [hx] at hc na Hla
 clear hx
 rcases hc with ⟨hz,f0⟩ | ⟨f0,f1,f2,hz⟩ | ⟨f0,f1,f3,f2,hz⟩ | ⟨f0,f1,f3,f2,hz⟩ | ⟨f0,f1,f3,f2,hz⟩
 all_goals (
  obtain ⟨ca0,ca1,fa0,fa1⟩:=A3 hba
  go_enter Tryz.func224,Tryz.ntmps224
  go_wp2_with fail
  refine (Word_any _ _ x K na (by omega) Hla.out).mono ?_
  rintro e w1 ⟨⟨y,rfl,hy,hy0⟩,g1⟩
  rw [f0]
  have hgw:=A2 hgw0 g1
  have ia1:=ia.kept g1
  have hba1:=A1 g1 hba
  obtain ⟨da0,da1,ga0,ga1⟩:=A3 hba1
  clear g1 ia hba ca0 ca1 fa0 fa1 na hgw0)
 · clear hy hy0
   have hF:Hid (Z3 w z (.returned (.tuple #[.int .i64 0,.bool false])) w1):=aB hz.out hgw
   go_wp2_with fail
   go_ret2
   exact hF.out
 · obtain rfl:y=x:=hy (of_decide_eq_true f0)
   clear hy hy0
   go_wp2_with fail
   refine (G8 w1 _ z K ia1 (by omega) (by rw [HX.out];exact Hla.out)).mono ?_
   rintro e w2 ⟨rfl,g2⟩
   rw [H1.out]
   obtain ⟨ea0,ea1,ha0,ha1⟩:=A3 (A1 g2 hba1)
   have hgw2:=A2 hgw g2
   go_wp2_with fail
   go_ret2
   refine dL hz.out.1 ?_ hgw2
   have q1:=HX.out
   have q2:=hz.out.2
   have q3:=of_decide_eq_true f2
   simp only [IntKind.wrap_u64]
   unfold wrap64
   omega
 · obtain rfl:y=x:=hy (of_decide_eq_true f0)
   clear hy hy0
   go_wp2_with fail
   refine (G8 w1 _ z K ia1 (by omega) (by rw [HX.out];exact Hla.out)).mono ?_
   rintro e w2 ⟨rfl,g2⟩
   rw [H1.out]
   have hba2:=A1 g2 hba1
   obtain ⟨ea0,ea1,ha0,ha1⟩:=A3 hba2
   have hgw2:=A2 hgw g2
   have ia2:=ia1.kept g2
   go_wp2_with fail
   refine (G8 w2 _ z K ia2 (by omega) (by rw [HX.out];exact Hla.out)).mono ?_
   rintro e w3 ⟨rfl,g3⟩
   rw [H1.out]
   have hF:Hid (Z3 w z (.returned (.tuple #[.int .i64 0,.bool false])) w3):=aB hz.out (A2 hgw2 g3)
   go_wp2_with fail
   go_ret2
   exact hF.out
 · obtain rfl:y=x:=hy (of_decide_eq_true f0)
   clear hy hy0
   go_wp2_with fail
   refine (G8 w1 _ z K ia1 (by omega) (by rw [HX.out];exact Hla.out)).mono ?_
   rintro e w2 ⟨rfl,g2⟩
   rw [H1.out]
   have hba2:=A1 g2 hba1
   obtain ⟨ea0,ea1,ha0,ha1⟩:=A3 hba2
   have hgw2:=A2 hgw g2
   have ia2:=ia1.kept g2
   go_wp2_with fail
   refine (G8 w2 _ z K ia2 (by omega) (by rw [HX.out];exact Hla.out)).mono ?_
   rintro e w3 ⟨rfl,g3⟩
   rw [H1.out]
   have hgw3:=A2 hgw2 g3
   go_wp2_with fail
   go_ret2
   refine dL hz.out.1 ?_ hgw3
   have q1:=HX.out
   have q2:=hz.out.2
   have q3:=of_decide_eq_true f2
   try unfold wrap64
   omega
 · obtain rfl:y=x:=hy (of_decide_eq_true f0)
   clear hy hy0
   go_wp2_with fail
   refine (G8 w1 _ z K ia1 (by omega) (by rw [HX.out];exact Hla.out)).mono ?_
   rintro e w2 ⟨rfl,g2⟩
   rw [H1.out]
   have hba2:=A1 g2 hba1
   obtain ⟨ea0,ea1,ha0,ha1⟩:=A3 hba2
   have hgw2:=A2 hgw g2
   have ia2:=ia1.kept g2
   go_wp2_with fail
   refine (G8 w2 _ z K ia2 (by omega) (by rw [HX.out];exact Hla.out)).mono ?_
   rintro e w3 ⟨rfl,g3⟩
   rw [H1.out]
   have hF:Hid (Z3 w z (.returned (.tuple #[.int .i64 0,.bool false])) w3):=aB hz.out (A2 hgw2 g3)
   go_wp2_with fail
   go_ret2
   exact hF.out
theorem zfl {x y q r:Int} (h0 : 0<=r) (h1:r<y.natAbs) (h:r+y*q=x):q=x / y/\r=x%y:=by
 rcases Int.lt_trichotomy y 0 with hy | hy | hy
 · have t:x / (-y) = -q/\x%(-y)=r:=(Int.ediv_emod_unique (by omega)).2 ⟨by rw [Int.neg_mul_neg];exact h,h0,by omega⟩
   rw [Int.ediv_neg,Int.emod_neg] at t
   exact ⟨by omega,t.2.symm⟩
 · subst hy;simp at h1;omega
 · have t:x / y=q/\x%y=r:=(Int.ediv_emod_unique hy).2 ⟨h,h0,by omega⟩
   exact ⟨t.1.symm,t.2.symm⟩
theorem iA {x y:Int} {za zb:Bool} (ha:za=true ↔ x<0) (hb:zb=true ↔ y<0) (k r:Nat) (hr:r<y.natAbs) (h:(¬ x<0/\y.natAbs*k+r=x.natAbs)\/(x<0/\y.natAbs*k=x.natAbs+r)) :
 (if (za != zb)=true then -(k:Int) else k)=x / y/\(r:Int)=x%y:=by
 refine zfl (by omega) (by omega) ?_
 have e:((y.natAbs*k:Nat):Int)=(y.natAbs:Int)*(k:Int):=Int.natCast_mul _ _
 have e1:=bA ha
 have e2:=bA hb
 obtain ⟨m,hm⟩:∃ m:Int,(y.natAbs:Int)=m:=⟨_,rfl⟩
 have f1:m * -(k:Int) = -(m*k):=Int.mul_neg _ _
 have f2 : -m*(k:Int) = -(m*k):=Int.neg_mul _ _
 have f3 : -m * -(k:Int)=m*k:=Int.neg_mul_neg _ _
 rw [hm] at e e2
 generalize y.natAbs*k=p at *
 cases za<;>cases zb<;>simp at e1 e2 ha hb ⊢
 · rw [<- e2];omega
 · rw [<- e2,f3];omega
 · rw [<- e2,f1];omega
 · rw [<- e2,f2];omega
def bV (w:World) (n k:Int) (code:Int) (e:Ending) (w':World):Prop:=∃ v u,e = .returned (.tuple #[v,u,.int .i64 code])/\IntV w' v n/\IntV w' u k/\w.grownBy w' none
theorem IntV.zero (w:World):IntV w (.agg #[.slice none 0 0,.bool false]) 0:=⟨none,[],false,rfl,⟨Or.inl rfl,fun _=>rfl,by intro x hx;simp at hx,Dig.nil _⟩,rfl,by simp⟩
theorem IntV.set_other {w:World} {v:Value} {n:Int} {g:Nat} {c:Array Value} {t:TypeId} (h:IntV w v n) (hbox:w.heap[g]?=some (.cells c t (0,0))) (ht:t≠75) (o:Nat) (u:Value):IntV (w.setCell ⟨g,o,none⟩ u) v n:=by
 obtain ⟨sa,xs,b,e,h1,h2⟩:=h
 exact ⟨sa,xs,b,e,h1.set_other hbox ht o u,h2⟩
theorem run_field (v:Value) (W:World):(Instr.field 44 (.agg #[v]) 0).run Tryz.prog W = .ok v W:=by kernel_rfl
def Tab (w:World):Prop:=TabAt 2 Lib.deBruijn64tab w
theorem Tab.kept {w w':World} {row:Option Nat} (h:Tab w) (hg:w.grownBy w' row) (hr:some 2≠row):Tab w':=fun j hj=>hg.cell (h j hj) hr
theorem Tab.size {w:World} (h:Tab w) : 2<w.heap.size:=by
 have:=h 0 (by decide)
 unfold World.cell? at this
 rcases Nat.lt_or_ge 2 w.heap.size with h1 | h1
 · exact h1
 · rw [Array.getElem?_eq_none h1] at this;simp at this
set_option maxHeartbeats 1000000 in
theorem tz_core (x k idx:Nat) (w:World) (hx0:((x:Int) == 0)=false)
 (key:IntKind.u64.wrap (bits BinOp.and IntKind.u64 (x:Int) (IntKind.u64.wrap (-(x:Int)))*285870213051353865) / 288230376151711744=(idx:Int))
 (hi:idx<64) (hk:k<64) (hcell:w.cell? ⟨2,idx,none⟩=some (.int .u8 k)) :
 Calls Tryz.prog 247 #[.int .u64 x] w fun e w'=>e = .returned (.int .i64 k)/\w'=w:=by
 go_enter Tryz.func247,Tryz.ntmps247
 go_wp2_with (simp only [key])
 go_ret
 exact ⟨rfl,rfl⟩
theorem tz_any (x:Nat) (hx:x<B) (h0:x≠0) (w:World) (hT:Tab w) :
 Calls Tryz.prog 247 #[.int .u64 x] w fun e w'=>e = .returned (.int .i64 (Lib.ctz 64 x))/\w'=w:=by
 have hx':x<18446744073709551616:=hx
 obtain ⟨hlow,hk⟩:=Lib.lowest_bit 64 x h0 hx'
 obtain ⟨hi,htab⟩:=Lib.deBruijn64_at _ hk
 have hcell:=hT _ hi
 rw [htab] at hcell
 exact tz_core x _ _ w (by simp;omega) (tz64_key x _ hx' h0 hlow) hi hk hcell
theorem nE (x:Nat) (hx:x<B) (h0:x≠0):∃ m,x=2^Lib.ctz 64 x*(2*m+1)/\Lib.ctz 64 x<64:=by
 have hx':x<2^64:=hx
 have:=Lib.ctzFrom_spec 64 x (by omega) hx'
 unfold Lib.ctz
 rw [if_neg h0]
 exact this
theorem twos_spec {xs:List Nat} (dx:Dig B xs) (k x:Nat) (hk:k<xs.length) (ex:xs[k]=x) (h0:val B (xs.take k)=0) (hx:x≠0):∃ m,val B xs=2^(k*64+Lib.ctz 64 x)*(2*m+1)/\Lib.ctz 64 x<64:=by
 have hxB:x<B:=ex ▸ dx.get k _
 obtain ⟨m,hm,ht⟩:=nE x hxB hx
 generalize Lib.ctz 64 x=t at *
 have h1:=J7 B xs k (by omega)
 rw [h0,Nat.zero_add,List.drop_eq_getElem_cons hk,ex] at h1
 have h2:val B (x :: xs.drop (k+1))=x+B*val B (xs.drop (k+1)):=rfl
 rw [h2] at h1
 obtain ⟨d,hd⟩:∃ d,64=t+(d+1):=⟨63-t,by omega⟩
 have hB:B=2^t*(2^d*2):=by rw [<- Nat.pow_succ, <- Nat.pow_add, <- hd, <- Z7]
 have hBk:B^k=2^(k*64):=by rw [Z7, <- Nat.pow_mul,Nat.mul_comm]
 refine ⟨m+2^d*val B (xs.drop (k+1)), ?_,ht⟩
 rw [h1,hBk,Nat.pow_add,Nat.mul_assoc]
 congr 1
 rw [hB]
 generalize val B (xs.drop (k+1))=r
 rw [hm]
 generalize 2^t=a
 generalize 2^d=b
 grind
def TwosOf (w:World) (v:Nat) (n:Nat) (e:Ending) (w':World):Prop:=∃ t m:Nat,e = .returned (.int .i64 (t:Int))/\v=2^t*(2*m+1)/\t<64*n/\w=w'
set_option maxHeartbeats 1000000 in
theorem eD (w:World) (sa:Option Addr) (n cap:Nat) (xs:List Nat) (hn:xs.length=n) (hx:Rdo w sa xs) (dx:Dig B xs) (h0 : 0<val B xs) (bn:n<=1073741824) (hT:Tab w) :
 Calls Tryz.prog 226 #[.slice sa n cap] w (TwosOf w (val B xs) n):=by
 have Hn:=Lib.hid hn
 have H0:=Lib.hid h0
 have HT:=Lib.hid hT
 have hn0 : 0<n:=by
  rw [<- hn]
  rcases Nat.eq_zero_or_pos xs.length with h | h
  · rw [List.length_eq_zero_iff.1 h] at h0;simp [val] at h0
  · exact h
 clear hn h0 hT
 go_enter Tryz.func226,Tryz.ntmps226
 go_wp2_with fail
 go_loopw [3] (fun i wr=>∃ (k:Nat),k<n/\i = .int .i64 k/\w=wr/\Hid (val B (xs.take k)=0)) (fun i _=>n-(intOf i).toNat)
 case atStart=>exact ⟨0,hn0,rfl,rfl,by show _=_;rw [List.take_zero];rfl⟩
 case round=>
  obtain ⟨k,hk,rfl,rfl,hv⟩:=hrel
  obtain ⟨b1,o1,rfl,c1⟩:=hx.cell (by rw [Hn.out];omega)
  have c1:=c1 k (by rw [Hn.out];omega)
  obtain ⟨x,ex⟩:∃ x,xs[k]'(by rw [Hn.out];omega)=x:=⟨_,rfl⟩
  rw [ex] at c1
  have hxB:x<B:=ex ▸ dx.get k _
  have EX:=Lib.hid ex
  clear ex
  by_cases hz:x=0
  · subst hz
    have hv2:val B (xs.take (k+1))=0:=by rw [C8 B xs k (by rw [Hn.out];omega),EX.out,hv.out];omega
    have hk2:k+1<n:=by
     rcases Nat.lt_or_ge (k+1) n with h | h
     · exact h
     · have:=H0.out
       rw [List.take_of_length_le (by rw [Hn.out];omega)] at hv2
       omega
    have HV2:=Lib.hid hv2
    clear hv2
    go_wp2_with fail
    go_roundw
    case rel=>exact ⟨k+1,by omega,by go_num,by trivial,HV2⟩
    case measure=>simp [intOf];omega
  · have t:((x:Int) == 0)=false:=beq_eq_false_iff_ne.2 (by omega)
    obtain ⟨m,hm,ht⟩:=twos_spec dx k x (by rw [Hn.out];omega) EX.out hv.out hz
    obtain ⟨q,hq⟩:∃ q,Lib.ctz 64 x=q:=⟨_,rfl⟩
    have hC:=tz_any x hxB hz w HT.out
    rw [hq] at hm ht hC
    have HC:=Lib.hid hC
    have HM:=Lib.hid hm
    clear hC hm hq hxB hz
    go_wp2_with fail
    refine HC.out.mono ?_
    rintro e w' ⟨rfl,rfl⟩
    go_wp2_with fail
    go_ret
    exact ⟨k*64+q,m,congrArg Ending.returned (congrArg (Value.int IntKind.i64) (by omega)),HM.out,by omega,rfl⟩
theorem eZ {x y t m:Nat} (hy:y%2=1) (hxy:y<x) (h:x-y=2^t*(2*m+1)):Nat.gcd (2*m+1) y=Nat.gcd x y:=by
 have h1:Nat.gcd x y=Nat.gcd (x-y) y:=(Nat.gcd_sub_self_left (Nat.le_of_lt hxy)).symm
 rw [h1,h]
 have hc:Nat.Coprime (2^t) y:=by
  apply Nat.Coprime.pow_left
  rw [Nat.coprime_comm]
  unfold Nat.Coprime
  rw [Nat.gcd_comm,Nat.gcd_rec,hy]
  rfl
 rw [Nat.Coprime.gcd_mul_left_cancel _ hc]
set_option maxHeartbeats 1000000 in
theorem lX (w:World) (x0 y0:Nat) (hx:x0<B) (hy:y0<B) (ox:x0%2=1) (oy:y0%2=1) (hT:Tab w) :
 Calls Tryz.prog 248 #[.int .u64 x0,.int .u64 y0] w fun e w'=>e = .returned (.int .u64 (Nat.gcd x0 y0:Int))/\w=w':=by
 have HT:=Lib.hid hT
 clear hT
 obtain ⟨g,hg⟩:∃ g,Nat.gcd x0 y0=g:=⟨_,rfl⟩
 rw [hg]
 have HG:=Lib.hid hg
 clear hg
 go_enter Tryz.func248,Tryz.ntmps248
 go_wp2_with fail
 go_loopw [0,1] (fun a b wr=>∃ (x y:Nat),a = .int .u64 x/\b = .int .u64 y/\x<B/\y<B/\x%2=1/\y%2=1/\w=wr/\Hid (Nat.gcd x y=g)) (fun a b _=>(intOf a).toNat+(intOf b).toNat)
 case atStart=>exact ⟨x0,y0,rfl,rfl,hx,hy,ox,oy,rfl,HG⟩
 case round=>
  obtain ⟨x,y,rfl,rfl,hxB,hyB,ox,oy,rfl,hg⟩:=hrel
  rcases Nat.lt_trichotomy y x with h | h | h
  · have f1:((x:Int) == (y:Int))=false:=beq_eq_false_iff_ne.2 (by omega)
    have f2:decide (x<y)=false:=decide_eq_false (by omega)
    have f3:IntKind.u64.wrap ((x:Int)-(y:Int))=((x-y:Nat):Int):=by rw [IntKind.wrap_u64];unfold B at *;omega
    obtain ⟨d,hd⟩:∃ d,x-y=d:=⟨_,rfl⟩
    rw [hd] at f3
    have hC:=tz_any d (by omega) (by omega) w HT.out
    obtain ⟨m,hm,hq64⟩:=nE d (by omega) (by omega)
    obtain ⟨q,hq⟩:∃ q,Lib.ctz 64 d=q:=⟨_,rfl⟩
    rw [hq] at hm hC hq64
    have HC:=Lib.hid hC
    have HM:=Lib.hid hm
    have HD:=Lib.hid hd
    have HX:=Lib.hid h
    clear hC hm hd h
    go_wp2_with fail
    refine HC.out.mono ?_
    rintro e w' ⟨rfl,rfl⟩
    go_wp2_with fail
    have hgc:Hid (Nat.gcd (2*m+1) y=g):=by show _=_;rw [eZ oy HX.out (HD.out.trans HM.out)];exact hg.out
    have hdv:d / 2^q=2*m+1:=by rw [HM.out];exact Nat.mul_div_cancel_left _ (Nat.two_pow_pos q)
    have hle : 2*m+1<=d:=by rw [HM.out];exact Nat.le_mul_of_pos_left _ (Nat.two_pow_pos q)
    have hdx:d<x:=by have:=HD.out;omega
    have hdi:(d:Int) / 2^q=((2*m+1:Nat):Int):=by rw [<- hdv];norm_cast
    go_roundw
    case rel=>
     refine ⟨2*m+1,y, ?_,rfl,by omega,hyB,by omega,oy,by trivial,hgc⟩
     rw [hdi]
    case measure=>
     rw [hdi]
     simp only [intOf]
     omega
  · subst h
    have f1:((y:Int) == (y:Int))=true:=beq_self_eq_true _
    rw [Nat.gcd_self] at hg
    have HG2:=hg.out
    subst HG2
    go_wp2_with fail
    go_ret
    exact ⟨rfl,rfl⟩
  · have f1:((x:Int) == (y:Int))=false:=beq_eq_false_iff_ne.2 (by omega)
    have f2:decide (x<y)=true:=decide_eq_true (by omega)
    have f3:IntKind.u64.wrap ((y:Int)-(x:Int))=((y-x:Nat):Int):=by rw [IntKind.wrap_u64];unfold B at *;omega
    obtain ⟨d,hd⟩:∃ d,y-x=d:=⟨_,rfl⟩
    rw [hd] at f3
    have hC:=tz_any d (by omega) (by omega) w HT.out
    obtain ⟨m,hm,hq64⟩:=nE d (by omega) (by omega)
    obtain ⟨q,hq⟩:∃ q,Lib.ctz 64 d=q:=⟨_,rfl⟩
    rw [hq] at hm hC hq64
    have HC:=Lib.hid hC
    have HM:=Lib.hid hm
    have HD:=Lib.hid hd
    have HX:=Lib.hid h
    clear hC hm hd h
    go_wp2_with fail
    refine HC.out.mono ?_
    rintro e w' ⟨rfl,rfl⟩
    go_wp2_with fail
    have hgc:Hid (Nat.gcd (2*m+1) x=g):=by show _=_;rw [eZ ox HX.out (HD.out.trans HM.out),Nat.gcd_comm];exact hg.out
    have hdv:d / 2^q=2*m+1:=by rw [HM.out];exact Nat.mul_div_cancel_left _ (Nat.two_pow_pos q)
    have hle : 2*m+1<=d:=by rw [HM.out];exact Nat.le_mul_of_pos_left _ (Nat.two_pow_pos q)
    have hdx:d<y:=by have:=HD.out;omega
    have hdi:(d:Int) / 2^q=((2*m+1:Nat):Int):=by rw [<- hdv];norm_cast
    go_roundw
    case rel=>
     refine ⟨2*m+1,x, ?_,rfl,by omega,hxB,by omega,ox,by trivial,hgc⟩
     rw [hdi]
    case measure=>
     rw [hdi]
     simp only [intOf]
     omega
end Go.Proofs.YtamdnbbgpacfkaaGreatDoor
