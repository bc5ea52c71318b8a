/- What the laws lean on, part 16. -/
import Derived.Below
import Derived.BigCall
import Derived.BigQuiet
import Derived.BigRegion
import Derived.Deep.AppendLies
import Derived.Deep.CutBlock
import Derived.Deep.CutRange
import Derived.Deep.DeepCutAuto
import Derived.Deep.DeepHandedRow
import Derived.Deep.LoopGhost
import Derived.Deep.MidRow
import Derived.Deep.QuietTactic
import Derived.Deep.RegionHeld3
import Derived.Deep.RegionLaw
import Derived.Deep.WholeRow
import Derived.Laws.AppendOwn
import Derived.Laws.Concat
import Derived.Laws.CopyOwn
import Derived.Laws.Externs
import Derived.Laws.IdiomStrings
import Derived.Lib.BitFns
import Derived.Lib.Bytealg
import Derived.Lib.Hide
import Derived.Lib.Slices
import Derived.Lib.Small
import Derived.Lib.Strings
import Derived.Lib.Walk
import Derived.LoopIn
import Derived.LoopN
import Derived.LoopNIn
import Derived.Maps.AppendAt
import Derived.OpenShut
import Derived.OrdersHeld
import Derived.OrdersIn
import Derived.Outline
import Derived.OwnWalk
import Derived.OwnWalkIn
import Derived.ProofKit
import Derived.RangeFuncBound
import Derived.RangeFuncCalls
import Derived.RangeFuncLeaves
import Derived.RangeFuncNested
import Derived.RangeFuncOwn
import Derived.Shelf.Abstract
import Derived.Shelf.Bits.Mul64
import Derived.Shelf.RegionOpen
import Derived.Shelf.Spec.TrailingZeros
import Derived.StillTailTactics
import Derived.TacticsInMore
import Derived.WalkKit
import Derived.WalkLawsBesides
import Derived.WalkSpells
import Derived.Test.YtamdnbbgpacfkaaGreatDoorProg
import Derived.Test.YtamdnbbgpacfkaaGreatDoorRows
import Derived.Test.YtamdnbbgpacfkaaGreatDoorMd14
set_option linter.unusedVariables false
set_option linter.unusedSimpArgs false
set_option maxRecDepth 100000
namespace Go.Proofs.YtamdnbbgpacfkaaGreatDoor
open Go.RowKit Go.Shelf Mat Ex PM
attribute [local go_sem] Oper.semAt_some
def gc (cs:Array Value) (k:Nat):Value:=(cs[k]?).getD undef
def pv (cs:Array Value) (o:Nat):Value := .agg #[gc cs o,gc cs (o+1),gc cs (o+2),gc cs (o+3),gc cs (o+4),gc cs (o+5),gc cs (o+6),gc cs (o+7)]
theorem gc_get {cs:Array Value} {k:Nat} (h:k<cs.size):cs[k]?=some (gc cs k):=by unfold gc;simp [h]
theorem H9 {W:World} {b:Nat} {cs:Array Value} {t:TypeId} (h:W.heap[b]?=some (.cells cs t (0,0))) {k:Nat} (hk:k<cs.size):W.cell? ⟨b,k,none⟩=some (gc cs k):=by
 unfold World.cell?;rw [h];exact gc_get hk
def Sh8 (cs:Array Value) (o:Nat):Prop:=∃ (s:Option Addr) (n:Nat) (x:Bool) (s':Option Addr) (n':Nat) (x':Bool) (t:Option Addr) (m:Nat) (y:Bool) (t':Option Addr) (m':Nat) (y':Bool),
 gc cs o = .slice s n n/\gc cs (o+1) = .bool x/\gc cs (o+2) = .slice s' n' n'/\gc cs (o+3) = .bool x'/\gc cs (o+4) = .slice t m m/\gc cs (o+5) = .bool y/\gc cs (o+6) = .slice t' m' m'/\gc cs (o+7) = .bool y'
theorem two_ways {e:Ending} {A B:Prop} (h:(e = .returned (.bool true)/\A)\/(e = .returned (.bool false)/\B)):∃ b,e = .returned (.bool b)/\Hid ((b=true/\A)\/(b=false/\B)):=by
 rcases h with ⟨e,h⟩ | ⟨e,h⟩
 · exact ⟨true,e,Lib.hid (.inl ⟨rfl,h⟩)⟩
 · exact ⟨false,e,Lib.hid (.inr ⟨rfl,h⟩)⟩
def KpR (b Bs:Nat) (W W':World):Prop:=W'.heap[b]?=W.heap[b]?/\W'.heap[Bs]?=W.heap[Bs]?
theorem kpR_t {b Bs:Nat} {A B C:World} (h:KpR b Bs A B) (k:KpR b Bs B C):KpR b Bs A C:=⟨k.1.trans h.1,k.2.trans h.2⟩
theorem kpR_b {b Bs:Nat} {w:World} (h1:b<w.heap.size) (h2:Bs<w.heap.size) (W:World) (l:Nat) (o o':Obj) (hl:w.heap.size<=l) (h:W.heap[l]?=some o) (_:o.isCells=false) (_:o.isWalk=false):KpR b Bs W (W.putObj l o'):=
 ⟨World.putObj_heap_other (by omega),World.putObj_heap_other (by omega)⟩
attribute [local go_sem] Oper.semAt_some
set_option maxHeartbeats 2000000 in
theorem WSides1_in (n:Nat) (hn : 1<=n) (l Bs b off len cap:Nat) (cs:Array Value) (hsz:off+8*len<=cs.size) (hlen:len<=1000000) (hsh:∀ i,i<len->Sh8 cs (off+i*8)) (J Jx:List Nat->World->Prop)
 (W:World) (hJ:AbidesFrom W.heap.size J)
 (hY:∀ pre x W,J pre W->x<len->pre.length<len->YieldAt Fence.wide (n-1) Tryz.prog l #[pv cs (off+x*8),pv cs (off+(x+1)%len*8)] W fun e W'=>
  (e = .returned (.bool true)/\J (pre++[x]) W'/\KpR b Bs W W')\/(e = .returned (.bool false)/\Jx (pre++[x]) W'))
 (hb:W.heap[b]?=some (.cells cs 50 (0,0))) (hB:W.heap[Bs]?=some (.cells #[.slice (some ⟨b,off,none⟩) len cap] 40 (0,0))) (h0:J [] W) :
 CallsIn Fence.wide n Tryz.prog 135 #[.func (.yield l) #[] #[],.pointer (some ⟨Bs,0,none⟩)] W fun e W'=>(∃ v,e = .returned v) /\
  ((∃ ys,ys=List.range len/\J ys W')\/(∃ k,k<=len/\Jx (List.range k) W')):=by
 refine callsIn_of_wp Tryz.func135 rfl trivial ?_ rfl
 simp only [Tryz.ntmps135,List.size_toArray,List.length_cons,List.length_nil,Nat.reduceAdd,Nat.reduceSub,Array.replicate_succ,Array.replicate_zero,List.push_toArray,List.append_toArray,List.nil_append,List.cons_append]
 have hBc:W.cell? ⟨Bs,0,none⟩=some (.slice (some ⟨b,off,none⟩) len cap):=by unfold World.cell?;rw [hB];rfl
 gi_wp2
 gi_loopw [7] (fun i wr=>∃ k:Nat,k<=len/\i = .int .i64 k/\J (List.range k) wr/\wr.heap[b]?=W.heap[b]?/\wr.heap[Bs]?=W.heap[Bs]?)
  (fun i _=>len-(intOf i).toNat)
 case atStart=>exact ⟨0,Nat.zero_le _,rfl,h0,rfl,rfl⟩
 case round=>
  obtain ⟨k,hk,rfl,hJs,hbr,hBr⟩:=hrel
  by_cases hlt:k<len
  · have hb2:=hbr.trans hb
    have hB2:=hBr.trans hB
    have hbl:b<wr.heap.size:=(Array.getElem?_eq_some_iff.1 hb2).1
    have hBl:Bs<wr.heap.size:=(Array.getElem?_eq_some_iff.1 hB2).1
    have hBc2:wr.cell? ⟨Bs,0,none⟩=some (.slice (some ⟨b,off,none⟩) len cap):=by unfold World.cell?;rw [hB2];rfl
    have c0:=H9 hb2 (k:=off+k*8) (by omega)
    have c1:=H9 hb2 (k:=off+k*8+1) (by omega)
    have c2:=H9 hb2 (k:=off+k*8+2) (by omega)
    have c3:=H9 hb2 (k:=off+k*8+3) (by omega)
    have c4:=H9 hb2 (k:=off+k*8+4) (by omega)
    have c5:=H9 hb2 (k:=off+k*8+5) (by omega)
    have c6:=H9 hb2 (k:=off+k*8+6) (by omega)
    have c7:=H9 hb2 (k:=off+k*8+7) (by omega)
    obtain ⟨s0,n0,x0,s1,n1,x1,s2,n2,x2,s3,n3,x3,e0,e1,e2,e3,e4,e5,e6,e7⟩:=hsh k hlt
    rw [e0] at c0;rw [e1] at c1;rw [e2] at c2;rw [e3] at c3;rw [e4] at c4;rw [e5] at c5;rw [e6] at c6;rw [e7] at c7
    have hg1:wr.grownBy (wr.alloc (.cells #[.slice s0 n0 n0,.bool x0,.slice s1 n1 n1,.bool x1,.slice s2 n2 n2,.bool x2,.slice s3 n3 n3,.bool x3] 50)).drew none:=
     (World.grownBy_alloc _ _ none).trans ⟨rfl,rfl,rfl,Nat.le_refl _,fun _ _ _=>rfl⟩
    have hkeep:∀ q,q<wr.heap.size->(wr.alloc (.cells #[.slice s0 n0 n0,.bool x0,.slice s1 n1 n1,.bool x1,.slice s2 n2 n2,.bool x2,.slice s3 n3 n3,.bool x3] 50)).drew.heap[q]?=wr.heap[q]?:=fun q hq=>hg1.block q hq (by simp)
    obtain ⟨fn,tmps,assign,body,hy,hR⟩:=hY _ k _ (hJ _ _ _ none hJs hg1 (fun r e=>nomatch e)) hlt (by simpa using hlt)
    unfold pv at hy
    rw [e0,e1,e2,e3,e4,e5,e6,e7] at hy
    clear e0 e1 e2 e3 e4 e5 e6 e7
    gi_wp2
    have hmx:Tryz.prog.follows .mixedOrders=true:=by kernel_rfl
    have hm0:(k+1)%len<len:=Nat.mod_lt _ (by omega)
    obtain ⟨m,hm⟩:∃ m,(k+1)%len=m:=⟨_,rfl⟩
    rw [hm] at hm0 hy
    have d0:=H9 hb2 (k:=off+m*8) (by omega)
    have d1:=H9 hb2 (k:=off+m*8+1) (by omega)
    have d2:=H9 hb2 (k:=off+m*8+2) (by omega)
    have d3:=H9 hb2 (k:=off+m*8+3) (by omega)
    have d4:=H9 hb2 (k:=off+m*8+4) (by omega)
    have d5:=H9 hb2 (k:=off+m*8+5) (by omega)
    have d6:=H9 hb2 (k:=off+m*8+6) (by omega)
    have d7:=H9 hb2 (k:=off+m*8+7) (by omega)
    have hmi:((k:Int)+1)%(len:Int)=(m:Int):=by rw [<- hm];push_cast;rfl
    gi_region_with (refine hR.mono ?_;rintro e W3 hor;obtain ⟨bb,rfl,hfin⟩:=two_ways hor)
    all_goals (
     rcases hfin.out with ⟨rfl,hJ3,hk3,hk4⟩ | ⟨rfl,hJx3⟩
     · gi_wp2
       go_roundw
       case rel=>exact ⟨k+1,by omega,by simp,by rw [List.range_succ];exact hJ3,by rw [hk3];exact (hkeep b hbl).trans hbr,by rw [hk4];exact (hkeep Bs hBl).trans hBr⟩
       case measure=>simp [intOf];omega
     · gi_wp2
       refine bodyPost_ret (results_none rfl _ _ _) rfl ?_
       exact ⟨⟨_,rfl⟩,.inr ⟨k+1,by omega,by rw [List.range_succ];exact hJx3⟩⟩)
  · obtain rfl:k=len:=by omega
    gi_wp2
    go_end0
    exact ⟨⟨_,rfl⟩,.inl ⟨_,rfl,hJs⟩⟩
set_option maxHeartbeats 2000000 in
theorem WSides0_in (n:Nat) (l Bs:Nat) (v:Value) (s:Option Addr) (c:Nat) (J:List Nat->World->Prop) (W:World) (hB:W.heap[Bs]?=some (.cells #[.slice s 0 c] 40 (0,0))) (h0:J [] W) :
 CallsIn Fence.wide n Tryz.prog 135 #[.func (.yield l) #[] #[],.pointer (some ⟨Bs,0,none⟩)] W fun e W'=>(∃ v,e = .returned v)/\J [] W':=by
 refine callsIn_of_wp Tryz.func135 rfl trivial ?_ rfl
 simp only [Tryz.ntmps135,List.size_toArray,List.length_cons,List.length_nil,Nat.reduceAdd,Nat.reduceSub,Array.replicate_succ,Array.replicate_zero,List.push_toArray,List.append_toArray,List.nil_append,List.cons_append]
 have hBc:W.cell? ⟨Bs,0,none⟩=some (.slice s 0 c):=by unfold World.cell?;rw [hB];rfl
 gi_wp2
 gi_loopw [7] (fun i wr=>i = .int .i64 0/\J [] wr) (fun _ _=>0)
 case atStart=>exact ⟨rfl,h0⟩
 case round=>
  obtain ⟨rfl,hJs⟩:=hrel
  gi_wp2
  go_end0
  exact ⟨⟨_,rfl⟩,hJs⟩
theorem iM (n:Nat) (v:Value) (w:World) (hv:v.oneCell'=true) :
 CallsIn Fence.wide n Tryz.prog 85 #[v] w fun e w'=>e = .returned (.func (.func 135) #[] #[.pointer (some ⟨w.heap.size,0,none⟩)])/\w'=w.alloc (.cells #[v] 40):=by
 cases v<;>simp [Value.oneCell'] at hv<;>(
 refine callsIn_of_wp Tryz.func85 rfl trivial ?_ rfl
 simp only [Tryz.ntmps85,List.size_toArray,List.length_cons,List.length_nil,Nat.reduceAdd,Nat.reduceSub,Array.replicate_succ,Array.replicate_zero,List.push_toArray,List.append_toArray,List.nil_append,List.cons_append]
 gi_wp2
 go_ret
 exact ⟨rfl,rfl⟩)
theorem aN (n:Nat) (hn : 1<=n) (Bs:Nat) (w1 w:World) (hg1:w1.grownBy w none) (v:Value) (l:List Pq) (hB:w.heap[Bs]?=some (.cells #[v] 40 (0,0))) (hP:PtsV w1 v l) (hl:l.length<=1000000) :
 ∃ (b:Nat) (encs:Fin l.length->Array Value),b<w.heap.size/\(∀ x,(encs x).size=2)/\(∀ x,∃ p q,encs x = #[p,q]/\PtV w1 p (pt0 l x)/\PtV w1 q (nxt l x))/\(∀ x:Fin l.length,b<w1.heap.size)/\((b=Bs\/fpS v b) /\ ∃ cs t,w.heap[b]?=some (.cells cs t (0,0))) /\
   SeqStopsK Fence.wide n Tryz.prog 135 #[.pointer (some ⟨Bs,0,none⟩)] encs (KpR b Bs) (fun xs=>xs.map Fin.val=List.range l.length) (fun pre=>∃ k,k<=l.length/\pre.map Fin.val=List.range k) l.length w:=by
 obtain ⟨s,m,c,rfl,hm,hc,h⟩:=hP
 have hBl:Bs<w.heap.size:=(Array.getElem?_eq_some_iff.1 hB).1
 by_cases hnil:l=[]
 · subst hnil
   have hm:m=0:=hm.symm
   subst hm
   refine ⟨Bs,fun _ => #[undef,undef],hBl,fun _=>rfl,fun x=>absurd x.2 (Nat.not_lt_zero x.1),fun x=>absurd x.2 (Nat.not_lt_zero x.1),⟨.inl rfl,_,_,hB⟩,fun l' J Jx W hW hJ _ hY h0=>?_⟩
   exact (WSides0_in n l' Bs undef s c (fun _ W=>J [] W) W ((hW.block Bs hBl).trans hB) h0).mono fun e W' ⟨he,hj⟩=>⟨he,.inl ⟨[],rfl,hj⟩⟩
 · obtain ⟨b,off,cs,rfl,hb1,hA⟩:=h.resolve_left hnil
   have hb1l:b<w1.heap.size:=(Array.getElem?_eq_some_iff.1 hb1).1
   have hb:w.heap[b]?=some (.cells cs 50 (0,0)):=(hg1.block b hb1l (by simp)).trans hb1
   have hbl:b<w.heap.size:=(Array.getElem?_eq_some_iff.1 hb).1
   have hpos : 0<l.length:=List.length_pos_iff.2 hnil
   have hpv:∀ i,i<l.length->PtV w1 (pv cs (off+i*8)) (pt0 l i)/\Sh8 cs (off+i*8)/\off+i*8+7<cs.size:=fun i hi=>by
    have:=hA i hi
    rw [Nat.mul_comm 8 i] at this
    obtain ⟨a0,a1,a2,a3,a4,a5,a6,a7,g0,g1,g2,g3,g4,g5,g6,g7,hv⟩:=this
    have e:∀ {k:Nat} {a:Value},cs[k]?=some a->gc cs k=a:=fun h=>by unfold gc;rw [h];rfl
    have e2:pt0 l i=l[i]:=by unfold pt0;simp [hi]
    refine ⟨?_, ?_,(Array.getElem?_eq_some_iff.1 g7).1⟩
    · unfold pv;rw [e g0,e g1,e g2,e g3,e g4,e g5,e g6,e g7,e2];exact hv
    · unfold Sh8
      rw [e g0,e g1,e g2,e g3,e g4,e g5,e g6,e g7]
      have h1:=pt1 hv
      have h2:=pt2 hv
      obtain ⟨s,xs,x,s',xs',x',q1,_⟩:=h1
      obtain ⟨t,ys,y,t',ys',y',q2,_⟩:=h2
      cases q1;cases q2
      exact ⟨_,_,_,_,_,_,_,_,_,_,_,_,rfl,rfl,rfl,rfl,rfl,rfl,rfl,rfl⟩
   refine ⟨b,fun x => #[pv cs (off+x.1*8),pv cs (off+(x.1+1)%l.length*8)],hbl,fun _=>rfl,fun x=>⟨_,_,rfl,(hpv x.1 x.2).1,(hpv _ (Nat.mod_lt _ hpos)).1⟩,fun _=>hb1l,⟨.inr (by obtain ⟨m1,rfl⟩:∃ m1,m=m1+1:=⟨m-1,by omega⟩;exact ⟨_,_,_,rfl⟩),_,_,hb⟩,fun l' J Jx W hW hJ _ hY h0=>?_⟩
   have hsz:off+8*l.length<=cs.size:=by
    have:=(hpv (l.length-1) (by omega)).2.2
    omega
   rw [<- hm] at hB
   refine (WSides1_in n hn l' Bs b off l.length c cs hsz hl (fun i hi=>(hpv i hi).2.1) (fun pre W=>∃ q:List (Fin l.length),q.map Fin.val=pre/\J q W) (fun pre W=>∃ q:List (Fin l.length),q.map Fin.val=pre/\Jx q W) W
    (fun s A B row hs hg hr=>by obtain ⟨q,h1,h2⟩:=hs;exact ⟨q,h1,hJ q A B row h2 hg hr⟩) (fun pre x W1 h1 hx h2=>?_) ((hW.block b hbl).trans hb) ((hW.block Bs hBl).trans hB) ⟨[],rfl,h0⟩).mono
    fun e W' ⟨he,h⟩=>⟨he,h.imp (fun ⟨ys,h,q,h1,hj⟩=>⟨q,h1.trans h,hj⟩) fun ⟨k,hk,q,h1,hj⟩=>⟨q,⟨k,hk,h1⟩,hj⟩⟩
   obtain ⟨q,rfl,hq⟩:=h1
   obtain ⟨fn,tmps,assign,body,hy,hR⟩:=hY q ⟨x,hx⟩ W1 hq (by simpa using h2)
   refine ⟨fn,tmps,assign,body,hy,hR.mono fun e W' h=>?_⟩
   rcases h with ⟨rfl,h3,h4⟩ | ⟨rfl,h3⟩
   · exact .inl ⟨rfl,⟨q++[⟨x,hx⟩],by simp,h3⟩,h4⟩
   · exact .inr ⟨rfl,⟨q++[⟨x,hx⟩],by simp,h3⟩⟩
end Go.Proofs.YtamdnbbgpacfkaaGreatDoor
namespace Go.Proofs.YtamdnbbgpacfkaaGreatDoor
open Go.RowKit Mat Ex
section
variable {P:Program} (w:World)
theorem lG (base:Nat) (t ty e:TypeId) (i:TypeInfo) (z:Value) (size bytes:Nat) (ht:P.underlying t=some (.slice e)) (hi:P.info? e=some i) (hz:i.zero=some z)
 (hsize:i.size=size) (hby:i.bytes=bytes) (hzs:z.cells.size=size) (hsz : 0<size)
 (v:Value) (n:Nat) (xs:List Value) (hown:w.ownsRow base e size v n xs)
 (a:Addr) (m c:Nat) (news:List Value) (hl:news.length=m*size) (hnews:∀ j u,news[j]?=some u->w.cell? (a.add j)=some u) (h1:∀ u ∈ news,u.oneCell'=true)
 (h63:n+m<=maxLen) (hbytes:(n+m)*bytes<=140737488355328) (hbase:base<=w.heap.size) (hm : 0<m) :
 ∃ v' w',(Builtin.append_ #[t,t] ty #[v,.slice (some a) m c]).run P w = .ok v' w'/\w'.ownsRow base e size v' (n+m) (xs++news)/\w'.ownsRow base e size v n xs/\w.grownBy w' v.ownBlock /\
   (v'.ownBlock=v.ownBlock\/v'.ownBlock=some w.heap.size):=by
 subst hsize
 subst hby
 have hsmall:n+m<=9223372036854775807:=by simp only [maxLen] at h63;omega
 have hlen:(xs++news).length=(n+m)*i.size:=by rw [List.length_append,hown.1,hl,Nat.add_mul]
 have grown:∀ (old:Nat),old<n+m -> ∀ (row:Option Nat),
  (w.drew.alloc (.cells (xs.toArray++news.toArray++Builtin.zeroCells z.cells (grownCap w (n+m) old e-(n+m))) e)).ownsRow base e i.size
   (.slice (some ⟨w.heap.size,0,none⟩) (n+m) (grownCap w (n+m) old e)) (n+m) (xs++news) /\
  w.grownBy (w.drew.alloc (.cells (xs.toArray++news.toArray++Builtin.zeroCells z.cells (grownCap w (n+m) old e-(n+m))) e)) row:=by
  intro old ho row
  have hge:=grownCap_ge w (n+m) old e
  have hcm:grownCap w (n+m) old e<=maxLen:=grownCap_le_maxLen w (n+m) old e h63
  refine ⟨⟨hlen,.inr ⟨w.heap.size,_,_,rfl,hbase,heap_alloc_new w.drew _,hge,hcm, ?_, ?_⟩⟩,⟨rfl,rfl,rfl,by simp,fun k hk _=>_root_.Go.heap_alloc_old w.drew _ hk⟩⟩
  · simp only [Array.size_append,List.size_toArray,size_zeroCells,hzs,hown.1,hl, <- Nat.add_mul]
    congr 1
    omega
  · simp only [Array.toList_append,List.append_assoc]
    rw [<- List.append_assoc, <- hlen]
    exact List.take_left
 have hown0:=hown
 rcases hown.2 with ⟨rfl,rfl⟩ | ⟨g,cap,cur,rfl,hbg,hg,hnc,hcm,hcs,htake⟩
 · have hx:xs=[]:=List.eq_nil_of_length_eq_zero (by simpa using hown.1)
   subst hx
   have hr:=run_append_nil (P:=P) w t ty e i z ht hi hz a m c news hl hnews (by omega) (by omega) (by have hb:=hbytes;simp only [Nat.zero_add] at hb;omega)
   have hgr:=grown 0 (by omega) (Value.ownBlock (.slice none 0 0))
   simp only [Nat.zero_add,List.nil_append,Array.empty_append] at hgr ⊢
   exact ⟨_,_,hr,hgr.1,World.ownsRow_nil _ base e i.size,hgr.2,Or.inr rfl⟩
 · by_cases hroom:n+m<=cap
   · have hfit:n*i.size+news.length<=cur.size:=by rw [hl,hcs, <- Nat.add_mul];exact Nat.mul_le_mul_right _ hroom
     have hr:=run_append_room (P:=P) w t ty e i ht hi g n cap cur hg a m c news hl hnews h1 hroom hfit
     have hlx:(cur.toList.take (n*i.size)).length=n*i.size:=by rw [htake];exact hown.1
     refine ⟨_,_,hr,⟨hlen,.inr ⟨g,cap,_,rfl,hbg,setRow_heap w g cur _ e _ hg,hroom,hcm, ?_, ?_⟩⟩,⟨hown.1,.inr ⟨g,cap,_,rfl,hbg,setRow_heap w g cur _ e _ hg,hnc,hcm, ?_, ?_⟩⟩,⟨rfl,rfl,rfl,by simp,fun k _ hk=>setRow_other w g k _ (fun e=>hk (by simp [Value.ownBlock,e]))⟩,Or.inl rfl⟩
     · simp only [List.size_toArray,List.length_append,List.length_take,List.length_drop,Array.length_toList]
       omega
     · rw [htake, <- hlen]
       exact List.take_left
     · simp only [List.size_toArray,List.length_append,List.length_take,List.length_drop,Array.length_toList]
       omega
     · rw [htake,List.append_assoc, <- hown.1]
       exact List.take_left
   · have holds:∀ j u,xs[j]?=some u->w.cell? ((⟨g,0,none⟩:Addr).add j)=some u:=hown.cells (g:=g) rfl
     have hr:=run_append_grow (P:=P) w t ty e i z ht hi hz ⟨g,0,none⟩ n cap xs hown.1 holds a m c news hl hnews (by omega) (by omega) (growslice_fits (by omega) hbytes)
     have hgr:=grown cap (by omega) (Value.ownBlock (.slice (some ⟨g,0,none⟩) n cap))
     refine ⟨_,_,hr,hgr.1,⟨hown.1,.inr ⟨g,cap,cur,rfl,hbg, ?_,hnc,hcm,hcs,htake⟩⟩,hgr.2,Or.inr rfl⟩
     rw [_root_.Go.heap_alloc_old w.drew _ (Array.getElem?_eq_some_iff.1 hg).1];exact hg
end
structure iP (α : Type) where
 T:TypeId
 z:Nat
 A:World->List Value->α->Prop
 keeps:∀ {W W':World} {cs:List Value} {x : α},A W cs x->Keeps J1 W W'->A W' cs x
 notLimb:J1 T=false
def OwV {α : Type} (k:iP α) (base:Nat) (w:World) (v:Value) (l:List α):Prop:=∃ xs,w.ownsRow base k.T k.z v l.length xs /\ ∀ i (h:i<l.length),k.A w ((xs.drop (k.z*i)).take k.z) l[i]
theorem oT {w w':World} {base:Nat} {e:TypeId} {size:Nat} {v:Value} {n:Nat} {xs:List Value} (h:w.ownsRow base e size v n xs) (hb:∀ q,v.ownBlock=some q->w'.heap[q]?=w.heap[q]?):w'.ownsRow base e size v n xs:=by
 refine ⟨h.1, ?_⟩
 rcases h.2 with h2 | ⟨g,cap,cur,rfl,hbg,hg,h3⟩
 · exact .inl h2
 · exact .inr ⟨g,cap,cur,rfl,hbg,(hb g rfl).trans hg,h3⟩
theorem OwV.keeps {α : Type} {k:iP α} {base:Nat} {W W':World} {v:Value} {l:List α} (h:OwV k base W v l) (hk:Keeps J1 W W') (hb:∀ q,v.ownBlock=some q->W'.heap[q]?=W.heap[q]?):OwV k base W' v l:=by
 obtain ⟨xs,h1,h2⟩:=h
 exact ⟨xs,oT h1 hb,fun i hi=>k.keeps (h2 i hi) hk⟩
theorem OwV.nil {α : Type} (k:iP α) (base:Nat) (w:World):OwV k base w (.slice none 0 0) ([]:List α):=⟨[],World.ownsRow_nil w base k.T k.z,fun i h=>absurd h (by simp)⟩
theorem OwV.inb {α : Type} {k:iP α} {base:Nat} {W:World} {v:Value} {l:List α} (h:OwV k base W v l) {q:Nat} (hq:v.ownBlock=some q):q<W.heap.size/\base<=q /\ ∃ cur,W.heap[q]?=some (.cells cur k.T (0,0)):=by
 obtain ⟨xs,h1,_⟩:=h
 rcases h1.2 with ⟨rfl,_⟩ | ⟨g,cap,cur,rfl,hbg,hg,_⟩
 · cases hq
 · cases hq;exact ⟨(Array.getElem?_eq_some_iff.1 hg).1,hbg,cur,hg⟩
def sOw {α : Type} (k:iP α) (base:Nat) (l:List α):Sp where
 sh := .one
 F v W:=OwV k base W v l
 fits v W h:=by
  obtain ⟨xs,h1,_⟩:=h
  rcases h1.2 with ⟨rfl,_⟩ | ⟨g,cap,cur,rfl,_⟩
  · exact ⟨fun _ => .slice none 0 0,fun _=>rfl,rfl⟩
  · exact ⟨fun _ => .slice (some ⟨g,0,none⟩) l.length cap,fun _=>rfl,rfl⟩
 row:=true
 fp v _ q:=v.ownBlock=some q
 lasts v W W' k hq h:=⟨h.keeps k hq,fun _ h=>h⟩
 inb v W h q hq:=(h.inb hq).1
 flat h:=by cases h
def AppW (base:Nat) (v v':Value) (W W':World):Prop:=W.grownBy W' v.ownBlock/\(v'.ownBlock=v.ownBlock\/v'.ownBlock=some W.heap.size)
def Older {α : Type} (k:iP α) (base:Nat) (W W':World) (v:Value) (l:List α):Prop:=∀ u l',OwV k base W u l'->l'.length<=l.length->u.ownBlock=v.ownBlock->OwV k base W' u l'
theorem older_of {α : Type} {k:iP α} {base:Nat} {W W':World} {v:Value} {l:List α} {xs:List Value} (hown:W.ownsRow base k.T k.z v l.length xs) (h3:W'.ownsRow base k.T k.z v l.length xs) (hkp:Keeps J1 W W'):Older k base W W' v l:=by
 rintro u l' ⟨ys,hu,hB⟩ hle hb
 refine ⟨ys,⟨hu.1, ?_⟩,fun j hj=>k.keeps (hB j hj) hkp⟩
 rcases hu.2 with h0 | ⟨g,cap,cur,rfl,hbg,hg,hnc,hcm,hcs,htk⟩
 · exact .inl h0
 · rcases hown.2 with ⟨rfl,_⟩ | ⟨g2,cap2,cur2,rfl,_,hg2,_,_,hcs2,htk2⟩
   · cases hb
   · cases hb
     rcases h3.2 with ⟨e3,_⟩ | ⟨g3,cap3,cur3,e3,_,hg3,_,_,hcs3,htk3⟩
     · cases e3
     · cases e3
       rw [hg] at hg2;cases hg2
       refine .inr ⟨g,cap,cur3,rfl,hbg,hg3,hnc,hcm,by rw [hcs3, <- hcs2,hcs], ?_⟩
       have hmul:l'.length*k.z<=l.length*k.z:=Nat.mul_le_mul_right _ hle
       rw [<- htk, <- Nat.min_eq_left hmul, <- List.take_take, <- List.take_take,htk3,htk2]
theorem oQ {α : Type} {P:Program} (k:iP α) {t:TypeId} {i:TypeInfo} {z:Value} {bytes:Nat} (ht:P.underlying t=some (.slice k.T)) (hi:P.info? k.T=some i) (hz:i.zero=some z) (hsize:i.size=k.z) (hby:i.bytes=bytes)
 (hzs:z.cells.size=k.z) (hsz : 0<k.z) {W:World} {base:Nat} {v:Value} {l:List α} (h:OwV k base W v l) {x : α} {q c:Nat} {cs:List Value} (hc:cs.length=k.z) (hq:W.heap[q]?=some (.cells cs.toArray k.T (0,0))) (hx:k.A W cs x)
 (h1:∀ u ∈ cs,u.oneCell'=true) (hn:l.length+1<=1000000) (hb:bytes<=1000000) (hbase:base<=W.heap.size) {ρ : Operand->Value} {o:Oper} {a b:Operand} (ho:o.op = .call ⟨.builtin .append, #[a,b], #[t,t]⟩) (ha : ρ a=v) (hbv : ρ b = .slice (some ⟨q,0,none⟩) 1 c) :
 ∃ v' W',(execOp ρ o).run P W = .ok (.value v') W'/\OwV k base W' v' (l++[x])/\OwV k base W' v l/\AppW base v v' W W'/\Keeps J1 W W'/\Older k base W W' v l:=by
 obtain ⟨xs,hown,hA⟩:=h
 have hlen:xs.length=l.length*k.z:=hown.1
 obtain ⟨v',W',hr,h2,h3,h4,h5⟩:=lG (P:=P) W base t o.type k.T i z k.z bytes ht hi hz hsize hby hzs hsz v l.length xs hown ⟨q,0,none⟩ 1 c cs (by rw [hc,Nat.one_mul])
  (fun j u hj=>by rw [Addr.add_lit];simp [World.cell?,hq,hj]) h1 (by simp only [maxLen];omega) (by have:=Nat.mul_le_mul hn hb;omega) hbase (by omega)
 have hkp:Keeps J1 W W':=fun g arr ty fr hp hg=>by
  rw [h4.block g (Array.getElem?_eq_some_iff.1 hg).1 fun e=>?_]; · exact hg
  obtain ⟨_,_,cur,h6⟩:=OwV.inb (k:=k) ⟨xs,hown,hA⟩ e.symm
  rw [hg] at h6;cases h6
  rw [k.notLimb] at hp;cases hp
 refine ⟨v',W', ?_,⟨xs++cs,by simpa using h2,fun j hj=>?_⟩,⟨xs,h3,fun j hj=>k.keeps (hA j hj) hkp⟩,⟨h4,h5⟩,hkp,older_of hown h3 hkp⟩
 · unfold execOp
   simp only [ho,resolve,invoke,builtin,Sem.run_bind,Sem.run_pure,Result.andThen_ok,List.map_toArray,List.map_cons,List.map_nil,ha,hbv,hr]
 · have hj:j<l.length+1:=by simpa using hj
   rcases Nat.lt_or_ge j l.length with hlt | hge
   · have:=k.keeps (hA j hlt) hkp
     rw [List.getElem_append_left hlt]
     have hle:k.z*j+k.z<=xs.length:=by
      rw [hlen, <- Nat.mul_succ,Nat.mul_comm];exact Nat.mul_le_mul_right _ hlt
     rw [List.drop_append_of_le_length (by omega),List.take_append_of_le_length (by simp;omega)]
     exact this
   · obtain rfl:j=l.length:=by omega
     rw [show k.z*l.length=xs.length by rw [hlen,Nat.mul_comm],List.drop_left,List.take_of_length_le (by omega)]
     simpa using k.keeps hx hkp
theorem info_k (t:TypeId) (n:Nat) (h:(Tryz.prog.info? t).any (fun i=>decide (i.size=n) && decide (i.bytes<=1000000) && match i.zero with | some z=>decide (z.cells.size=n) | none=>false)=true) :
 ∃ i z,Tryz.prog.info? t=some i/\i.zero=some z/\i.size=n/\i.bytes<=1000000/\z.cells.size=n:=by
 cases hi:Tryz.prog.info? t with
 | none=>rw [hi] at h;cases h
 | some i=>
   rw [hi] at h
   simp only [Option.any_some,Bool.and_eq_true,decide_eq_true_eq] at h
   cases hz:i.zero with
   | none=>rw [hz] at h;exact absurd h.2 (by simp)
   | some z=>rw [hz] at h;exact ⟨i,z,rfl,hz,h.1.1,h.1.2,by simpa using h.2⟩
theorem nN {α : Type} (kd:iP α) {t:TypeId} (ht:Tryz.prog.underlying t=some (.slice kd.T)) (hi:∃ i z,Tryz.prog.info? kd.T=some i/\i.zero=some z/\i.size=kd.z/\i.bytes<=1000000/\z.cells.size=kd.z) (hsz : 0<kd.z)
 {W:World} {base:Nat} {v:Value} {l:List α} (h:OwV kd base W v l) {x : α} {q c:Nat} {cs:List Value} (hc:cs.length=kd.z) (hq:W.heap[q]?=some (.cells cs.toArray kd.T (0,0))) (hx:kd.A W cs x)
 (h1:∀ u ∈ cs,u.oneCell'=true) (hn:l.length+1<=1000000) (hbase:base<=W.heap.size) {ρ : Operand->Value} {o:Oper} {a b:Operand} (ho:o.op = .call ⟨.builtin .append, #[a,b], #[t,t]⟩) (ha : ρ a=v) (hbv : ρ b = .slice (some ⟨q,0,none⟩) 1 c) :
 ∃ v' W',(execOp ρ o).run Tryz.prog W = .ok (.value v') W'/\OwV kd base W' v' (l++[x])/\OwV kd base W' v l/\AppW base v v' W W'/\Keeps J1 W W'/\Older kd base W W' v l:=by
 obtain ⟨i,z,i1,i2,i3,i4,i5⟩:=hi
 exact oQ kd ht i1 i2 i3 rfl i5 hsz h hc hq hx h1 hn i4 hbase ho ha hbv
theorem appS {α : Type} (kd:iP α) {specs:List Sp} {w W:World} {av:List Nat} {σ : Env} {n m0:Nat} {v:Value} {l:List α} {x : α} {run:Value->World->Prop} (g:w.grownBy W none) (hm0:av.elem m0=true) (hs0:sp specs m0=sOw kd w.heap.size l)
 (hv0 : σ.an m0 0=v) (hsn:sp specs n=sOw kd w.heap.size (l++[x])) (h:OwV kd w.heap.size W v l)
 (hr:∃ v' W',run v' W'/\OwV kd w.heap.size W' v' (l++[x])/\OwV kd w.heap.size W' v l/\AppW w.heap.size v v' W W'/\Keeps J1 W W'/\Older kd w.heap.size W W' v l)
 (hrows:∀ m,av.elem m=true->m≠m0->(sp specs m).row=true->((sp specs m).F (((sp specs m).sh.sv m).den σ) W /\ ∀ q,(sp specs m).fp (((sp specs m).sh.sv m).den σ) W q->v.ownBlock≠some q)\/(∃ l',sp specs m=sOw kd w.heap.size l'/\l'.length<=l.length/\OwV kd w.heap.size W (σ.an m 0) l')) :
 AppS specs w av σ W n run:=by
 obtain ⟨v',W',hrun,o1,o2,⟨hg,hv'⟩,hkp,hod⟩:=hr
 have hden:((sp specs m0).sh.sv m0).den σ=v:=by rw [hs0];exact hv0
 have hold:∀ q,v.ownBlock=some q->kF specs av σ W q:=fun q hq=>⟨m0,hm0,by rw [hs0];show (σ.an m0 0).ownBlock=some q;rw [hv0];exact hq⟩
 refine ⟨v',W',hrun,⟨⟨hg.os.trans g.os,hg.tape.trans g.tape,hg.output.trans g.output,Nat.le_trans g.size hg.size,fun i hi hne=>?_⟩,hg.size,fun q hq ho=>hg.block q hq fun e=>ho (hold q e.symm),KeepsOthers.of_grownBy hg fun j o e hj=>by obtain ⟨_,_,c,hc⟩:=h.inb e;rw [hc] at hj;cases hj;rfl⟩,hkp,by rw [hsn];exact o1,fun q hq=>?_,fun m hm hr=>?_⟩
 · rw [hg.block i (Nat.lt_of_lt_of_le hi g.size) fun e=>?_,g.block i hi hne]
   have:=(h.inb e.symm).2.1;omega
 · rw [hsn] at hq
   have hq:v'.ownBlock=some q:=hq
   rcases hv' with e | e
   · exact .inr (hold q (e ▸ hq))
   · rw [e] at hq;cases hq;exact .inl (Nat.le_refl _)
 · by_cases hm0':m=m0
   · subst hm0'
     refine ⟨by rw [hden,hs0];exact o2,fun q hq=>?_⟩
     rw [hden,hs0] at hq ⊢;exact hq
   · rcases hrows m hm hm0' hr with ⟨hF,hne⟩ | ⟨l',hs',hl',ho'⟩
     rotate_left
     · by_cases hb:(σ.an m 0).ownBlock=v.ownBlock
       · refine ⟨by rw [hs'];exact hod _ _ ho' hl' hb,fun q hq=>?_⟩
         rw [hs'] at hq ⊢;exact hq
       · rw [hs']
         refine (sOw kd w.heap.size l').lasts _ W W' hkp (fun q hq=>hg.block q (ho'.inb hq).1 fun e=>hb ?_) ho'
         have hq:(σ.an m 0).ownBlock=some q:=hq
         rw [hq];exact e.symm ▸ rfl
     refine (sp specs m).lasts _ W W' hkp (fun q hq=>hg.block q ((sp specs m).inb _ _ hF q hq) fun e=>hne q hq e.symm) hF
end Go.Proofs.YtamdnbbgpacfkaaGreatDoor
namespace Go.Proofs.YtamdnbbgpacfkaaGreatDoor
open Go.RowKit Mat Ex PM
def lat (x y d:Int):Pq:=rp ⟨x,y,und d⟩
theorem pV {x y d:Int} (h1 : -9223372036854775808<=x) (h2:x<=9223372036854775807) (h3 : -9223372036854775808<=y) (h4:y<=9223372036854775807):Bp 1 (lat x y d):=by
 have h:=V2 d
 have hu:(und d).natAbs<B^1:=jK (dJ d).1 (dJ d).2
 exact ⟨⟨eS (jK h1 h2),eT hu (Int.ne_of_gt h.1)⟩,⟨eS (jK h3 h4),eT hu (Int.ne_of_gt h.1)⟩⟩
theorem lat_h {x y d:Int} (h1 : -9223372036854775808<=x) (h2:x<=9223372036854775807) (h3 : -9223372036854775808<=y) (h4:y<=9223372036854775807):HB 5 ⟨x,y,und d⟩:=
 ⟨dint h1 h2,dint h3 h4,dint (dJ d).1 (dJ d).2⟩
theorem arg2 {P:Program} {f:FuncId} {a b c d:Value} {w:World} {R:Ending->World->Prop} (h:a=b) (h2:c=d) (k:Calls P f #[b,d] w R):Calls P f #[a,c] w R:=by subst h;subst h2;exact k
theorem dC (w:World) (x y d:Int) (h1 : -9223372036854775808<=x) (h2:x<=9223372036854775807) (h3 : -9223372036854775808<=y) (h4:y<=9223372036854775807) (hTab:Tab w) :
 Calls Tryz.prog 13 #[.agg #[.int .i64 x,.int .i64 y,.int .i64 d]] w (RetPt w (lat x y d)):=by
 refine A6 B6 Tryz.func13 [sDt x y d] [sZ (und d),sQE (Rat.divInt x (und d)) 0,sZ (und d),sQE (Rat.divInt y (und d)) 0] (.cons rfl .nil) (rs:=[cl 1 37 [ag 3 0],cl 2 28 [on 0,on 1],cl 3 37 [ag 3 0],cl 4 28 [.v false [.an 0 1],on 3]]) (out := .v true [.an 2 0,.an 2 1,.an 2 2,.an 2 3,.an 4 0,.an 4 1,.an 4 2,.an 4 3]) (nc:=5) (by kernel_rfl)
  ⟨fun σ W g h hb=>dG (congrArg (fun v=>[v]) (h 0 rfl)) (bD W x y d) |>.mono fun _ _ ⟨a,g⟩=>⟨_,a,rfl,g⟩,
  fun σ W g h hb=>arg2 (dt1 (h 0 rfl)) (h 1 rfl) (toQE (tB W x (und d) h1 h2 (dJ d).1 (dJ d).2 (hTab.kept g (by simp))) (by rw [if_neg (by have:=V2 d;omega)])),
  fun σ W g h hb=>dG (congrArg (fun v=>[v]) (h 0 rfl)) (bD W x y d) |>.mono fun _ _ ⟨a,g⟩=>⟨_,a,rfl,g⟩,
  fun σ W g h hb=>arg2 (dt2 (h 0 rfl)) (h 3 rfl) (toQE (tB W y (und d) h3 h4 (dJ d).1 (dJ d).2 (hTab.kept g (by simp))) (by rw [if_neg (by have:=V2 d;omega)])),
  trivial⟩ fun τ W g h=>⟨_,rfl,mkpt (qE (h 2 rfl)) (qE (h 4 rfl)),g⟩
abbrev Dt3:=Int × Int × Int
def DAt (w:World) (b o:Nat) (d:Dt3):Prop:=w.cell? ⟨b,o,none⟩=some (.int .i64 d.1)/\w.cell? ⟨b,o+1,none⟩=some (.int .i64 d.2.1)/\w.cell? ⟨b,o+2,none⟩=some (.int .i64 d.2.2)
theorem T5 {w w':World} {b o:Nat} (h:w'.heap[b]?=w.heap[b]?):w'.cell? ⟨b,o,none⟩=w.cell? ⟨b,o,none⟩:=by unfold World.cell?;rw [h]
theorem cW {w:World} {b o:Nat} {v:Value} (h:w.cell? ⟨b,o,none⟩=some v):b<w.heap.size:=by
 unfold World.cell? at h
 cases hb:w.heap[b]? with
 | none=>simp [hb] at h
 | some x=>exact (Array.getElem?_eq_some_iff.1 hb).1
theorem DAt.same {w w':World} {b o:Nat} {d:Dt3} (h:DAt w b o d) (hb:w'.heap[b]?=w.heap[b]?):DAt w' b o d:=⟨(T5 hb).trans h.1,(T5 hb).trans h.2.1,(T5 hb).trans h.2.2⟩
def DtsV (base:Nat) (w:World) (v:Value) (l:List Dt3):Prop:=∃ s n c,v = .slice s n c/\l.length=n/\n<=c/\(l=[] \/ ∃ b off,s=some ⟨b,off,none⟩/\b<base /\ ∀ i (h:i<l.length),DAt w b (off+3*i) l[i])
theorem DtsV.block {base:Nat} {w:World} {v:Value} {l:List Dt3} (h:DtsV base w v l) {q:Nat} (hq:fpS v q):q<base/\q<w.heap.size:=by
 obtain ⟨s,n,c,rfl,hl,hn,h⟩:=h
 obtain ⟨off,m,c',e⟩:=hq
 cases e
 rcases h with h | ⟨b,off',e,hb,hd⟩
 · rw [h] at hl;simp at hl
 · cases e;exact ⟨hb,cW (hd 0 (by omega)).1⟩
theorem DtsV.keeps {base:Nat} {W W':World} {v:Value} {l:List Dt3} (h:DtsV base W v l) (hq:∀ q,fpS v q->W'.heap[q]?=W.heap[q]?):DtsV base W' v l:=by
 obtain ⟨s,n,c,rfl,hl,hn,h⟩:=h
 refine ⟨s,n,c,rfl,hl,hn, ?_⟩
 by_cases h0:l=[]
 · exact .inl h0
 · obtain ⟨b,off,rfl,hb,hc⟩:=h.resolve_left h0
   obtain ⟨m,rfl⟩:∃ m,n=m+1:=⟨n-1,by have:=List.length_pos_iff.2 h0;omega⟩
   exact .inr ⟨b,off,rfl,hb,fun i hi=>(hc i hi).same (hq b ⟨off,m,c,rfl⟩)⟩
def DaV (base:Nat) (w:World) (v:Value) (d:Dt3):Prop:=∃ b off,v = .pointer (some ⟨b,off,none⟩)/\b<base/\DAt w b off d
theorem DaV.block {base:Nat} {w:World} {v:Value} {d:Dt3} (h:DaV base w v d) {q:Nat} (hq:fpP v q):q<base/\q<w.heap.size:=by
 obtain ⟨b,off,rfl,hb,hd⟩:=h
 obtain ⟨o,e⟩:=hq
 cases e;exact ⟨hb,cW hd.1⟩
section
variable {P:Program} {ρ : Operand->Value} {o:Oper} {W:World}
end
def kPt:iP Pq:=⟨50,8,fun w cs p=>PtV w (.agg cs.toArray) p,fun h k=>h.keeps k,by kernel_rfl⟩
def kH:iP H3:=⟨34,6,fun w cs p=>HV w (.agg cs.toArray) p,fun h k=>h.keeps k,by kernel_rfl⟩
theorem OwV.pts {base:Nat} {W:World} {v:Value} {l:List Pq} (h:OwV kPt base W v l):PtsV W v l:=by
 obtain ⟨xs,⟨hl,h2⟩,hA⟩:=h
 rcases h2 with ⟨rfl,h0⟩ | ⟨g,cap,cur,rfl,hbg,hg,hnc,hcm,hcs,htk⟩
 · exact ⟨none,0,0,rfl,h0,Nat.le_refl _,.inl (List.eq_nil_of_length_eq_zero h0)⟩
 · refine ⟨_,_,_,rfl,rfl,hnc,.inr ⟨g,0,cur,rfl,hg,fun i hi=>?_⟩⟩
   have hx:∀ j,j<8->cur[0+8*i+j]?=((xs.drop (8*i)).take 8)[j]?:=fun j hj=>by
    have hlt : 8*i+j<l.length*8:=by omega
    rw [List.getElem?_take_of_lt hj,List.getElem?_drop, <- htk,List.getElem?_take_of_lt (show 8*i+j<l.length*kPt.z from hlt)]
    simp
   have ha:=hA i hi
   obtain ⟨a,b,c,d,e,f,p,q,e1,h1,h2⟩:=ha
   have e2:(xs.drop (8*i)).take 8=[a,b,c,d,e,f,p,q]:=by
    have:=congrArg (fun v=>match v with | Value.agg x=>x.toList | _=>[]) e1
    exact (show (xs.drop (kPt.z*i)).take kPt.z=[a,b,c,d,e,f,p,q] by simpa using this)
   rw [e2] at hx
   exact ⟨a,b,c,d,e,f,p,q,hx 0 (by omega),hx 1 (by omega),hx 2 (by omega),hx 3 (by omega),hx 4 (by omega),hx 5 (by omega),hx 6 (by omega),hx 7 (by omega),mkpt h1 h2⟩
theorem OwV.hr {base:Nat} {W:World} {v:Value} {l:List H3} (h:OwV kH base W v l):HrV W v l:=by
 obtain ⟨xs,⟨hl,h2⟩,hA⟩:=h
 rcases h2 with ⟨rfl,h0⟩ | ⟨g,cap,cur,rfl,hbg,hg,hnc,hcm,hcs,htk⟩
 · exact ⟨none,0,0,rfl,h0,Nat.le_refl _,.inl (List.eq_nil_of_length_eq_zero h0)⟩
 · refine ⟨_,_,_,rfl,rfl,hnc,.inr ⟨g,0,cur,rfl,hg,fun i hi=>?_⟩⟩
   have hx:∀ j,j<6->cur[0+6*i+j]?=((xs.drop (6*i)).take 6)[j]?:=fun j hj=>by
    have hlt : 6*i+j<l.length*6:=by omega
    rw [List.getElem?_take_of_lt hj,List.getElem?_drop, <- htk,List.getElem?_take_of_lt (show 6*i+j<l.length*kH.z from hlt)]
    simp
   obtain ⟨a,b,c,d,e,f,e1,h1,h2,h3⟩:=hA i hi
   have e2:(xs.drop (6*i)).take 6=[a,b,c,d,e,f]:=by
    have:=congrArg (fun v=>match v with | Value.agg x=>x.toList | _=>[]) e1
    exact (show (xs.drop (kH.z*i)).take kH.z=[a,b,c,d,e,f] by simpa using this)
   rw [e2] at hx
   exact ⟨a,b,c,d,e,f,hx 0 (by omega),hx 1 (by omega),hx 2 (by omega),hx 3 (by omega),hx 4 (by omega),hx 5 (by omega),⟨a,b,c,d,e,f,rfl,h1,h2,h3⟩⟩
theorem rZ {x y:Int} (h1 : -9223372036854775808<=x) (h2:x<=9223372036854775807) (h3 : -9223372036854775808<=y) (h4:y<=9223372036854775807):Bp 1 (J4 x y):=by
 have h1':(1:Nat)<B^1:=by unfold B;decide
 exact ⟨⟨by show ((x:Rat)).num.natAbs<_;rw [Rat.num_intCast];exact jK h1 h2,by show ((x:Rat)).den<_;rw [Rat.den_intCast];exact h1'⟩,⟨by show ((y:Rat)).num.natAbs<_;rw [Rat.num_intCast];exact jK h3 h4,by show ((y:Rat)).den<_;rw [Rat.den_intCast];exact h1'⟩⟩
def Small (d:Dt3):Prop:=(-9223372036854775808<=d.1/\d.1<=9223372036854775807)/\(-9223372036854775808<=d.2.1/\d.2.1<=9223372036854775807)
theorem fC {P:Program} {ρ : Operand->Value} {o:Oper} {t t':TypeId} {x y:Operand} {a b:Int} {W:World} {c:Bool} (ho:o.op = .binOp .lss t x y t') (hx : ρ x = .int .i64 a) (hy : ρ y = .int .i64 b) (h:decide (a<b)=c) :
 (execOp ρ o).run P W = .ok (.value (.bool c)) W:=C5 ho hx hy (by rw [<- h];rfl)
def sBq (b:Bool):Sp:=sC (.bool b) rfl
theorem vB {v:Value} {a b:Bool} (h:v = .bool a) (h2:v = .bool b):a=b:=by rw [h] at h2;exact Value.bool.inj h2
end Go.Proofs.YtamdnbbgpacfkaaGreatDoor
namespace Go.Proofs.YtamdnbbgpacfkaaGreatDoor
open Go.RowKit Go.Shelf Mat Ex PM
attribute [local go_sem] Oper.semAt_some
section
variable {B:Nat} {X Y:World} {row:Option Nat}
def O7 (B:Nat) (X:World) (row:Option Nat):Prop:=∀ r,row=some r->B<=r /\ ∃ o:Obj,X.heap[r]?=some o/\o.isCells=false
theorem mR (B:Nat) (X:World):O7 B X none:=fun r e=>nomatch e
theorem C3 (hg:X.grownBy Y row) (hr:O7 B X row) {k:Nat} {cs:Array Value} {t:TypeId} {fr:Nat × Nat} (h:X.heap[k]?=some (.cells cs t fr)):Y.heap[k]?=some (.cells cs t fr):=by
 rw [hg.block k (Array.getElem?_eq_some_iff.1 h).1 (fun e=>?_)]; · exact h
 obtain ⟨_,o,ho,hc⟩:=hr k e.symm
 rw [h] at ho;cases ho;cases hc
theorem O6 (hg:X.grownBy Y row) (hr:O7 B X row):Keeps J1 X Y:=fun g arr ty fr hp hb=>C3 hg hr hb
theorem M9 {w:World} (hB:w.heap.size<=B) (hw:w.grownBy X none) (hg:X.grownBy Y row) (hr:O7 B X row):w.grownBy Y none:=
 ⟨hg.os.trans hw.os,hg.tape.trans hw.tape,hg.output.trans hw.output,Nat.le_trans hw.size hg.size,fun i hi _=>by
  rw [hg.block i (Nat.lt_of_lt_of_le hi hw.size) (fun e=>?_)]
  · exact hw.block i hi (by simp)
  · have:=(hr i e.symm).1;omega⟩
end
theorem PtV.shape {w:World} {v:Value} {p:Pq} (h:PtV w v p):∃ (s:Option Addr) (n:Nat) (x:Bool) (s':Option Addr) (n':Nat) (x':Bool) (t:Option Addr) (m:Nat) (y:Bool) (t':Option Addr) (m':Nat) (y':Bool),
 v = .agg #[.slice s n n,.bool x,.slice s' n' n',.bool x',.slice t m m,.bool y,.slice t' m' m',.bool y']:=by
 obtain ⟨a,b,c,d,e,f,g,i,rfl,h1,h2⟩:=h
 obtain ⟨s,xs,x,s',xs',x',q1,_⟩:=h1
 obtain ⟨t,ys,y,t',ys',y',q2,_⟩:=h2
 cases q1;cases q2
 exact ⟨_,_,_,_,_,_,_,_,_,_,_,_,rfl⟩
def sumQ (l:List Pq) (pre:List (Fin l.length)):Rat:=pre.foldl (fun s x=>s+pX (pt0 l x.val) (nxt l x.val)) 0
theorem pK {K:Nat} {l:List Pq} (hb:∀ p ∈ l,Bp K p) {i:Nat} (hi:i<l.length):Bp K (pt0 l i):=by
 have:pt0 l i=l[i]:=by unfold pt0;simp [hi]
 rw [this];exact hb _ (List.getElem_mem hi)
theorem nxt_b {K:Nat} {l:List Pq} (hb:∀ p ∈ l,Bp K p) {i:Nat} (hi:i<l.length):Bp K (nxt l i):=pK hb (Nat.mod_lt _ (by omega))
def ArI (w:World) (R0 T Bs:Nat) (v:Value) (l:List Pq) (pre:List (Fin l.length)) (W:World):Prop:=
 w.grownBy W none/\(∃ a b c d,W.heap[T]?=some (.cells #[a,b,c,d] 48 (0,0))/\RatV W (.agg #[a,b,c,d]) (sumQ l pre)) /\
 W.heap[R0]?=some (.cells #[.slice none 0 0,.bool false,.slice none 0 0,.bool false] 48 (0,0))/\W.heap[Bs]?=some (.cells #[v] 40 (0,0))
theorem ArI.soft {w:World} {R0 T Bs B:Nat} {v:Value} {l:List Pq} {pre:List (Fin l.length)} {X Y:World} {row:Option Nat} (hB:w.heap.size<=B) (h:ArI w R0 T Bs v l pre X) (hg:X.grownBy Y row) (hr:O7 B X row):ArI w R0 T Bs v l pre Y:=by
 obtain ⟨h1,⟨a,b,c,d,h2,h3⟩,h4,h5⟩:=h
 exact ⟨M9 hB h1 hg hr,⟨a,b,c,d,C3 hg hr h2,h3.keeps (O6 hg hr)⟩,C3 hg hr h4,C3 hg hr h5⟩
def PQs (W:World) (Bp:Nat) (cp cq:List Value) (p q:Pq):Prop:=W.heap[Bp]?=some (.cells cp.toArray 50 (0,0))/\W.heap[Bp+1]?=some (.cells cq.toArray 50 (0,0))/\PtV W (.agg cp.toArray) p/\PtV W (.agg cq.toArray) q
theorem PQs.soft {B Bp:Nat} {X Y:World} {row:Option Nat} {cp cq:List Value} {p q:Pq} (h:PQs X Bp cp cq p q) (hg:X.grownBy Y row) (hr:O7 B X row):PQs Y Bp cp cq p q:=
 ⟨C3 hg hr h.1,C3 hg hr h.2.1,h.2.2.1.keeps (O6 hg hr),h.2.2.2.keeps (O6 hg hr)⟩
end Go.Proofs.YtamdnbbgpacfkaaGreatDoor
namespace Go.Proofs.YtamdnbbgpacfkaaGreatDoor
open Go.RowKit Mat Ex PM
def N7 (t:TypeId):Bool:=t == 75
theorem Rdo.keepsU {W W':World} {sa:Option Addr} {xs:List Nat} (h:Rdo W sa xs) (k:Keeps N7 W W'):Rdo W' sa xs:=by
 rcases h with h | ⟨b,off,cs,e,h1,h2⟩
 · exact Or.inl h
 · exact Or.inr ⟨b,off,cs,e,k b cs _ _ rfl h1,h2⟩
theorem NatV.keepsU {W W':World} {v:Value} {n:Nat} (h:NatV W v n) (k:Keeps N7 W W'):NatV W' v n:=by
 obtain ⟨sa,xs,e,h1,h2⟩:=h
 exact ⟨sa,xs,e,⟨h1.rd.keepsU k,h1.nil,h1.top,h1.dig⟩,h2⟩
theorem IntV.keepsU {W W':World} {v:Value} {z:Int} (h:IntV W v z) (k:Keeps N7 W W'):IntV W' v z:=by
 obtain ⟨sa,xs,b,e,h1,h2⟩:=h
 exact ⟨sa,xs,b,e,⟨h1.rd.keepsU k,h1.nil,h1.top,h1.dig⟩,h2⟩
theorem RatV.keepsU {W W':World} {v:Value} {r:Rat} (h:RatV W v r) (k:Keeps N7 W W'):RatV W' v r:=by
 obtain ⟨s,xs,b,s',xs',b',e,h1,h2⟩:=h
 exact ⟨s,xs,b,s',xs',b',e,h1.keepsU k,h2.keepsU k⟩
theorem PtV.keepsU {W W':World} {v:Value} {p:Pq} (h:PtV W v p) (k:Keeps N7 W W'):PtV W' v p:=by
 obtain ⟨a,b,c,d,e,f,g,i,e1,h1,h2⟩:=h
 exact ⟨a,b,c,d,e,f,g,i,e1,h1.keepsU k,h2.keepsU k⟩
theorem SgV.keepsU {W W':World} {v:Value} {p q:Pq} (h:SgV W v p q) (k:Keeps N7 W W'):SgV W' v p q:=by
 obtain ⟨a,b,c,d,e,f,g,i,a',b',c',d',e',f',g',i',e1,h1,h2⟩:=h
 exact ⟨a,b,c,d,e,f,g,i,a',b',c',d',e',f',g',i',e1,h1.keepsU k,h2.keepsU k⟩
abbrev Su:=Ex.Spec N7
def Sp.u (s:Sp) (h:∀ v W W',Keeps N7 W W'->s.F v W->s.F v W'):Su := .of s.sh s.F s.fits h
def uPt (p:Pq):Su:=Sp.u (sPt p) fun _ _ _ k h=>h.keepsU k
def uZ (z:Int):Su:=Sp.u (sZ z) fun _ _ _ _ h=>h
theorem Y4 {P:Program} {ρ : Operand->Value} {o:Oper} {t t':TypeId} {x y:Operand} {a:Int} {W:World} (b:Bool) (ho:o.op = .binOp .leq t x y t') (hx : ρ x = .int .i64 a) (hy : ρ y = .int .i64 0) (h:decide (a<=0)=b):(execOp ρ o).run P W = .ok (.value (.bool b)) W:=
 C5 ho hx hy (by rw [<- h];rfl)
theorem pass_up {i k:Int} (h:i<=0) (h' : 0<k):pass i k=1:=by unfold pass;rw [if_pos ⟨h,h'⟩]
theorem pass_down {i k:Int} (h:¬ i<=0) (h':k<=0):pass i k = -1:=by unfold pass;rw [if_neg (fun z=>h z.1),if_pos ⟨by omega,h'⟩]
theorem pass_no1 {i k:Int} (h:i<=0) (h':¬ 0<k):pass i k=0:=by unfold pass;rw [if_neg (fun z=>h' z.2),if_neg (fun z=>by omega)]
theorem pass_no2 {i k:Int} (h:¬ i<=0) (h':¬ k<=0):pass i k=0:=by unfold pass;rw [if_neg (fun z=>h z.1),if_neg (fun z=>h' z.2)]
theorem qS (w:World) (i k:Int) :
 Calls Tryz.prog 86 #[.int .i64 i,.int .i64 k] w (fun e w'=>e = .returned (.int .i64 (pass i k))/\w.grownBy w' none):=by
 rcases (show (i<=0/\0<k)\/(i<=0 /\ ¬ 0<k)\/(¬ i<=0/\k<=0)\/(¬ i<=0 /\ ¬ k<=0) by omega) with ⟨h1,h2⟩ | ⟨h1,h2⟩ | ⟨h1,h2⟩ | ⟨h1,h2⟩
 · skip
   rw [pass_up h1 h2]
   refine A6 B6 Tryz.func86 [sZ i,sZ k] [sV (.bool true),sV (.bool true)] (.cons rfl (.cons rfl .nil)) (rs:=[co 2 (.binOp .leq 3 (.tmp 6) (.const (.int .i64 0)) 3) 4 [on 0,.v false [.lit (.int .i64 0)]] [0,1] [],co 3 (.binOp .gtr 3 (.tmp 9) (.const (.int .i64 0)) 3) 4 [on 1,.v false [.lit (.int .i64 0)]] [0,1,2] []]) (out := .v false [.lit (.int .i64 1)]) (nc:=4) (by kernel_rfl)
    ⟨fun σ W g h hb=>fun ρ o ho _ hv=>⟨_,Y4 true ho ((A0 hv).1.trans (h 0 rfl)) (A0 hv).2 (decide_eq_true h1),rfl⟩,
    fun σ W g h hb=>fun ρ o ho _ hv=>⟨_,G6 true ho ((A0 hv).1.trans (h 1 rfl)) (A0 hv).2 (decide_eq_true h2),rfl⟩,
    trivial⟩ fun τ W g h=>⟨rfl,g⟩
 · skip
   rw [pass_no1 h1 h2]
   refine A6 B6 Tryz.func86 [sZ i,sZ k] [sV (.bool true),sV (.bool false),sV (.bool false)] (.cons rfl (.cons rfl .nil)) (rs:=[co 2 (.binOp .leq 3 (.tmp 6) (.const (.int .i64 0)) 3) 4 [on 0,.v false [.lit (.int .i64 0)]] [0,1] [],co 3 (.binOp .gtr 3 (.tmp 9) (.const (.int .i64 0)) 3) 4 [on 1,.v false [.lit (.int .i64 0)]] [0,1,2] [],co 4 (.binOp .gtr 3 (.tmp 13) (.const (.int .i64 0)) 3) 4 [on 0,.v false [.lit (.int .i64 0)]] [0,1,2,3] []]) (out := .v false [.lit (.int .i64 0)]) (nc:=5) (by kernel_rfl)
    ⟨fun σ W g h hb=>fun ρ o ho _ hv=>⟨_,Y4 true ho ((A0 hv).1.trans (h 0 rfl)) (A0 hv).2 (decide_eq_true h1),rfl⟩,
    fun σ W g h hb=>fun ρ o ho _ hv=>⟨_,G6 false ho ((A0 hv).1.trans (h 1 rfl)) (A0 hv).2 (decide_eq_false h2),rfl⟩,
    fun σ W g h hb=>fun ρ o ho _ hv=>⟨_,G6 false ho ((A0 hv).1.trans (h 0 rfl)) (A0 hv).2 (decide_eq_false (by omega)),rfl⟩,
    trivial⟩ fun τ W g h=>⟨rfl,g⟩
 · skip
   rw [pass_down h1 h2]
   refine A6 B6 Tryz.func86 [sZ i,sZ k] [sV (.bool false),sV (.bool true),sV (.bool true)] (.cons rfl (.cons rfl .nil)) (rs:=[co 2 (.binOp .leq 3 (.tmp 6) (.const (.int .i64 0)) 3) 4 [on 0,.v false [.lit (.int .i64 0)]] [0,1] [],co 3 (.binOp .gtr 3 (.tmp 13) (.const (.int .i64 0)) 3) 4 [on 0,.v false [.lit (.int .i64 0)]] [0,1,2] [],co 4 (.binOp .leq 3 (.tmp 16) (.const (.int .i64 0)) 3) 4 [on 1,.v false [.lit (.int .i64 0)]] [0,1,2,3] []]) (out := .v false [.lit (.int .i64 (-1))]) (nc:=5) (by kernel_rfl)
    ⟨fun σ W g h hb=>fun ρ o ho _ hv=>⟨_,Y4 false ho ((A0 hv).1.trans (h 0 rfl)) (A0 hv).2 (decide_eq_false h1),rfl⟩,
    fun σ W g h hb=>fun ρ o ho _ hv=>⟨_,G6 true ho ((A0 hv).1.trans (h 0 rfl)) (A0 hv).2 (decide_eq_true (by omega)),rfl⟩,
    fun σ W g h hb=>fun ρ o ho _ hv=>⟨_,Y4 true ho ((A0 hv).1.trans (h 1 rfl)) (A0 hv).2 (decide_eq_true h2),rfl⟩,
    trivial⟩ fun τ W g h=>⟨rfl,g⟩
 · skip
   rw [pass_no2 h1 h2]
   refine A6 B6 Tryz.func86 [sZ i,sZ k] [sV (.bool false),sV (.bool true),sV (.bool false)] (.cons rfl (.cons rfl .nil)) (rs:=[co 2 (.binOp .leq 3 (.tmp 6) (.const (.int .i64 0)) 3) 4 [on 0,.v false [.lit (.int .i64 0)]] [0,1] [],co 3 (.binOp .gtr 3 (.tmp 13) (.const (.int .i64 0)) 3) 4 [on 0,.v false [.lit (.int .i64 0)]] [0,1,2] [],co 4 (.binOp .leq 3 (.tmp 16) (.const (.int .i64 0)) 3) 4 [on 1,.v false [.lit (.int .i64 0)]] [0,1,2,3] []]) (out := .v false [.lit (.int .i64 0)]) (nc:=5) (by kernel_rfl)
    ⟨fun σ W g h hb=>fun ρ o ho _ hv=>⟨_,Y4 false ho ((A0 hv).1.trans (h 0 rfl)) (A0 hv).2 (decide_eq_false h1),rfl⟩,
    fun σ W g h hb=>fun ρ o ho _ hv=>⟨_,G6 true ho ((A0 hv).1.trans (h 0 rfl)) (A0 hv).2 (decide_eq_true (by omega)),rfl⟩,
    fun σ W g h hb=>fun ρ o ho _ hv=>⟨_,Y4 false ho ((A0 hv).1.trans (h 1 rfl)) (A0 hv).2 (decide_eq_false h2),rfl⟩,
    trivial⟩ fun τ W g h=>⟨rfl,g⟩
theorem bR (w:World) (va:Value) (q:Nat) (u0 u1 u2 u3 u4 u5 u6 u7:Value) (p m:Pq) (K:Nat) (Ha:PtV w va p) (Bq:w.heap[q]?=some (.cells #[u0,u1,u2,u3,u4,u5,u6,u7] 50 (0,0))) (Hm:PtV w (.agg #[u0,u1,u2,u3,u4,u5,u6,u7]) m) (hK:K<=100000) (bp:Bp K p) (bm:Bp K m) :
 Calls Tryz.prog 134 #[va,.pointer (some ⟨q,0,none⟩)] w (fun e w'=>e = .returned (.int .i64 (lvl m p))/\w.grownBy w' none):=by
 obtain ⟨p0,p1,p2,p3,p4,p5,p6,p7,rfl,h1,h2⟩:=Ha
 have Ha:PtV w (.agg #[p0,p1,p2,p3,p4,p5,p6,p7]) p:=mkpt h1 h2
 exact K3 B6 Tryz.func134 [sPt p,sPt m,sZ (lvl m p)] 2 [ag 8 0,.v false [.ptr 0 0]] [(50,[.an 1 0,.an 1 1,.an 1 2,.an 1 3,.an 1 4,.an 1 5,.an 1 6,.an 1 7])] (rs:=[cl 2 61 [.v true [.an 0 4,.an 0 5,.an 0 6,.an 0 7],.v true [.an 1 4,.an 1 5,.an 1 6,.an 1 7]]]) (out:=on 2) (nc:=3) (by kernel_rfl) w
  ⟨fun n=>match n with | 0=>E8 [p0,p1,p2,p3,p4,p5,p6,p7] | 1=>E8 [u0,u1,u2,u3,u4,u5,u6,u7] | _=>fun _ => .bool false,fun b=>match b with | 0=>q | _=>0,fun _=>undef⟩
  (fun n c=>match n with
   | 0=>B8 (Ha.one) c
   | 1=>B8 (Hm.one) c
   | _+2=>rfl)
  (fun b q hq=>match b,q,hq with
   | 0,_,rfl=>Bq
   | _+1,_,hq=>nomatch hq)
  (fun b c hb hc hq=>match b,c,hb,hc with
   | 0,0,_,_=>rfl
   | _+1,_,hb,_=>absurd hb (by simp)
   | _,_+1,_,hc=>absurd hc (by simp))
  (fun jn hn=>match jn,hn with
   | 0,_=>Ha
   | 1,_=>Hm
   | _+2,hn=>absurd hn (by omega))
  ⟨fun σ W g h hb=>toZ (Z6 W _ _ p.2 m.2 K (pt2 (h 0 rfl)) (pt2 (h 1 rfl)) (by omega) bp.2.1 bp.2.2 bm.2.1 bm.2.2) rfl,
  trivial⟩ _ fun τ W g h=>⟨congrArg Ending.returned (h 2 rfl),g⟩
theorem X2 (w:World) (va:Value) (q:Nat) (u0 u1 u2 u3 u4 u5 u6 u7:Value) (p m:Pq) (K:Nat) (Ha:PtV w va p) (Bq:w.heap[q]?=some (.cells #[u0,u1,u2,u3,u4,u5,u6,u7] 50 (0,0))) (Hm:PtV w (.agg #[u0,u1,u2,u3,u4,u5,u6,u7]) m) (hK:K<=100000) (bp:Bp K p) (bm:Bp K m) :
 Calls Tryz.prog 133 #[va,.pointer (some ⟨q,0,none⟩)] w (fun e w'=>e = .returned (.int .i64 (upr m p))/\w.grownBy w' none):=by
 obtain ⟨p0,p1,p2,p3,p4,p5,p6,p7,rfl,h1,h2⟩:=Ha
 have Ha:PtV w (.agg #[p0,p1,p2,p3,p4,p5,p6,p7]) p:=mkpt h1 h2
 exact K3 B6 Tryz.func133 [sPt p,sPt m,sZ (upr m p)] 2 [ag 8 0,.v false [.ptr 0 0]] [(50,[.an 1 0,.an 1 1,.an 1 2,.an 1 3,.an 1 4,.an 1 5,.an 1 6,.an 1 7])] (rs:=[cl 2 61 [ag 4 1,ag 4 0]]) (out:=on 2) (nc:=3) (by kernel_rfl) w
  ⟨fun n=>match n with | 0=>E8 [p0,p1,p2,p3,p4,p5,p6,p7] | 1=>E8 [u0,u1,u2,u3,u4,u5,u6,u7] | _=>fun _ => .bool false,fun b=>match b with | 0=>q | _=>0,fun _=>undef⟩
  (fun n c=>match n with
   | 0=>B8 (Ha.one) c
   | 1=>B8 (Hm.one) c
   | _+2=>rfl)
  (fun b q hq=>match b,q,hq with
   | 0,_,rfl=>Bq
   | _+1,_,hq=>nomatch hq)
  (fun b c hb hc hq=>match b,c,hb,hc with
   | 0,0,_,_=>rfl
   | _+1,_,hb,_=>absurd hb (by simp)
   | _,_+1,_,hc=>absurd hc (by simp))
  (fun jn hn=>match jn,hn with
   | 0,_=>Ha
   | 1,_=>Hm
   | _+2,hn=>absurd hn (by omega))
  ⟨fun σ W g h hb=>toZ (Z6 W _ _ m.1 p.1 K (pt1 (h 1 rfl)) (pt1 (h 0 rfl)) (by omega) bm.1.1 bm.1.2 bp.1.1 bp.1.2) rfl,
  trivial⟩ _ fun τ W g h=>⟨congrArg Ending.returned (h 2 rfl),g⟩
def bU (f:Nat) (w:World) (m:Pq) (e:Ending) (w':World):Prop:=∃ (q:Nat) (u0 u1 u2 u3 u4 u5 u6 u7:Value),e = .returned (.func (.func f) #[] #[.pointer (some ⟨q,0,none⟩)])/\w'.heap[q]?=some (.cells #[u0,u1,u2,u3,u4,u5,u6,u7] 50 (0,0))/\PtV w' (.agg #[u0,u1,u2,u3,u4,u5,u6,u7]) m/\w.heap.size<=q/\w.grownBy w' none
theorem nX (w:World) (va:Value) (m:Pq) (Ha:PtV w va m) :
 Calls Tryz.prog 84 #[va] w (bU 134 w m):=by
 refine S1 B6 Tryz.func84 [sPt m] [] (.cons Ha .nil) (rs:=[]) (out := .fn 134 [.ptr 0 0]) (nc:=1) (nd:=[(0,50,[.an 0 0,.an 0 1,.an 0 2,.an 0 3,.an 0 4,.an 0 5,.an 0 6,.an 0 7])]) (own:=[0]) (by kernel_rfl)
  trivial fun τ W g h hb ho=>⟨_,_,_,_,_,_,_,_,_,rfl,hb.1 _ (.head _),h 0 rfl,ho _ rfl,g⟩
theorem sU (w:World) (va:Value) (m:Pq) (Ha:PtV w va m) :
 Calls Tryz.prog 83 #[va] w (bU 133 w m):=by
 refine S1 B6 Tryz.func83 [sPt m] [] (.cons Ha .nil) (rs:=[]) (out := .fn 133 [.ptr 0 0]) (nc:=1) (nd:=[(0,50,[.an 0 0,.an 0 1,.an 0 2,.an 0 3,.an 0 4,.an 0 5,.an 0 6,.an 0 7])]) (own:=[0]) (by kernel_rfl)
  trivial fun τ W g h hb ho=>⟨_,_,_,_,_,_,_,_,_,rfl,hb.1 _ (.head _),h 0 rfl,ho _ rfl,g⟩
def fpF (v:Value) (q:Nat):Prop:=∃ f,v = .func (.func f) #[] #[.pointer (some ⟨q,0,none⟩)]
def RayV (f:Nat) (W:World) (v:Value) (m:Pq):Prop:=∃ (q:Nat) (u0 u1 u2 u3 u4 u5 u6 u7:Value),v = .func (.func f) #[] #[.pointer (some ⟨q,0,none⟩)]/\W.heap[q]?=some (.cells #[u0,u1,u2,u3,u4,u5,u6,u7] 50 (0,0))/\PtV W (.agg #[u0,u1,u2,u3,u4,u5,u6,u7]) m
theorem RayV.keeps {f:Nat} {W W':World} {v:Value} {m:Pq} (h:RayV f W v m) (k:Keeps J1 W W') (hq:∀ q,fpF v q->W'.heap[q]?=W.heap[q]?):RayV f W' v m:=by
 obtain ⟨q,u0,u1,u2,u3,u4,u5,u6,u7,rfl,h1,h2⟩:=h
 exact ⟨q,u0,u1,u2,u3,u4,u5,u6,u7,rfl,(hq q ⟨f,rfl⟩).trans h1,h2.keeps k⟩
theorem RayV.inb {f:Nat} {W:World} {v:Value} {m:Pq} (h:RayV f W v m) (q:Nat) (hq:fpF v q):q<W.heap.size:=by
 obtain ⟨q',u0,u1,u2,u3,u4,u5,u6,u7,rfl,h1,h2⟩:=h
 obtain ⟨f',e⟩:=hq
 cases e;exact (Array.getElem?_eq_some_iff.1 h1).1
def sRay (f s0:Nat) (m:Pq):Sp where
 sh := .one
 F v W:=RayV f W v m /\ ∀ q,fpF v q->s0<=q
 fits v W h:=by obtain ⟨⟨q,u0,u1,u2,u3,u4,u5,u6,u7,rfl,_⟩,_⟩:=h;exact ⟨fun _ => .func (.func f) #[] #[.pointer (some ⟨q,0,none⟩)],fun _=>rfl,rfl⟩
 row:=true
 fp v _ q:=fpF v q
 lasts v W W' k hq h:=⟨⟨h.1.keeps k hq,h.2⟩,fun _ h=>h⟩
 inb v W h q hq:=h.1.inb q hq
 flat h:=by cases h
theorem toRay {P:Program} {f:FuncId} {n:Nat} {args:Array Value} {W:World} {m:Pq} {old:Nat->Prop} {s0:Nat} (hs:s0<=W.heap.size) (h:Calls P f args W (bU n W m)):Calls P f args W (RetS W (sRay n s0 m) old):=
 h.mono fun _ _ ⟨q,u0,u1,u2,u3,u4,u5,u6,u7,a,h1,h2,h3,g⟩=>⟨_,a,⟨⟨q,u0,u1,u2,u3,u4,u5,u6,u7,rfl,h1,h2⟩,fun q' hq=>by obtain ⟨f',e⟩:=hq;cases e;omega⟩,g,fun q' hq => .inl (by obtain ⟨f',e⟩:=hq;cases e;exact h3)⟩
theorem ray_ret {n:Nat} {w W:World} {v:Value} {m:Pq} (h:RayV n W v m /\ ∀ q,fpF v q->w.heap.size<=q) (g:w.grownBy W none):bU n w m (.returned v) W:=by
 obtain ⟨⟨q,u0,u1,u2,u3,u4,u5,u6,u7,rfl,h1,h2⟩,h3⟩:=h
 exact ⟨q,u0,u1,u2,u3,u4,u5,u6,u7,rfl,h1,h2,h3 q ⟨n,rfl⟩,g⟩
theorem half_is:Rat.divInt 1 2=(1 / 2:Rat):=by decide +kernel
theorem half_b:Bn 1 (1 / 2:Rat):=half_is ▸ ⟨eS (jK (by omega) (by omega)),eT (jK (by omega) (by omega)) (by omega)⟩
theorem Bp.mid {K:Nat} {a b:Pq} (ha:Bp K a) (hb:Bp K b) (hK : 1<=K):Bp (4*K+2) (B2 a b):=
 ⟨(((ha.1.add hb.1).mono (M:=2*K+1) (by omega)).mul (half_b.mono (by omega))).mono (by omega),(((ha.2.add hb.2).mono (M:=2*K+1) (by omega)).mul (half_b.mono (by omega))).mono (by omega)⟩
theorem jM (w:World) (va:Value) (a b:Pq) (K:Nat) (Ha:SgV w va a b) (hK : 1<=K/\K<=10000) (ba:Bp K a) (bb:Bp K b) (hTab:Tab w) :
 Calls Tryz.prog 38 #[va] w (RetPt w (B2 a b)):=by
 have s1:Bn (2*K+1) (a.1+b.1):=(ba.1.add bb.1).mono (by omega)
 have s2:Bn (2*K+1) (a.2+b.2):=(ba.2.add bb.2).mono (by omega)
 have hh:Bn (2*K+1) (1 / 2:Rat):=half_b.mono (by omega)
 refine A6 B6 Tryz.func38 [sSg a b] [sQE (1 / 2:Rat) 0,sQ (a.1+b.1),sQ ((a.1+b.1)*(1 / 2)),sQ (a.2+b.2),sQ ((a.2+b.2)*(1 / 2))] (.cons Ha .nil) (rs:=[cl 1 28 [.v false [.lit (.int .i64 1)],.v false [.lit (.int .i64 2)]],cl 2 30 [ag 4 0,.v true [.an 0 8,.an 0 9,.an 0 10,.an 0 11]],cl 3 32 [ag 4 2,ag 4 1],cl 4 30 [.v true [.an 0 4,.an 0 5,.an 0 6,.an 0 7],.v true [.an 0 12,.an 0 13,.an 0 14,.an 0 15]],cl 5 32 [ag 4 4,ag 4 1]]) (out := .v true [.an 3 0,.an 3 1,.an 3 2,.an 3 3,.an 5 0,.an 5 1,.an 5 2,.an 5 3]) (nc:=6) (by kernel_rfl)
  ⟨fun σ W g h hb=>half_is ▸ toQE (tB W 1 2 (by omega) (by omega) (by omega) (by omega) (hTab.kept g (by simp))) (by decide),
  fun σ W g h hb=>FAdd_any W _ _ a.1 b.1 K (pt1 (sg1 (h 0 rfl))) (pt1 (sg2 (h 0 rfl))) (by omega) ba.1.1 ba.1.2 bb.1.1 bb.1.2 (hTab.kept g (by simp)),
  fun σ W g h hb=>fU W _ _ (a.1+b.1) (1 / 2) (2*K+1) (h 2 rfl) (qE (h 1 rfl)) (by omega) s1.1 s1.2 hh.1 hh.2 (hTab.kept g (by simp)),
  fun σ W g h hb=>FAdd_any W _ _ a.2 b.2 K (pt2 (sg1 (h 0 rfl))) (pt2 (sg2 (h 0 rfl))) (by omega) ba.2.1 ba.2.2 bb.2.1 bb.2.2 (hTab.kept g (by simp)),
  fun σ W g h hb=>fU W _ _ (a.2+b.2) (1 / 2) (2*K+1) (h 4 rfl) (qE (h 1 rfl)) (by omega) s2.1 s2.2 hh.1 hh.2 (hTab.kept g (by simp)),
  trivial⟩ fun τ W g h=>⟨_,rfl,mkpt (h 3 rfl) (h 5 rfl),g⟩
theorem sW (w:World) (va vb:Value) (a b m:Pq) (K:Nat) (Ha:SgV w va a b) (Hm:PtV w vb m) (hK:K<=10000) (ba:Bp K a) (bb:Bp K b) (h1:E9 a.2 b.2=0) :
 Calls Tryz.prog 39 #[va,vb] w (bU 133 w m):=by
 refine A6 B6 Tryz.func39 [sSg a b,sPt m] [sZ (E9 a.2 b.2),sV (.bool true),sRay 133 w.heap.size m] (.cons Ha (.cons Hm .nil)) (rs:=[cl 2 61 [.v true [.an 0 4,.an 0 5,.an 0 6,.an 0 7],.v true [.an 0 12,.an 0 13,.an 0 14,.an 0 15]],co 3 (.binOp .eql 3 (.tmp 11) (.const (.int .i64 0)) 3) 4 [on 2,.v false [.lit (.int .i64 0)]] [0,1,2] [],cl 4 83 [ag 8 1]]) (out:=on 4) (nc:=5) (by kernel_rfl)
  ⟨fun σ W g h hb=>toZ (Z6 W _ _ a.2 b.2 K (pt2 (sg1 (h 0 rfl))) (pt2 (sg2 (h 0 rfl))) (by omega) ba.2.1 ba.2.2 bb.2.1 bb.2.2) rfl,
  fun σ W g h hb=>fun ρ o ho _ hv=>⟨_,D7 true ho ((A0 hv).1.trans (h 2 rfl)) (A0 hv).2 (decide_eq_true h1),rfl⟩,
  fun σ W g h hb=>toRay g.size (sU W _ m (h 1 rfl)),
  trivial⟩ fun τ W g h=>ray_ret (h 4 rfl) g
theorem sX (w:World) (va vb:Value) (a b m:Pq) (K:Nat) (Ha:SgV w va a b) (Hm:PtV w vb m) (hK:K<=10000) (ba:Bp K a) (bb:Bp K b) (h1:E9 a.2 b.2≠0) :
 Calls Tryz.prog 39 #[va,vb] w (bU 134 w m):=by
 refine A6 B6 Tryz.func39 [sSg a b,sPt m] [sZ (E9 a.2 b.2),sV (.bool false),sRay 134 w.heap.size m] (.cons Ha (.cons Hm .nil)) (rs:=[cl 2 61 [.v true [.an 0 4,.an 0 5,.an 0 6,.an 0 7],.v true [.an 0 12,.an 0 13,.an 0 14,.an 0 15]],co 3 (.binOp .eql 3 (.tmp 11) (.const (.int .i64 0)) 3) 4 [on 2,.v false [.lit (.int .i64 0)]] [0,1,2] [],cl 4 84 [ag 8 1]]) (out:=on 4) (nc:=5) (by kernel_rfl)
  ⟨fun σ W g h hb=>toZ (Z6 W _ _ a.2 b.2 K (pt2 (sg1 (h 0 rfl))) (pt2 (sg2 (h 0 rfl))) (by omega) ba.2.1 ba.2.2 bb.2.1 bb.2.2) rfl,
  fun σ W g h hb=>fun ρ o ho _ hv=>⟨_,D7 false ho ((A0 hv).1.trans (h 2 rfl)) (A0 hv).2 (decide_eq_false h1),rfl⟩,
  fun σ W g h hb=>toRay g.size (nX W _ m (h 1 rfl)),
  trivial⟩ fun τ W g h=>ray_ret (h 4 rfl) g
end Go.Proofs.YtamdnbbgpacfkaaGreatDoor
