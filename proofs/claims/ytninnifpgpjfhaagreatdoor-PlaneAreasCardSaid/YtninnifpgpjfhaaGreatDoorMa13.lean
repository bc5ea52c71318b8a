/- What the laws lean on, part 13. -/
import Derived.Below
import Derived.BigCall
import Derived.BigQuiet
import Derived.BigRegion
import Derived.Deep.AppendLies
import Derived.Deep.CutBlock
import Derived.Deep.CutRange
import Derived.Deep.DeepCutAuto
import Derived.Deep.DeepHandedRow
import Derived.Deep.LoopGhost
import Derived.Deep.MidRow
import Derived.Deep.QuietTactic
import Derived.Deep.RegionHeld3
import Derived.Deep.WholeRow
import Derived.Laws.AppendOwn
import Derived.Laws.Concat
import Derived.Laws.CopyOwn
import Derived.Laws.Externs
import Derived.Laws.IdiomStrings
import Derived.Lib.BitFns
import Derived.Lib.Bytealg
import Derived.Lib.Hide
import Derived.Lib.Slices
import Derived.Lib.Small
import Derived.Lib.Strings
import Derived.Lib.Walk
import Derived.LoopIn
import Derived.LoopN
import Derived.LoopNIn
import Derived.Maps.AppendAt
import Derived.OpenShut
import Derived.OrdersHeld
import Derived.OrdersIn
import Derived.Outline
import Derived.OwnWalk
import Derived.OwnWalkIn
import Derived.ProofKit
import Derived.RangeFuncBound
import Derived.RangeFuncCalls
import Derived.RangeFuncLeaves
import Derived.RangeFuncNested
import Derived.RangeFuncOwn
import Derived.Shelf.Abstract
import Derived.Shelf.Bits.Mul64
import Derived.Shelf.RegionOpen
import Derived.Shelf.Spec.TrailingZeros
import Derived.StillTailTactics
import Derived.TacticsInMore
import Derived.WalkKit
import Derived.WalkLawsBesides
import Derived.WalkSpells
import Derived.Test.YtninnifpgpjfhaaGreatDoorProg
import Derived.Test.YtninnifpgpjfhaaGreatDoorRows
import Derived.Test.YtninnifpgpjfhaaGreatDoorMa12
set_option linter.unusedVariables false
set_option linter.unusedSimpArgs false
set_option maxRecDepth 100000
namespace Go.Proofs.YtninnifpgpjfhaaGreatDoor
open Go.RowKit Go.Shelf Mat Ex PM
attribute [local go_sem] Oper.semAt_some
def gc (cs:Array Value) (k:Nat):Value:=(cs[k]?).getD undef
def pv (cs:Array Value) (o:Nat):Value := .agg #[gc cs o,gc cs (o+1),gc cs (o+2),gc cs (o+3),gc cs (o+4),gc cs (o+5),gc cs (o+6),gc cs (o+7)]
theorem gc_get {cs:Array Value} {k:Nat} (h:k<cs.size):cs[k]?=some (gc cs k):=by unfold gc;simp [h]
theorem F5 {W:World} {b:Nat} {cs:Array Value} {t:TypeId} (h:W.heap[b]?=some (.cells cs t (0,0))) {k:Nat} (hk:k<cs.size):W.cell? ⟨b,k,none⟩=some (gc cs k):=by
 unfold World.cell?;rw [h];exact gc_get hk
def Sh8 (cs:Array Value) (o:Nat):Prop:=∃ (s:Option Addr) (n:Nat) (x:Bool) (s':Option Addr) (n':Nat) (x':Bool) (t:Option Addr) (m:Nat) (y:Bool) (t':Option Addr) (m':Nat) (y':Bool),
 gc cs o = .slice s n n/\gc cs (o+1) = .bool x/\gc cs (o+2) = .slice s' n' n'/\gc cs (o+3) = .bool x'/\gc cs (o+4) = .slice t m m/\gc cs (o+5) = .bool y/\gc cs (o+6) = .slice t' m' m'/\gc cs (o+7) = .bool y'
theorem two_ways {e:Ending} {A B:Prop} (h:(e = .returned (.bool true)/\A)\/(e = .returned (.bool false)/\B)):∃ b,e = .returned (.bool b)/\Hid ((b=true/\A)\/(b=false/\B)):=by
 rcases h with ⟨e,h⟩ | ⟨e,h⟩
 · exact ⟨true,e,Lib.hid (.inl ⟨rfl,h⟩)⟩
 · exact ⟨false,e,Lib.hid (.inr ⟨rfl,h⟩)⟩
def KpR (b Bs:Nat) (W W':World):Prop:=W'.heap[b]?=W.heap[b]?/\W'.heap[Bs]?=W.heap[Bs]?
theorem kpR_t {b Bs:Nat} {A B C:World} (h:KpR b Bs A B) (k:KpR b Bs B C):KpR b Bs A C:=⟨k.1.trans h.1,k.2.trans h.2⟩
theorem kpR_b {b Bs:Nat} {w:World} (h1:b<w.heap.size) (h2:Bs<w.heap.size) (W:World) (l:Nat) (o o':Obj) (hl:w.heap.size<=l) (h:W.heap[l]?=some o) (_:o.isCells=false) (_:o.isWalk=false):KpR b Bs W (W.putObj l o'):=
 ⟨World.putObj_heap_other (by omega),World.putObj_heap_other (by omega)⟩
set_option maxHeartbeats 2000000 in
theorem PSides1_in (n:Nat) (hn : 1<=n) (l Bs b off len cap:Nat) (cs:Array Value) (hsz:off+8*len<=cs.size) (hlen:len<=1000000) (hsh:∀ i,i<len->Sh8 cs (off+i*8)) (J Jx:List Nat->World->Prop)
 (W:World) (hJ:AbidesFrom W.heap.size J)
 (hY:∀ pre x W,J pre W->x<len->pre.length<len->YieldAt Fence.wide (n-1) Tryz.prog l #[pv cs (off+x*8),pv cs (off+(x+1)%len*8)] W fun e W'=>
  (e = .returned (.bool true)/\J (pre++[x]) W'/\KpR b Bs W W')\/(e = .returned (.bool false)/\Jx (pre++[x]) W'))
 (hb:W.heap[b]?=some (.cells cs 33 (0,0))) (hB:W.heap[Bs]?=some (.cells #[.slice (some ⟨b,off,none⟩) len cap] 23 (0,0))) (h0:J [] W) :
 CallsIn Fence.wide n Tryz.prog 74 #[.func (.yield l) #[] #[],.pointer (some ⟨Bs,0,none⟩)] W fun e W'=>(∃ v,e = .returned v) /\
  ((∃ ys,ys=List.range len/\J ys W')\/(∃ k,k<=len/\Jx (List.range k) W')):=by
 refine callsIn_of_wp Tryz.func74 rfl trivial ?_ rfl
 simp only [Tryz.ntmps74,List.size_toArray,List.length_cons,List.length_nil,Nat.reduceAdd,Nat.reduceSub,Array.replicate_succ,Array.replicate_zero,List.push_toArray,List.append_toArray,List.nil_append,List.cons_append]
 have hBc:W.cell? ⟨Bs,0,none⟩=some (.slice (some ⟨b,off,none⟩) len cap):=by unfold World.cell?;rw [hB];rfl
 gi_wp2
 gi_loopw [7] (fun i wr=>∃ k:Nat,k<=len/\i = .int .i64 k/\J (List.range k) wr/\wr.heap[b]?=W.heap[b]?/\wr.heap[Bs]?=W.heap[Bs]?)
  (fun i _=>len-(intOf i).toNat)
 case atStart=>exact ⟨0,Nat.zero_le _,rfl,h0,rfl,rfl⟩
 case round=>
  obtain ⟨k,hk,rfl,hJs,hbr,hBr⟩:=hrel
  by_cases hlt:k<len
  · have hb2:=hbr.trans hb
    have hB2:=hBr.trans hB
    have hbl:b<wr.heap.size:=(Array.getElem?_eq_some_iff.1 hb2).1
    have hBl:Bs<wr.heap.size:=(Array.getElem?_eq_some_iff.1 hB2).1
    have hBc2:wr.cell? ⟨Bs,0,none⟩=some (.slice (some ⟨b,off,none⟩) len cap):=by unfold World.cell?;rw [hB2];rfl
    have c0:=F5 hb2 (k:=off+k*8) (by omega)
    have c1:=F5 hb2 (k:=off+k*8+1) (by omega)
    have c2:=F5 hb2 (k:=off+k*8+2) (by omega)
    have c3:=F5 hb2 (k:=off+k*8+3) (by omega)
    have c4:=F5 hb2 (k:=off+k*8+4) (by omega)
    have c5:=F5 hb2 (k:=off+k*8+5) (by omega)
    have c6:=F5 hb2 (k:=off+k*8+6) (by omega)
    have c7:=F5 hb2 (k:=off+k*8+7) (by omega)
    obtain ⟨s0,n0,x0,s1,n1,x1,s2,n2,x2,s3,n3,x3,e0,e1,e2,e3,e4,e5,e6,e7⟩:=hsh k hlt
    rw [e0] at c0;rw [e1] at c1;rw [e2] at c2;rw [e3] at c3;rw [e4] at c4;rw [e5] at c5;rw [e6] at c6;rw [e7] at c7
    have hg1:wr.grownBy (wr.alloc (.cells #[.slice s0 n0 n0,.bool x0,.slice s1 n1 n1,.bool x1,.slice s2 n2 n2,.bool x2,.slice s3 n3 n3,.bool x3] 33)).drew none:=
     (World.grownBy_alloc _ _ none).trans ⟨rfl,rfl,rfl,Nat.le_refl _,fun _ _ _=>rfl⟩
    have hkeep:∀ q,q<wr.heap.size->(wr.alloc (.cells #[.slice s0 n0 n0,.bool x0,.slice s1 n1 n1,.bool x1,.slice s2 n2 n2,.bool x2,.slice s3 n3 n3,.bool x3] 33)).drew.heap[q]?=wr.heap[q]?:=fun q hq=>hg1.block q hq (by simp)
    obtain ⟨fn,tmps,assign,body,hy,hR⟩:=hY _ k _ (hJ _ _ _ none hJs hg1 (fun r e=>nomatch e)) hlt (by simpa using hlt)
    unfold pv at hy
    rw [e0,e1,e2,e3,e4,e5,e6,e7] at hy
    clear e0 e1 e2 e3 e4 e5 e6 e7
    gi_wp2
    have hmx:Tryz.prog.follows .mixedOrders=true:=by kernel_rfl
    have hm0:(k+1)%len<len:=Nat.mod_lt _ (by omega)
    obtain ⟨m,hm⟩:∃ m,(k+1)%len=m:=⟨_,rfl⟩
    rw [hm] at hm0 hy
    have d0:=F5 hb2 (k:=off+m*8) (by omega)
    have d1:=F5 hb2 (k:=off+m*8+1) (by omega)
    have d2:=F5 hb2 (k:=off+m*8+2) (by omega)
    have d3:=F5 hb2 (k:=off+m*8+3) (by omega)
    have d4:=F5 hb2 (k:=off+m*8+4) (by omega)
    have d5:=F5 hb2 (k:=off+m*8+5) (by omega)
    have d6:=F5 hb2 (k:=off+m*8+6) (by omega)
    have d7:=F5 hb2 (k:=off+m*8+7) (by omega)
    have hmi:((k:Int)+1)%(len:Int)=(m:Int):=by rw [<- hm];push_cast;rfl
    gi_region_with (refine hR.mono ?_;rintro e W3 hor;obtain ⟨bb,rfl,hfin⟩:=two_ways hor)
    all_goals (
     rcases hfin.out with ⟨rfl,hJ3,hk3,hk4⟩ | ⟨rfl,hJx3⟩
     · gi_wp2
       go_roundw
       case rel=>exact ⟨k+1,by omega,by simp,by rw [List.range_succ];exact hJ3,by rw [hk3];exact (hkeep b hbl).trans hbr,by rw [hk4];exact (hkeep Bs hBl).trans hBr⟩
       case measure=>simp [intOf];omega
     · gi_wp2
       refine bodyPost_ret (results_none rfl _ _ _) rfl ?_
       exact ⟨⟨_,rfl⟩,.inr ⟨k+1,by omega,by rw [List.range_succ];exact hJx3⟩⟩)
  · obtain rfl:k=len:=by omega
    gi_wp2
    go_end0
    exact ⟨⟨_,rfl⟩,.inl ⟨_,rfl,hJs⟩⟩
set_option maxHeartbeats 2000000 in
theorem PSides0_in (n:Nat) (l Bs:Nat) (v:Value) (s:Option Addr) (c:Nat) (J:List Nat->World->Prop) (W:World) (hB:W.heap[Bs]?=some (.cells #[.slice s 0 c] 23 (0,0))) (h0:J [] W) :
 CallsIn Fence.wide n Tryz.prog 74 #[.func (.yield l) #[] #[],.pointer (some ⟨Bs,0,none⟩)] W fun e W'=>(∃ v,e = .returned v)/\J [] W':=by
 refine callsIn_of_wp Tryz.func74 rfl trivial ?_ rfl
 simp only [Tryz.ntmps74,List.size_toArray,List.length_cons,List.length_nil,Nat.reduceAdd,Nat.reduceSub,Array.replicate_succ,Array.replicate_zero,List.push_toArray,List.append_toArray,List.nil_append,List.cons_append]
 have hBc:W.cell? ⟨Bs,0,none⟩=some (.slice s 0 c):=by unfold World.cell?;rw [hB];rfl
 gi_wp2
 gi_loopw [7] (fun i wr=>i = .int .i64 0/\J [] wr) (fun _ _=>0)
 case atStart=>exact ⟨rfl,h0⟩
 case round=>
  obtain ⟨rfl,hJs⟩:=hrel
  gi_wp2
  go_end0
  exact ⟨⟨_,rfl⟩,hJs⟩
theorem PSides_in (n:Nat) (v:Value) (w:World) (hv:v.oneCell'=true) :
 CallsIn Fence.wide n Tryz.prog 33 #[v] w fun e w'=>e = .returned (.func (.func 74) #[] #[.pointer (some ⟨w.heap.size,0,none⟩)])/\w'=w.alloc (.cells #[v] 23):=by
 cases v<;>simp [Value.oneCell'] at hv<;>(
 refine callsIn_of_wp Tryz.func33 rfl trivial ?_ rfl
 simp only [Tryz.ntmps33,List.size_toArray,List.length_cons,List.length_nil,Nat.reduceAdd,Nat.reduceSub,Array.replicate_succ,Array.replicate_zero,List.push_toArray,List.append_toArray,List.nil_append,List.cons_append]
 gi_wp2
 go_ret
 exact ⟨rfl,rfl⟩)
theorem pM (n:Nat) (hn : 1<=n) (Bs:Nat) (w1 w:World) (hg1:w1.grownBy w none) (v:Value) (l:List Pq) (hB:w.heap[Bs]?=some (.cells #[v] 23 (0,0))) (hP:PtsV w1 v l) (hl:l.length<=1000000) :
 ∃ (b:Nat) (encs:Fin l.length->Array Value),b<w.heap.size/\(∀ x,(encs x).size=2)/\(∀ x,∃ p q,encs x = #[p,q]/\PtV w1 p (pt0 l x)/\PtV w1 q (nxt l x))/\(∀ x:Fin l.length,b<w1.heap.size)/\(∃ cs t,w.heap[b]?=some (.cells cs t (0,0))) /\
   SeqStopsK Fence.wide n Tryz.prog 74 #[.pointer (some ⟨Bs,0,none⟩)] encs (KpR b Bs) (fun xs=>xs.map Fin.val=List.range l.length) (fun pre=>∃ k,k<=l.length/\pre.map Fin.val=List.range k) l.length w:=by
 obtain ⟨s,m,c,rfl,hm,hc,h⟩:=hP
 have hBl:Bs<w.heap.size:=(Array.getElem?_eq_some_iff.1 hB).1
 by_cases hnil:l=[]
 · subst hnil
   have hm:m=0:=hm.symm
   subst hm
   refine ⟨Bs,fun _ => #[undef,undef],hBl,fun _=>rfl,fun x=>absurd x.2 (Nat.not_lt_zero x.1),fun x=>absurd x.2 (Nat.not_lt_zero x.1),⟨_,_,hB⟩,fun l' J Jx W hW hJ _ hY h0=>?_⟩
   exact (PSides0_in n l' Bs undef s c (fun _ W=>J [] W) W ((hW.block Bs hBl).trans hB) h0).mono fun e W' ⟨he,hj⟩=>⟨he,.inl ⟨[],rfl,hj⟩⟩
 · obtain ⟨b,off,cs,rfl,hb1,hA⟩:=h.resolve_left hnil
   have hb1l:b<w1.heap.size:=(Array.getElem?_eq_some_iff.1 hb1).1
   have hb:w.heap[b]?=some (.cells cs 33 (0,0)):=(hg1.block b hb1l (by simp)).trans hb1
   have hbl:b<w.heap.size:=(Array.getElem?_eq_some_iff.1 hb).1
   have hpos : 0<l.length:=List.length_pos_iff.2 hnil
   have hpv:∀ i,i<l.length->PtV w1 (pv cs (off+i*8)) (pt0 l i)/\Sh8 cs (off+i*8)/\off+i*8+7<cs.size:=fun i hi=>by
    have:=hA i hi
    rw [Nat.mul_comm 8 i] at this
    obtain ⟨a0,a1,a2,a3,a4,a5,a6,a7,g0,g1,g2,g3,g4,g5,g6,g7,hv⟩:=this
    have e:∀ {k:Nat} {a:Value},cs[k]?=some a->gc cs k=a:=fun h=>by unfold gc;rw [h];rfl
    have e2:pt0 l i=l[i]:=by unfold pt0;simp [hi]
    refine ⟨?_, ?_,(Array.getElem?_eq_some_iff.1 g7).1⟩
    · unfold pv;rw [e g0,e g1,e g2,e g3,e g4,e g5,e g6,e g7,e2];exact hv
    · unfold Sh8
      rw [e g0,e g1,e g2,e g3,e g4,e g5,e g6,e g7]
      have h1:=pt1 hv
      have h2:=pt2 hv
      obtain ⟨s,xs,x,s',xs',x',q1,_⟩:=h1
      obtain ⟨t,ys,y,t',ys',y',q2,_⟩:=h2
      cases q1;cases q2
      exact ⟨_,_,_,_,_,_,_,_,_,_,_,_,rfl,rfl,rfl,rfl,rfl,rfl,rfl,rfl⟩
   refine ⟨b,fun x => #[pv cs (off+x.1*8),pv cs (off+(x.1+1)%l.length*8)],hbl,fun _=>rfl,fun x=>⟨_,_,rfl,(hpv x.1 x.2).1,(hpv _ (Nat.mod_lt _ hpos)).1⟩,fun _=>hb1l,⟨_,_,hb⟩,fun l' J Jx W hW hJ _ hY h0=>?_⟩
   have hsz:off+8*l.length<=cs.size:=by
    have:=(hpv (l.length-1) (by omega)).2.2
    omega
   rw [<- hm] at hB
   refine (PSides1_in n hn l' Bs b off l.length c cs hsz hl (fun i hi=>(hpv i hi).2.1) (fun pre W=>∃ q:List (Fin l.length),q.map Fin.val=pre/\J q W) (fun pre W=>∃ q:List (Fin l.length),q.map Fin.val=pre/\Jx q W) W
    (fun s A B row hs hg hr=>by obtain ⟨q,h1,h2⟩:=hs;exact ⟨q,h1,hJ q A B row h2 hg hr⟩) (fun pre x W1 h1 hx h2=>?_) ((hW.block b hbl).trans hb) ((hW.block Bs hBl).trans hB) ⟨[],rfl,h0⟩).mono
    fun e W' ⟨he,h⟩=>⟨he,h.imp (fun ⟨ys,h,q,h1,hj⟩=>⟨q,h1.trans h,hj⟩) fun ⟨k,hk,q,h1,hj⟩=>⟨q,⟨k,hk,h1⟩,hj⟩⟩
   obtain ⟨q,rfl,hq⟩:=h1
   obtain ⟨fn,tmps,assign,body,hy,hR⟩:=hY q ⟨x,hx⟩ W1 hq (by simpa using h2)
   refine ⟨fn,tmps,assign,body,hy,hR.mono fun e W' h=>?_⟩
   rcases h with ⟨rfl,h3,h4⟩ | ⟨rfl,h3⟩
   · exact .inl ⟨rfl,⟨q++[⟨x,hx⟩],by simp,h3⟩,h4⟩
   · exact .inr ⟨rfl,⟨q++[⟨x,hx⟩],by simp,h3⟩⟩
end Go.Proofs.YtninnifpgpjfhaaGreatDoor
namespace Go.Proofs.YtninnifpgpjfhaaGreatDoor
open Go.RowKit Mat Ex
section
variable {P:Program} (w:World)
theorem iH (base:Nat) (t ty e:TypeId) (i:TypeInfo) (z:Value) (size bytes:Nat) (ht:P.underlying t=some (.slice e)) (hi:P.info? e=some i) (hz:i.zero=some z)
 (hsize:i.size=size) (hby:i.bytes=bytes) (hzs:z.cells.size=size) (hsz : 0<size)
 (v:Value) (n:Nat) (xs:List Value) (hown:w.ownsRow base e size v n xs)
 (a:Addr) (m c:Nat) (news:List Value) (hl:news.length=m*size) (hnews:∀ j u,news[j]?=some u->w.cell? (a.add j)=some u) (h1:∀ u ∈ news,u.oneCell'=true)
 (h63:n+m<=maxLen) (hbytes:(n+m)*bytes<=140737488355328) (hbase:base<=w.heap.size) (hm : 0<m) :
 ∃ v' w',(Builtin.append_ #[t,t] ty #[v,.slice (some a) m c]).run P w = .ok v' w'/\w'.ownsRow base e size v' (n+m) (xs++news)/\w'.ownsRow base e size v n xs/\w.grownBy w' v.ownBlock /\
   (v'.ownBlock=v.ownBlock\/v'.ownBlock=some w.heap.size):=by
 subst hsize
 subst hby
 have hsmall:n+m<=9223372036854775807:=by simp only [maxLen] at h63;omega
 have hlen:(xs++news).length=(n+m)*i.size:=by rw [List.length_append,hown.1,hl,Nat.add_mul]
 have grown:∀ (old:Nat),old<n+m -> ∀ (row:Option Nat),
  (w.drew.alloc (.cells (xs.toArray++news.toArray++Builtin.zeroCells z.cells (grownCap w (n+m) old e-(n+m))) e)).ownsRow base e i.size
   (.slice (some ⟨w.heap.size,0,none⟩) (n+m) (grownCap w (n+m) old e)) (n+m) (xs++news) /\
  w.grownBy (w.drew.alloc (.cells (xs.toArray++news.toArray++Builtin.zeroCells z.cells (grownCap w (n+m) old e-(n+m))) e)) row:=by
  intro old ho row
  have hge:=grownCap_ge w (n+m) old e
  have hcm:grownCap w (n+m) old e<=maxLen:=grownCap_le_maxLen w (n+m) old e h63
  refine ⟨⟨hlen,.inr ⟨w.heap.size,_,_,rfl,hbase,heap_alloc_new w.drew _,hge,hcm, ?_, ?_⟩⟩,⟨rfl,rfl,rfl,by simp,fun k hk _=>_root_.Go.heap_alloc_old w.drew _ hk⟩⟩
  · simp only [Array.size_append,List.size_toArray,size_zeroCells,hzs,hown.1,hl, <- Nat.add_mul]
    congr 1
    omega
  · simp only [Array.toList_append,List.append_assoc]
    rw [<- List.append_assoc, <- hlen]
    exact List.take_left
 have hown0:=hown
 rcases hown.2 with ⟨rfl,rfl⟩ | ⟨g,cap,cur,rfl,hbg,hg,hnc,hcm,hcs,htake⟩
 · have hx:xs=[]:=List.eq_nil_of_length_eq_zero (by simpa using hown.1)
   subst hx
   have hr:=run_append_nil (P:=P) w t ty e i z ht hi hz a m c news hl hnews (by omega) (by omega) (by have hb:=hbytes;simp only [Nat.zero_add] at hb;omega)
   have hgr:=grown 0 (by omega) (Value.ownBlock (.slice none 0 0))
   simp only [Nat.zero_add,List.nil_append,Array.empty_append] at hgr ⊢
   exact ⟨_,_,hr,hgr.1,World.ownsRow_nil _ base e i.size,hgr.2,Or.inr rfl⟩
 · by_cases hroom:n+m<=cap
   · have hfit:n*i.size+news.length<=cur.size:=by rw [hl,hcs, <- Nat.add_mul];exact Nat.mul_le_mul_right _ hroom
     have hr:=run_append_room (P:=P) w t ty e i ht hi g n cap cur hg a m c news hl hnews h1 hroom hfit
     have hlx:(cur.toList.take (n*i.size)).length=n*i.size:=by rw [htake];exact hown.1
     refine ⟨_,_,hr,⟨hlen,.inr ⟨g,cap,_,rfl,hbg,setRow_heap w g cur _ e _ hg,hroom,hcm, ?_, ?_⟩⟩,⟨hown.1,.inr ⟨g,cap,_,rfl,hbg,setRow_heap w g cur _ e _ hg,hnc,hcm, ?_, ?_⟩⟩,⟨rfl,rfl,rfl,by simp,fun k _ hk=>setRow_other w g k _ (fun e=>hk (by simp [Value.ownBlock,e]))⟩,Or.inl rfl⟩
     · simp only [List.size_toArray,List.length_append,List.length_take,List.length_drop,Array.length_toList]
       omega
     · rw [htake, <- hlen]
       exact List.take_left
     · simp only [List.size_toArray,List.length_append,List.length_take,List.length_drop,Array.length_toList]
       omega
     · rw [htake,List.append_assoc, <- hown.1]
       exact List.take_left
   · have holds:∀ j u,xs[j]?=some u->w.cell? ((⟨g,0,none⟩:Addr).add j)=some u:=hown.cells (g:=g) rfl
     have hr:=run_append_grow (P:=P) w t ty e i z ht hi hz ⟨g,0,none⟩ n cap xs hown.1 holds a m c news hl hnews (by omega) (by omega) (growslice_fits (by omega) hbytes)
     have hgr:=grown cap (by omega) (Value.ownBlock (.slice (some ⟨g,0,none⟩) n cap))
     refine ⟨_,_,hr,hgr.1,⟨hown.1,.inr ⟨g,cap,cur,rfl,hbg, ?_,hnc,hcm,hcs,htake⟩⟩,hgr.2,Or.inr rfl⟩
     rw [_root_.Go.heap_alloc_old w.drew _ (Array.getElem?_eq_some_iff.1 hg).1];exact hg
end
structure cG (α : Type) where
 T:TypeId
 z:Nat
 A:World->List Value->α->Prop
 keeps:∀ {W W':World} {cs:List Value} {x : α},A W cs x->Keeps G6 W W'->A W' cs x
 notLimb:G6 T=false
def OwV {α : Type} (k:cG α) (base:Nat) (w:World) (v:Value) (l:List α):Prop:=∃ xs,w.ownsRow base k.T k.z v l.length xs /\ ∀ i (h:i<l.length),k.A w ((xs.drop (k.z*i)).take k.z) l[i]
theorem lO {w w':World} {base:Nat} {e:TypeId} {size:Nat} {v:Value} {n:Nat} {xs:List Value} (h:w.ownsRow base e size v n xs) (hb:∀ q,v.ownBlock=some q->w'.heap[q]?=w.heap[q]?):w'.ownsRow base e size v n xs:=by
 refine ⟨h.1, ?_⟩
 rcases h.2 with h2 | ⟨g,cap,cur,rfl,hbg,hg,h3⟩
 · exact .inl h2
 · exact .inr ⟨g,cap,cur,rfl,hbg,(hb g rfl).trans hg,h3⟩
theorem OwV.keeps {α : Type} {k:cG α} {base:Nat} {W W':World} {v:Value} {l:List α} (h:OwV k base W v l) (hk:Keeps G6 W W') (hb:∀ q,v.ownBlock=some q->W'.heap[q]?=W.heap[q]?):OwV k base W' v l:=by
 obtain ⟨xs,h1,h2⟩:=h
 exact ⟨xs,lO h1 hb,fun i hi=>k.keeps (h2 i hi) hk⟩
theorem OwV.nil {α : Type} (k:cG α) (base:Nat) (w:World):OwV k base w (.slice none 0 0) ([]:List α):=⟨[],World.ownsRow_nil w base k.T k.z,fun i h=>absurd h (by simp)⟩
theorem OwV.inb {α : Type} {k:cG α} {base:Nat} {W:World} {v:Value} {l:List α} (h:OwV k base W v l) {q:Nat} (hq:v.ownBlock=some q):q<W.heap.size/\base<=q /\ ∃ cur,W.heap[q]?=some (.cells cur k.T (0,0)):=by
 obtain ⟨xs,h1,_⟩:=h
 rcases h1.2 with ⟨rfl,_⟩ | ⟨g,cap,cur,rfl,hbg,hg,_⟩
 · cases hq
 · cases hq;exact ⟨(Array.getElem?_eq_some_iff.1 hg).1,hbg,cur,hg⟩
def sOw {α : Type} (k:cG α) (base:Nat) (l:List α):Sp where
 sh := .one
 F v W:=OwV k base W v l
 fits v W h:=by
  obtain ⟨xs,h1,_⟩:=h
  rcases h1.2 with ⟨rfl,_⟩ | ⟨g,cap,cur,rfl,_⟩
  · exact ⟨fun _ => .slice none 0 0,fun _=>rfl,rfl⟩
  · exact ⟨fun _ => .slice (some ⟨g,0,none⟩) l.length cap,fun _=>rfl,rfl⟩
 row:=true
 fp v _ q:=v.ownBlock=some q
 lasts v W W' k hq h:=⟨h.keeps k hq,fun _ h=>h⟩
 inb v W h q hq:=(h.inb hq).1
 flat h:=by cases h
def AppW (base:Nat) (v v':Value) (W W':World):Prop:=W.grownBy W' v.ownBlock/\(v'.ownBlock=v.ownBlock\/v'.ownBlock=some W.heap.size)
def Older {α : Type} (k:cG α) (base:Nat) (W W':World) (v:Value) (l:List α):Prop:=∀ u l',OwV k base W u l'->l'.length<=l.length->u.ownBlock=v.ownBlock->OwV k base W' u l'
theorem older_of {α : Type} {k:cG α} {base:Nat} {W W':World} {v:Value} {l:List α} {xs:List Value} (hown:W.ownsRow base k.T k.z v l.length xs) (h3:W'.ownsRow base k.T k.z v l.length xs) (hkp:Keeps G6 W W'):Older k base W W' v l:=by
 rintro u l' ⟨ys,hu,hB⟩ hle hb
 refine ⟨ys,⟨hu.1, ?_⟩,fun j hj=>k.keeps (hB j hj) hkp⟩
 rcases hu.2 with h0 | ⟨g,cap,cur,rfl,hbg,hg,hnc,hcm,hcs,htk⟩
 · exact .inl h0
 · rcases hown.2 with ⟨rfl,_⟩ | ⟨g2,cap2,cur2,rfl,_,hg2,_,_,hcs2,htk2⟩
   · cases hb
   · cases hb
     rcases h3.2 with ⟨e3,_⟩ | ⟨g3,cap3,cur3,e3,_,hg3,_,_,hcs3,htk3⟩
     · cases e3
     · cases e3
       rw [hg] at hg2;cases hg2
       refine .inr ⟨g,cap,cur3,rfl,hbg,hg3,hnc,hcm,by rw [hcs3, <- hcs2,hcs], ?_⟩
       have hmul:l'.length*k.z<=l.length*k.z:=Nat.mul_le_mul_right _ hle
       rw [<- htk, <- Nat.min_eq_left hmul, <- List.take_take, <- List.take_take,htk3,htk2]
theorem lM {α : Type} {P:Program} (k:cG α) {t:TypeId} {i:TypeInfo} {z:Value} {bytes:Nat} (ht:P.underlying t=some (.slice k.T)) (hi:P.info? k.T=some i) (hz:i.zero=some z) (hsize:i.size=k.z) (hby:i.bytes=bytes)
 (hzs:z.cells.size=k.z) (hsz : 0<k.z) {W:World} {base:Nat} {v:Value} {l:List α} (h:OwV k base W v l) {x : α} {q c:Nat} {cs:List Value} (hc:cs.length=k.z) (hq:W.heap[q]?=some (.cells cs.toArray k.T (0,0))) (hx:k.A W cs x)
 (h1:∀ u ∈ cs,u.oneCell'=true) (hn:l.length+1<=1000000) (hb:bytes<=1000000) (hbase:base<=W.heap.size) {ρ : Operand->Value} {o:Oper} {a b:Operand} (ho:o.op = .call ⟨.builtin .append, #[a,b], #[t,t]⟩) (ha : ρ a=v) (hbv : ρ b = .slice (some ⟨q,0,none⟩) 1 c) :
 ∃ v' W',(execOp ρ o).run P W = .ok (.value v') W'/\OwV k base W' v' (l++[x])/\OwV k base W' v l/\AppW base v v' W W'/\Keeps G6 W W'/\Older k base W W' v l:=by
 obtain ⟨xs,hown,hA⟩:=h
 have hlen:xs.length=l.length*k.z:=hown.1
 obtain ⟨v',W',hr,h2,h3,h4,h5⟩:=iH (P:=P) W base t o.type k.T i z k.z bytes ht hi hz hsize hby hzs hsz v l.length xs hown ⟨q,0,none⟩ 1 c cs (by rw [hc,Nat.one_mul])
  (fun j u hj=>by rw [Addr.add_lit];simp [World.cell?,hq,hj]) h1 (by simp only [maxLen];omega) (by have:=Nat.mul_le_mul hn hb;omega) hbase (by omega)
 have hkp:Keeps G6 W W':=fun g arr ty fr hp hg=>by
  rw [h4.block g (Array.getElem?_eq_some_iff.1 hg).1 fun e=>?_]; · exact hg
  obtain ⟨_,_,cur,h6⟩:=OwV.inb (k:=k) ⟨xs,hown,hA⟩ e.symm
  rw [hg] at h6;cases h6
  rw [k.notLimb] at hp;cases hp
 refine ⟨v',W', ?_,⟨xs++cs,by simpa using h2,fun j hj=>?_⟩,⟨xs,h3,fun j hj=>k.keeps (hA j hj) hkp⟩,⟨h4,h5⟩,hkp,older_of hown h3 hkp⟩
 · unfold execOp
   simp only [ho,resolve,invoke,builtin,Sem.run_bind,Sem.run_pure,Result.andThen_ok,List.map_toArray,List.map_cons,List.map_nil,ha,hbv,hr]
 · have hj:j<l.length+1:=by simpa using hj
   rcases Nat.lt_or_ge j l.length with hlt | hge
   · have:=k.keeps (hA j hlt) hkp
     rw [List.getElem_append_left hlt]
     have hle:k.z*j+k.z<=xs.length:=by
      rw [hlen, <- Nat.mul_succ,Nat.mul_comm];exact Nat.mul_le_mul_right _ hlt
     rw [List.drop_append_of_le_length (by omega),List.take_append_of_le_length (by simp;omega)]
     exact this
   · obtain rfl:j=l.length:=by omega
     rw [show k.z*l.length=xs.length by rw [hlen,Nat.mul_comm],List.drop_left,List.take_of_length_le (by omega)]
     simpa using k.keeps hx hkp
theorem info_k (t:TypeId) (n:Nat) (h:(Tryz.prog.info? t).any (fun i=>decide (i.size=n) && decide (i.bytes<=1000000) && match i.zero with | some z=>decide (z.cells.size=n) | none=>false)=true) :
 ∃ i z,Tryz.prog.info? t=some i/\i.zero=some z/\i.size=n/\i.bytes<=1000000/\z.cells.size=n:=by
 cases hi:Tryz.prog.info? t with
 | none=>rw [hi] at h;cases h
 | some i=>
   rw [hi] at h
   simp only [Option.any_some,Bool.and_eq_true,decide_eq_true_eq] at h
   cases hz:i.zero with
   | none=>rw [hz] at h;exact absurd h.2 (by simp)
   | some z=>rw [hz] at h;exact ⟨i,z,rfl,hz,h.1.1,h.1.2,by simpa using h.2⟩
theorem app_step {α : Type} (kd:cG α) {t:TypeId} (ht:Tryz.prog.underlying t=some (.slice kd.T)) (hi:∃ i z,Tryz.prog.info? kd.T=some i/\i.zero=some z/\i.size=kd.z/\i.bytes<=1000000/\z.cells.size=kd.z) (hsz : 0<kd.z)
 {W:World} {base:Nat} {v:Value} {l:List α} (h:OwV kd base W v l) {x : α} {q c:Nat} {cs:List Value} (hc:cs.length=kd.z) (hq:W.heap[q]?=some (.cells cs.toArray kd.T (0,0))) (hx:kd.A W cs x)
 (h1:∀ u ∈ cs,u.oneCell'=true) (hn:l.length+1<=1000000) (hbase:base<=W.heap.size) {ρ : Operand->Value} {o:Oper} {a b:Operand} (ho:o.op = .call ⟨.builtin .append, #[a,b], #[t,t]⟩) (ha : ρ a=v) (hbv : ρ b = .slice (some ⟨q,0,none⟩) 1 c) :
 ∃ v' W',(execOp ρ o).run Tryz.prog W = .ok (.value v') W'/\OwV kd base W' v' (l++[x])/\OwV kd base W' v l/\AppW base v v' W W'/\Keeps G6 W W'/\Older kd base W W' v l:=by
 obtain ⟨i,z,i1,i2,i3,i4,i5⟩:=hi
 exact lM kd ht i1 i2 i3 rfl i5 hsz h hc hq hx h1 hn i4 hbase ho ha hbv
theorem appS {α : Type} (kd:cG α) {specs:List Sp} {w W:World} {av:List Nat} {σ : Env} {n m0:Nat} {v:Value} {l:List α} {x : α} {run:Value->World->Prop} (g:w.grownBy W none) (hm0:av.elem m0=true) (hs0:sp specs m0=sOw kd w.heap.size l)
 (hv0 : σ.an m0 0=v) (hsn:sp specs n=sOw kd w.heap.size (l++[x])) (h:OwV kd w.heap.size W v l)
 (hr:∃ v' W',run v' W'/\OwV kd w.heap.size W' v' (l++[x])/\OwV kd w.heap.size W' v l/\AppW w.heap.size v v' W W'/\Keeps G6 W W'/\Older kd w.heap.size W W' v l)
 (hrows:∀ m,av.elem m=true->m≠m0->(sp specs m).row=true->((sp specs m).F (((sp specs m).sh.sv m).den σ) W /\ ∀ q,(sp specs m).fp (((sp specs m).sh.sv m).den σ) W q->v.ownBlock≠some q)\/(∃ l',sp specs m=sOw kd w.heap.size l'/\l'.length<=l.length/\OwV kd w.heap.size W (σ.an m 0) l')) :
 AppS specs w av σ W n run:=by
 obtain ⟨v',W',hrun,o1,o2,⟨hg,hv'⟩,hkp,hod⟩:=hr
 have hden:((sp specs m0).sh.sv m0).den σ=v:=by rw [hs0];exact hv0
 have hold:∀ q,v.ownBlock=some q->lS specs av σ W q:=fun q hq=>⟨m0,hm0,by rw [hs0];show (σ.an m0 0).ownBlock=some q;rw [hv0];exact hq⟩
 refine ⟨v',W',hrun,⟨⟨hg.os.trans g.os,hg.tape.trans g.tape,hg.output.trans g.output,Nat.le_trans g.size hg.size,fun i hi hne=>?_⟩,hg.size,fun q hq ho=>hg.block q hq fun e=>ho (hold q e.symm),KeepsOthers.of_grownBy hg fun j o e hj=>by obtain ⟨_,_,c,hc⟩:=h.inb e;rw [hc] at hj;cases hj;rfl⟩,hkp,by rw [hsn];exact o1,fun q hq=>?_,fun m hm hr=>?_⟩
 · rw [hg.block i (Nat.lt_of_lt_of_le hi g.size) fun e=>?_,g.block i hi hne]
   have:=(h.inb e.symm).2.1;omega
 · rw [hsn] at hq
   have hq:v'.ownBlock=some q:=hq
   rcases hv' with e | e
   · exact .inr (hold q (e ▸ hq))
   · rw [e] at hq;cases hq;exact .inl (Nat.le_refl _)
 · by_cases hm0':m=m0
   · subst hm0'
     refine ⟨by rw [hden,hs0];exact o2,fun q hq=>?_⟩
     rw [hden,hs0] at hq ⊢;exact hq
   · rcases hrows m hm hm0' hr with ⟨hF,hne⟩ | ⟨l',hs',hl',ho'⟩
     rotate_left
     · by_cases hb:(σ.an m 0).ownBlock=v.ownBlock
       · refine ⟨by rw [hs'];exact hod _ _ ho' hl' hb,fun q hq=>?_⟩
         rw [hs'] at hq ⊢;exact hq
       · rw [hs']
         refine (sOw kd w.heap.size l').lasts _ W W' hkp (fun q hq=>hg.block q (ho'.inb hq).1 fun e=>hb ?_) ho'
         have hq:(σ.an m 0).ownBlock=some q:=hq
         rw [hq];exact e.symm ▸ rfl
     refine (sp specs m).lasts _ W W' hkp (fun q hq=>hg.block q ((sp specs m).inb _ _ hF q hq) fun e=>hne q hq e.symm) hF
theorem dG {α : Type} {k:cG α} {base:Nat} {W:World} {v:Value} {l:List α} (h:OwV k base W v l) {q:Nat} (hq:q<base/\q<W.heap.size):v.ownBlock≠some q:=fun e=>by have:=(h.inb e).2.1;omega
theorem own_ne {α β : Type} {k:cG α} {k':cG β} {base base':Nat} {W:World} {v v':Value} {l:List α} {l':List β} (h:OwV k base W v l) (h':OwV k' base' W v' l') {q:Nat} (hq:v'.ownBlock=some q) (hT:k'.T≠k.T):v.ownBlock≠some q:=fun e=>by
 obtain ⟨_,_,c,hc⟩:=h.inb e
 obtain ⟨_,_,c',hc'⟩:=h'.inb hq
 rw [hc] at hc'
 simp only [Option.some.injEq,Obj.cells.injEq] at hc'
 exact hT hc'.2.1.symm
end Go.Proofs.YtninnifpgpjfhaaGreatDoor
namespace Go.Proofs.YtninnifpgpjfhaaGreatDoor
open Go.RowKit Mat Ex PM
def One3 (a:Int):Prop:=a = -1\/a=0\/a=1
theorem mR {t:TypeId} {a b:Int} (ha:One3 a) (hb:One3 b):binOp .mul t (.int .i64 a) (.int .i64 b) = .pure (.int .i64 (a*b)):=by
 rcases ha with rfl | rfl | rfl<;>rcases hb with rfl | rfl | rfl<;>rfl
theorem I8 {P:Program} {ρ : Operand->Value} {o:Oper} {t t':TypeId} {x y:Operand} {a:Int} {W:World} (b:Bool) (ho:o.op = .binOp .gtr t x y t') (hx : ρ x = .int .i64 a) (hy : ρ y = .int .i64 0) (h:decide (0<a)=b):(execOp ρ o).run P W = .ok (.value (.bool b)) W:=
 E4 ho hx hy (by rw [<- h];rfl)
theorem I1 {P:Program} {ρ : Operand->Value} {o:Oper} {t t':TypeId} {x y:Operand} {a:Int} {W:World} (b:Bool) (ho:o.op = .binOp .lss t x y t') (hx : ρ x = .int .i64 a) (hy : ρ y = .int .i64 0) (h:decide (a<0)=b):(execOp ρ o).run P W = .ok (.value (.bool b)) W:=
 E4 ho hx hy (by rw [<- h];rfl)
theorem V6 {P:Program} {ρ : Operand->Value} {o:Oper} {t t':TypeId} {x y:Operand} {a c:Int} {W:World} (b:Bool) (ho:o.op = .binOp .eql t x y t') (hx : ρ x = .int .i64 a) (hy : ρ y = .int .i64 c) (h:decide (a=c)=b):(execOp ρ o).run P W = .ok (.value (.bool b)) W:=
 E4 ho hx hy (by rw [<- h,show decide (a=c)=(a == c) from (Bool.beq_eq_decide_eq a c).symm];rfl)
theorem dB {P:Program} {ρ : Operand->Value} {o:Oper} {t t':TypeId} {x y:Operand} {a c:Int} {W:World} (b:Bool) (ho:o.op = .binOp .neq t x y t') (hx : ρ x = .int .i64 a) (hy : ρ y = .int .i64 c) (h:decide (a=c) = !b):(execOp ρ o).run P W = .ok (.value (.bool b)) W:=
 E4 ho hx hy (by rw [show b = !decide (a=c) by rw [h,Bool.not_not],show decide (a=c)=(a == c) from (Bool.beq_eq_decide_eq a c).symm];rfl)
theorem nO {n:Int} (h1 : -9223372036854775808<=n) (h2:n<=9223372036854775807):n.natAbs<B^1:=by
 have:(18446744073709551616:Nat)=B^1:=by unfold B;decide
 omega
def sPI (x y:Int):Sp := .of (.agg 2) (fun v _=>v = .agg #[.int .i64 x,.int .i64 y]) (fun v W h=>⟨H8 [.int .i64 x,.int .i64 y],C5 (by simp [Value.oneCell']),h⟩) (fun _ _ _ _ h=>h)
theorem pi1 {x y:Int} {a b:Value} {W:World} : (sPI x y).F (.agg #[a,b]) W->a = .int .i64 x:=fun h=>by cases h;rfl
theorem pi2 {x y:Int} {a b:Value} {W:World} : (sPI x y).F (.agg #[a,b]) W->b = .int .i64 y:=fun h=>by cases h;rfl
def B0 (x y:Int):Pq:=((x:Rat),(y:Rat))
theorem cC (w:World) (n:Int) (h1 : -9223372036854775808<=n) (h2:n<=9223372036854775807) :
 Calls Tryz.prog 37 #[.int .i64 n] w (P1 w (n:Rat)):=by
 refine A6 B5 Tryz.func37 [sZ n] [sI n,sQ (n:Rat)] (.cons rfl .nil) (rs:=[cl 1 64 [on 0],cl 2 82 [ag 2 1]]) (out:=ag 4 2) (nc:=3) (by kernel_rfl)
  ⟨fun σ W g h hb=>kG (h 0 rfl) (aV W n h1 h2),
  fun σ W g h hb=>pO W _ n 1 (h 1 rfl) (by omega) (nO h1 h2),
  trivial⟩ fun τ W g h=>⟨_,rfl,h 2 rfl,g⟩
theorem nV (w:World) (x y:Int) (h1 : -9223372036854775808<=x) (h2:x<=9223372036854775807) (h3 : -9223372036854775808<=y) (h4:y<=9223372036854775807) :
 Calls Tryz.prog 25 #[.agg #[.int .i64 x,.int .i64 y]] w (kV w (B0 x y)):=by
 refine A6 B5 Tryz.func25 [sPI x y] [sQ (x:Rat),sQ (y:Rat)] (.cons rfl .nil) (rs:=[cl 1 37 [on 0],cl 2 37 [.v false [.an 0 1]]]) (out := .v true [.an 1 0,.an 1 1,.an 1 2,.an 1 3,.an 2 0,.an 2 1,.an 2 2,.an 2 3]) (nc:=3) (by kernel_rfl)
  ⟨fun σ W g h hb=>kG (pi1 (h 0 rfl)) (cC W x h1 h2),
  fun σ W g h hb=>kG (pi2 (h 0 rfl)) (cC W y h3 h4),
  trivial⟩ fun τ W g h=>⟨_,rfl,mkpt (h 1 rfl) (h 2 rfl),g⟩
theorem cD (w:World) (va vb:Value) (p q:Pq) (K:Nat) (Ha:PtV w va p) (Hb:PtV w vb q) (hK:K<=100000) (ba:Bp K p) (bb:Bp K q) (hTab:Tab w) :
 Calls Tryz.prog 112 #[va,vb] w (kV w (p.1-q.1,p.2-q.2)):=by
 refine A6 B5 Tryz.func112 [sPt p,sPt q] [sQ (p.1-q.1),sQ (p.2-q.2)] (.cons Ha (.cons Hb .nil)) (rs:=[cl 2 79 [ag 4 0,ag 4 1],cl 3 79 [.v true [.an 0 4,.an 0 5,.an 0 6,.an 0 7],.v true [.an 1 4,.an 1 5,.an 1 6,.an 1 7]]]) (out := .v true [.an 2 0,.an 2 1,.an 2 2,.an 2 3,.an 3 0,.an 3 1,.an 3 2,.an 3 3]) (nc:=4) (by kernel_rfl)
  ⟨fun σ W g h hb=>dP W _ _ p.1 q.1 K (pt1 (h 0 rfl)) (pt1 (h 1 rfl)) (by omega) ba.1.1 ba.1.2 bb.1.1 bb.1.2 (hTab.kept g (by simp)),
  fun σ W g h hb=>dP W _ _ p.2 q.2 K (pt2 (h 0 rfl)) (pt2 (h 1 rfl)) (by omega) ba.2.1 ba.2.2 bb.2.1 bb.2.2 (hTab.kept g (by simp)),
  trivial⟩ fun τ W g h=>⟨_,rfl,mkpt (h 2 rfl) (h 3 rfl),g⟩
theorem nT (w:World) (va vb:Value) (p q:Pq) (K:Nat) (Ha:PtV w va p) (Hb:PtV w vb q) (hK:K<=100000) (ba:Bp K p) (bb:Bp K q) (hTab:Tab w) :
 Calls Tryz.prog 111 #[va,vb] w (kV w (p.1+q.1,p.2+q.2)):=by
 refine A6 B5 Tryz.func111 [sPt p,sPt q] [sQ (p.1+q.1),sQ (p.2+q.2)] (.cons Ha (.cons Hb .nil)) (rs:=[cl 2 34 [ag 4 0,ag 4 1],cl 3 34 [.v true [.an 0 4,.an 0 5,.an 0 6,.an 0 7],.v true [.an 1 4,.an 1 5,.an 1 6,.an 1 7]]]) (out := .v true [.an 2 0,.an 2 1,.an 2 2,.an 2 3,.an 3 0,.an 3 1,.an 3 2,.an 3 3]) (nc:=4) (by kernel_rfl)
  ⟨fun σ W g h hb=>lF W _ _ p.1 q.1 K (pt1 (h 0 rfl)) (pt1 (h 1 rfl)) (by omega) ba.1.1 ba.1.2 bb.1.1 bb.1.2 (hTab.kept g (by simp)),
  fun σ W g h hb=>lF W _ _ p.2 q.2 K (pt2 (h 0 rfl)) (pt2 (h 1 rfl)) (by omega) ba.2.1 ba.2.2 bb.2.1 bb.2.2 (hTab.kept g (by simp)),
  trivial⟩ fun τ W g h=>⟨_,rfl,mkpt (h 2 rfl) (h 3 rfl),g⟩
theorem PTimes_any (w:World) (va vb:Value) (p:Pq) (t:Rat) (K:Nat) (Ha:PtV w va p) (Hb:RatV w vb t) (hK:K<=100000) (ba:Bp K p) (bb:Bn K t) (hTab:Tab w) :
 Calls Tryz.prog 113 #[va,vb] w (kV w (p.1*t,p.2*t)):=by
 refine A6 B5 Tryz.func113 [sPt p,sQ t] [sQ (p.1*t),sQ (p.2*t)] (.cons Ha (.cons Hb .nil)) (rs:=[cl 2 78 [ag 4 0,ag 4 1],cl 3 78 [.v true [.an 0 4,.an 0 5,.an 0 6,.an 0 7],ag 4 1]]) (out := .v true [.an 2 0,.an 2 1,.an 2 2,.an 2 3,.an 3 0,.an 3 1,.an 3 2,.an 3 3]) (nc:=4) (by kernel_rfl)
  ⟨fun σ W g h hb=>dQ W _ _ p.1 t K (pt1 (h 0 rfl)) (h 1 rfl) (by omega) ba.1.1 ba.1.2 bb.1 bb.2 (hTab.kept g (by simp)),
  fun σ W g h hb=>dQ W _ _ p.2 t K (pt2 (h 0 rfl)) (h 1 rfl) (by omega) ba.2.1 ba.2.2 bb.1 bb.2 (hTab.kept g (by simp)),
  trivial⟩ fun τ W g h=>⟨_,rfl,mkpt (h 2 rfl) (h 3 rfl),g⟩
theorem add_nil (p:Pq):((p.1+(0:Rat),p.2+(0:Rat)):Pq)=p:=Prod.ext (Rat.add_zero _) (Rat.add_zero _)
theorem Bp.nil {K:Nat} (hK : 1<=K):Bp K ((0:Rat),(0:Rat)):=⟨.zero hK,.zero hK⟩
theorem cE (w:World) (va:Value) (p:Pq) (K:Nat) (Ha:PtV w va p) (hK : 1<=K/\K<=100000) (ba:Bp K p) (hTab:Tab w) :
 Calls Tryz.prog 110 #[va] w (kV w p):=by
 refine A6 B5 Tryz.func110 [sPt p] [sPt p] (.cons Ha .nil) (rs:=[cl 1 111 [ag 8 0,.v true [.lit (.slice none 0 0),.lit (.bool false),.lit (.slice none 0 0),.lit (.bool false),.lit (.slice none 0 0),.lit (.bool false),.lit (.slice none 0 0),.lit (.bool false)]]]) (out:=ag 8 1) (nc:=2) (by kernel_rfl)
  ⟨fun σ W g h hb=>add_nil p ▸ nT W _ _ p (0,0) K (h 0 rfl) (PtV.nil W) hK.2 ba (.nil hK.1) (hTab.kept g (by simp)),
  trivial⟩ fun τ W g h=>⟨_,rfl,h 1 rfl,g⟩
theorem kZ (w:World) (va vb:Value) (p q:Pq) (K:Nat) (Ha:PtV w va p) (Hb:PtV w vb q) (hK:K<=100000) (ba:Bp K p) (bb:Bp K q) (hTab:Tab w) :
 Calls Tryz.prog 35 #[va,vb] w (P1 w (p.1*q.2-p.2*q.1)):=by
 refine A6 B5 Tryz.func35 [sPt p,sPt q] [sQ (p.1*q.2),sQ (p.2*q.1),sQ (p.1*q.2-p.2*q.1)] (.cons Ha (.cons Hb .nil)) (rs:=[cl 2 78 [ag 4 0,.v true [.an 1 4,.an 1 5,.an 1 6,.an 1 7]],cl 3 78 [.v true [.an 0 4,.an 0 5,.an 0 6,.an 0 7],ag 4 1],cl 4 79 [ag 4 2,ag 4 3]]) (out:=ag 4 4) (nc:=5) (by kernel_rfl)
  ⟨fun σ W g h hb=>dQ W _ _ (p.1) (q.2) K (pt1 (h 0 rfl)) (pt2 (h 1 rfl)) (by omega) ba.1.1 ba.1.2 bb.2.1 bb.2.2 (hTab.kept g (by simp)),
  fun σ W g h hb=>dQ W _ _ (p.2) (q.1) K (pt2 (h 0 rfl)) (pt1 (h 1 rfl)) (by omega) ba.2.1 ba.2.2 bb.1.1 bb.1.2 (hTab.kept g (by simp)),
  fun σ W g h hb=>dP W _ _ (p.1*q.2) (p.2*q.1) (K+K) (h 2 rfl) (h 3 rfl) (by omega) (ba.1.mul bb.2).1 (ba.1.mul bb.2).2 (ba.2.mul bb.1).1 (ba.2.mul bb.1).2 (hTab.kept g (by simp)),
  trivial⟩ fun τ W g h=>⟨_,rfl,h 4 rfl,g⟩
theorem Bp.sub {K:Nat} {p q:Pq} (h:Bp K p) (h':Bp K q):Bp (K+K+1) (p.1-q.1,p.2-q.2):=⟨h.1.sub h'.1,h.2.sub h'.2⟩
theorem lA (w:World) (va vb vc:Value) (a b c:Pq) (K:Nat) (Ha:PtV w va a) (Hb:PtV w vb b) (Hc:PtV w vc c) (hK:K<=10000) (ba:Bp K a) (bb:Bp K b) (bc:Bp K c) (hTab:Tab w) :
 Calls Tryz.prog 109 #[va,vb,vc] w (P1 w (A3 a b c)):=by
 refine A6 B5 Tryz.func109 [sPt a,sPt b,sPt c] [sPt (b.1-a.1,b.2-a.2),sPt (c.1-a.1,c.2-a.2),sQ (A3 a b c)] (.cons Ha (.cons Hb (.cons Hc .nil))) (rs:=[cl 3 112 [ag 8 1,ag 8 0],cl 4 112 [ag 8 2,ag 8 0],cl 5 35 [ag 8 3,ag 8 4]]) (out:=ag 4 5) (nc:=6) (by kernel_rfl)
  ⟨fun σ W g h hb=>cD W _ _ b a K (h 1 rfl) (h 0 rfl) (by omega) bb ba (hTab.kept g (by simp)),
  fun σ W g h hb=>cD W _ _ c a K (h 2 rfl) (h 0 rfl) (by omega) bc ba (hTab.kept g (by simp)),
  fun σ W g h hb=>kZ W _ _ _ _ (K+K+1) (h 3 rfl) (h 4 rfl) (by omega) (bb.sub ba) (bc.sub ba) (hTab.kept g (by simp)),
  trivial⟩ fun τ W g h=>⟨_,rfl,h 5 rfl,g⟩
theorem PFirst_any (w:World) (p:Nat) (i j:Int) (Bq:w.heap[p]?=some (.cells #[.int .i64 i,.int .i64 j] 3 (0,0))) :
 Calls Tryz.prog 97 #[.slice (some ⟨p,0,none⟩) 2 2] w (fun e w'=>e = .returned (.int .i64 (if i=0 then j else i))/\w.grownBy w' none):=by
 rcases (show i≠0\/(i=0/\j≠0)\/(i=0/\j=0) by omega) with h1 | ⟨h1,h2⟩ | ⟨h1,h2⟩
 · rw [if_neg h1]
   exact M5 B5 Tryz.func97 [sZ i,sZ j,sV (.bool true)] 2 [.v false [.row 0 0 2 2]] [(3,[.an 0 0,.an 1 0])] (rs:=[co 2 (.binOp .neq 3 (.tmp 11) (.const (.int .i64 0)) 3) 4 [on 0,.v false [.lit (.int .i64 0)]] [0,1] []]) (out:=on 0) (nc:=3) (by kernel_rfl) w
    ⟨fun n=>match n with | 0=>H8 [.int .i64 i] | 1=>H8 [.int .i64 j] | _=>fun _ => .bool false,fun b=>match b with | 0=>p | _=>0,fun _=>undef⟩
    (fun n c=>match n with
     | 0=>C5 (by simp [Value.oneCell']) c
     | 1=>C5 (by simp [Value.oneCell']) c
     | _+2=>rfl)
    (fun b q hq=>match b,q,hq with
     | 0,_,rfl=>Bq
     | _+1,_,hq=>nomatch hq)
    (fun b c hb hc hq=>match b,c,hb,hc with
     | 0,0,_,_=>rfl
     | _+1,_,hb,_=>absurd hb (by simp)
     | _,_+1,_,hc=>absurd hc (by simp))
    (fun jn hn=>match jn,hn with
     | 0,_=>rfl
     | 1,_=>rfl
     | _+2,hn=>absurd hn (by omega))
    ⟨fun σ W g h hb=>fun ρ o ho _ hv=>⟨_,dB true ho ((A4 hv).1.trans (h 0 rfl)) (A4 hv).2 (decide_eq_false h1),rfl⟩,
    trivial⟩ _ fun τ W g h=>⟨congrArg Ending.returned (h 0 rfl),g⟩
 · rw [if_pos h1]
   exact M5 B5 Tryz.func97 [sZ i,sZ j,sV (.bool false),sV (.bool true)] 2 [.v false [.row 0 0 2 2]] [(3,[.an 0 0,.an 1 0])] (rs:=[co 2 (.binOp .neq 3 (.tmp 11) (.const (.int .i64 0)) 3) 4 [on 0,.v false [.lit (.int .i64 0)]] [0,1] [],co 3 (.binOp .neq 3 (.tmp 11) (.const (.int .i64 0)) 3) 4 [on 1,.v false [.lit (.int .i64 0)]] [0,1,2] []]) (out:=on 1) (nc:=4) (by kernel_rfl) w
    ⟨fun n=>match n with | 0=>H8 [.int .i64 i] | 1=>H8 [.int .i64 j] | _=>fun _ => .bool false,fun b=>match b with | 0=>p | _=>0,fun _=>undef⟩
    (fun n c=>match n with
     | 0=>C5 (by simp [Value.oneCell']) c
     | 1=>C5 (by simp [Value.oneCell']) c
     | _+2=>rfl)
    (fun b q hq=>match b,q,hq with
     | 0,_,rfl=>Bq
     | _+1,_,hq=>nomatch hq)
    (fun b c hb hc hq=>match b,c,hb,hc with
     | 0,0,_,_=>rfl
     | _+1,_,hb,_=>absurd hb (by simp)
     | _,_+1,_,hc=>absurd hc (by simp))
    (fun jn hn=>match jn,hn with
     | 0,_=>rfl
     | 1,_=>rfl
     | _+2,hn=>absurd hn (by omega))
    ⟨fun σ W g h hb=>fun ρ o ho _ hv=>⟨_,dB false ho ((A4 hv).1.trans (h 0 rfl)) (A4 hv).2 (decide_eq_true h1),rfl⟩,
    fun σ W g h hb=>fun ρ o ho _ hv=>⟨_,dB true ho ((A4 hv).1.trans (h 1 rfl)) (A4 hv).2 (decide_eq_false h2),rfl⟩,
    trivial⟩ _ fun τ W g h=>⟨congrArg Ending.returned (h 1 rfl),g⟩
 · rw [if_pos h1,h2]
   exact M5 B5 Tryz.func97 [sZ i,sZ j,sV (.bool false),sV (.bool false)] 2 [.v false [.row 0 0 2 2]] [(3,[.an 0 0,.an 1 0])] (rs:=[co 2 (.binOp .neq 3 (.tmp 11) (.const (.int .i64 0)) 3) 4 [on 0,.v false [.lit (.int .i64 0)]] [0,1] [],co 3 (.binOp .neq 3 (.tmp 11) (.const (.int .i64 0)) 3) 4 [on 1,.v false [.lit (.int .i64 0)]] [0,1,2] []]) (out := .v false [.lit (.int .i64 0)]) (nc:=4) (by kernel_rfl) w
    ⟨fun n=>match n with | 0=>H8 [.int .i64 i] | 1=>H8 [.int .i64 j] | _=>fun _ => .bool false,fun b=>match b with | 0=>p | _=>0,fun _=>undef⟩
    (fun n c=>match n with
     | 0=>C5 (by simp [Value.oneCell']) c
     | 1=>C5 (by simp [Value.oneCell']) c
     | _+2=>rfl)
    (fun b q hq=>match b,q,hq with
     | 0,_,rfl=>Bq
     | _+1,_,hq=>nomatch hq)
    (fun b c hb hc hq=>match b,c,hb,hc with
     | 0,0,_,_=>rfl
     | _+1,_,hb,_=>absurd hb (by simp)
     | _,_+1,_,hc=>absurd hc (by simp))
    (fun jn hn=>match jn,hn with
     | 0,_=>rfl
     | 1,_=>rfl
     | _+2,hn=>absurd hn (by omega))
    ⟨fun σ W g h hb=>fun ρ o ho _ hv=>⟨_,dB false ho ((A4 hv).1.trans (h 0 rfl)) (A4 hv).2 (decide_eq_true h1),rfl⟩,
    fun σ W g h hb=>fun ρ o ho _ hv=>⟨_,dB false ho ((A4 hv).1.trans (h 1 rfl)) (A4 hv).2 (decide_eq_true h2),rfl⟩,
    trivial⟩ _ fun τ W g h=>⟨rfl,g⟩
theorem E8 (w:World) (va vb:Value) (p q:Pq) (K:Nat) (Ha:PtV w va p) (Hb:PtV w vb q) (hK:K<=100000) (ba:Bp K p) (bb:Bp K q) :
 Calls Tryz.prog 55 #[va,vb] w (fun e w'=>e = .returned (.int .i64 (I9 p q))/\w.grownBy w' none):=by
 refine A6 B5 Tryz.func55 [sPt p,sPt q] [sZ (L9 p.1 q.1),sZ (L9 p.2 q.2),sZ (I9 p q)] (.cons Ha (.cons Hb .nil)) (rs:=[cl 2 96 [ag 4 0,ag 4 1],cl 3 96 [.v true [.an 0 4,.an 0 5,.an 0 6,.an 0 7],.v true [.an 1 4,.an 1 5,.an 1 6,.an 1 7]],clb 4 97 [.v false [.row 2 0 2 2]] [0,1,2,3] [(2,3,[.an 2 0,.an 3 0])]]) (out:=on 4) (nc:=5) (by kernel_rfl)
  ⟨fun σ W g h hb=>toZ (FCmp_any W _ _ p.1 q.1 K (pt1 (h 0 rfl)) (pt1 (h 1 rfl)) (by omega) ba.1.1 ba.1.2 bb.1.1 bb.1.2) rfl,
  fun σ W g h hb=>toZ (FCmp_any W _ _ p.2 q.2 K (pt2 (h 0 rfl)) (pt2 (h 1 rfl)) (by omega) ba.2.1 ba.2.2 bb.2.1 bb.2.2) rfl,
  fun σ W g h hb=>toZ (PFirst_any W _ _ _ (by
   have e1 : σ.an 2 0 = .int .i64 (L9 p.1 q.1):=h 2 rfl
   have e2 : σ.an 3 0 = .int .i64 (L9 p.2 q.2):=h 3 rfl
   rw [<- e1, <- e2];exact hb.1 _ (.head _))) rfl,
  trivial⟩ fun τ W g h=>⟨congrArg Ending.returned (h 4 rfl),g⟩
def P9 (s:ByteArray) (p:Pq):Prop:=∃ a b:ByteArray,I4 a p.1/\I4 b p.2/\s=a ++ { data := #[32] } ++ b
theorem bQ {s:ByteArray} {r:Rat} {K:Nat} (h:I4 s r) (hb:Bn K r):s.size<=40*K+10:=by
 rcases h with ⟨_,h⟩ | ⟨_,a,b,ha,hb',rfl⟩
 · have:=Q2 h hb.1;omega
 · have h1:=Q2 ha hb.1
   have h2:=Q2 hb' (ldi hb.2)
   simp only [ByteArray.size_append]
   have:({ data := #[47] } : ByteArray).size=1:=rfl
   omega
def RetPText (w:World) (p:Pq) (e:Ending) (w':World):Prop:=∃ s,e = .returned (.string s)/\P9 s p/\w.grownBy w' none
theorem aX (w:World) (va:Value) (p:Pq) (K:Nat) (Ha:PtV w va p) (hK : 1<=K/\K<=100000) (ba:Bp K p) :
 Calls Tryz.prog 32 #[va] w (RetPText w p):=by
 refine A6 B5 Tryz.func32 [sPt p] [sT (fun s=>I4 s p.1),sT (fun s=>∃ a,I4 a p.1/\s=a ++ { data := #[32] }),sT (fun s=>I4 s p.2),sT (fun s=>P9 s p)] (.cons Ha .nil) (rs:=[cl 1 11 [ag 4 0],co 2 (.binOp .add 9 (.tmp 5) (.const (.string ({ data := #[32] }))) 9) 9 [on 1,.v false [.lit (.string ({ data := #[32] }))]] [0,1] [],cla 3 11 [.v true [.an 0 4,.an 0 5,.an 0 6,.an 0 7]] [0,1],co 4 (.binOp .add 9 (.tmp 6) (.tmp 9) 9) 9 [on 2,on 3] [0,1,2,3] []]) (out:=on 4) (nc:=5) (by kernel_rfl)
  ⟨fun σ W g h hb=>toT (aY W _ p.1 K (pt1 (h 0 rfl)) (by omega) ba.1.1 ba.1.2),
  fun σ W g h hb=>fun ρ o ho _ hv=>by
   obtain ⟨s,e,hs⟩:=h 1 rfl
   exact ⟨_,T9 ho ((A4 hv).1.trans e) (A4 hv).2 (by have:=bQ hs ba.1;show s.size+1<=_;omega),_,rfl,s,hs,rfl⟩,
  fun σ W g h hb=>toT (aY W _ p.2 K (pt2 (h 0 rfl)) (by omega) ba.2.1 ba.2.2),
  fun σ W g h hb=>fun ρ o ho _ hv=>by
   obtain ⟨s,e,a,ha,rfl⟩:=h 2 rfl
   obtain ⟨t,e2,ht⟩:=h 3 rfl
   exact ⟨_,T9 ho ((A4 hv).1.trans e) ((A4 hv).2.trans e2) (by have h1:=bQ ha ba.1;have h2:=bQ ht ba.2;simp only [ByteArray.size_append];have:({ data := #[32] } : ByteArray).size=1:=rfl;omega),_,rfl,a,t,ha,ht,rfl⟩,
  trivial⟩ fun τ W g h=>by
   obtain ⟨s,e,hs⟩:=h 4 rfl
   exact ⟨s,congrArg Ending.returned e,hs,g⟩
theorem aO {a b:Pq} (h:ple a b):lo a b=a/\hi a b=b:=by unfold lo hi;simp [h]
theorem ends_gt {a b:Pq} (h:¬ ple a b):lo a b=b/\hi a b=a:=by unfold lo hi;simp [h]
theorem pgt {a b:Pq} : ¬ ple a b ↔ 0<I9 a b:=by rw [<- pcmp_le];omega
theorem pmax_t {a b:Pq} (h:ple b a):G5 a b=a:=by unfold G5;rw [if_pos h]
theorem pmax_f {a b:Pq} (h:¬ ple b a):G5 a b=b:=by unfold G5;rw [if_neg h]
theorem pmin_t {a b:Pq} (h:ple a b):G4 a b=a:=by unfold G4;rw [if_pos h]
theorem pmin_f {a b:Pq} (h:¬ ple a b):G4 a b=b:=by unfold G4;rw [if_neg h]
theorem pback {a b:Pq} : I9 b a<0 ↔ ¬ ple a b:=by rw [pgt,mL a b];omega
theorem Bp.lo {K:Nat} {a b:Pq} (h:Bp K a) (h':Bp K b):Bp K (lo a b):=by rcases mU a b with e | e<;>rw [e]<;>assumption
theorem Bp.hi {K:Nat} {a b:Pq} (h:Bp K a) (h':Bp K b):Bp K (hi a b):=by rcases mZ a b with e | e<;>rw [e]<;>assumption
theorem Bp.max {K:Nat} {a b:Pq} (h:Bp K a) (h':Bp K b):Bp K (G5 a b):=by rcases pmax_or a b with e | e<;>rw [e]<;>assumption
theorem Bp.min {K:Nat} {a b:Pq} (h:Bp K a) (h':Bp K b):Bp K (G4 a b):=by rcases pmin_or a b with e | e<;>rw [e]<;>assumption
theorem L5 (w:World) (va:Value) (a b:Pq) (K:Nat) (Ha:SgV w va a b) (hK : 1<=K/\K<=10000) (ba:Bp K a) (bb:Bp K b) :
 Calls Tryz.prog 92 #[va] w (RetPP w (lo a b) (hi a b)):=by
 by_cases h1:ple a b
 · skip
   rw [(aO h1).1,(aO h1).2]
   refine A6 B5 Tryz.func92 [sSg a b] [sZ (I9 a b),sV (.bool false)] (.cons Ha .nil) (rs:=[cl 1 55 [ag 8 0,.v true [.an 0 8,.an 0 9,.an 0 10,.an 0 11,.an 0 12,.an 0 13,.an 0 14,.an 0 15]],co 2 (.binOp .gtr 3 (.tmp 8) (.const (.int .i64 0)) 3) 4 [on 1,.v false [.lit (.int .i64 0)]] [0,1] []]) (out := .tup [(true,[.an 0 0,.an 0 1,.an 0 2,.an 0 3,.an 0 4,.an 0 5,.an 0 6,.an 0 7]),(true,[.an 0 8,.an 0 9,.an 0 10,.an 0 11,.an 0 12,.an 0 13,.an 0 14,.an 0 15])]) (nc:=3) (by kernel_rfl)
    ⟨fun σ W g h hb=>toZ (E8 W _ _ a b K (sg1 (h 0 rfl)) (sg2 (h 0 rfl)) (by omega) ba bb) rfl,
    fun σ W g h hb=>fun ρ o ho _ hv=>⟨_,I8 false ho ((A4 hv).1.trans (h 1 rfl)) (A4 hv).2 (decide_eq_false (by have:=pcmp_le.2 h1;omega)),rfl⟩,
    trivial⟩ fun τ W g h=>⟨_,_,rfl,sg1 (h 0 rfl),sg2 (h 0 rfl),g⟩
 · skip
   rw [(ends_gt h1).1,(ends_gt h1).2]
   refine A6 B5 Tryz.func92 [sSg a b] [sZ (I9 a b),sV (.bool true)] (.cons Ha .nil) (rs:=[cl 1 55 [ag 8 0,.v true [.an 0 8,.an 0 9,.an 0 10,.an 0 11,.an 0 12,.an 0 13,.an 0 14,.an 0 15]],co 2 (.binOp .gtr 3 (.tmp 8) (.const (.int .i64 0)) 3) 4 [on 1,.v false [.lit (.int .i64 0)]] [0,1] []]) (out := .tup [(true,[.an 0 8,.an 0 9,.an 0 10,.an 0 11,.an 0 12,.an 0 13,.an 0 14,.an 0 15]),(true,[.an 0 0,.an 0 1,.an 0 2,.an 0 3,.an 0 4,.an 0 5,.an 0 6,.an 0 7])]) (nc:=3) (by kernel_rfl)
    ⟨fun σ W g h hb=>toZ (E8 W _ _ a b K (sg1 (h 0 rfl)) (sg2 (h 0 rfl)) (by omega) ba bb) rfl,
    fun σ W g h hb=>fun ρ o ho _ hv=>⟨_,I8 true ho ((A4 hv).1.trans (h 1 rfl)) (A4 hv).2 (decide_eq_true (pgt.1 h1)),rfl⟩,
    trivial⟩ fun τ W g h=>⟨_,_,rfl,sg2 (h 0 rfl),sg1 (h 0 rfl),g⟩
theorem J7 (w:World) (va vb:Value) (a b c d:Pq) (K:Nat) (Ha:SgV w va a b) (Hb:SgV w vb c d) (hK : 1<=K/\K<=10000) (ba:Bp K a) (bb:Bp K b) (bc:Bp K c) (bd:Bp K d) :
 Calls Tryz.prog 68 #[va,vb] w (RetPP w (G5 (lo a b) (lo c d)) (G4 (hi a b) (hi c d))):=by
 rcases Classical.em (ple (lo c d) (lo a b)) with h1 | h1<;>rcases Classical.em (ple (hi a b) (hi c d)) with h2 | h2
 · skip
   rw [pmax_t h1,pmin_t h2]
   refine A6 B5 Tryz.func68 [sSg a b,sSg c d] [sPP (lo a b) (hi a b),sPP (lo c d) (hi c d),sZ (I9 (lo c d) (lo a b)),sV (.bool false),sZ (I9 (hi c d) (hi a b)),sV (.bool false)] (.cons Ha (.cons Hb .nil)) (rs:=[cl 2 92 [ag 16 0],cl 3 92 [ag 16 1],cl 4 55 [ag 8 3,ag 8 2],co 5 (.binOp .gtr 3 (.tmp 20) (.const (.int .i64 0)) 3) 4 [on 4,.v false [.lit (.int .i64 0)]] [0,1,2,3,4] [],cl 6 55 [.v true [.an 3 8,.an 3 9,.an 3 10,.an 3 11,.an 3 12,.an 3 13,.an 3 14,.an 3 15],.v true [.an 2 8,.an 2 9,.an 2 10,.an 2 11,.an 2 12,.an 2 13,.an 2 14,.an 2 15]],co 7 (.binOp .lss 3 (.tmp 25) (.const (.int .i64 0)) 3) 4 [on 6,.v false [.lit (.int .i64 0)]] [0,1,2,3,4,5,6] []]) (out := .tup [(true,[.an 2 0,.an 2 1,.an 2 2,.an 2 3,.an 2 4,.an 2 5,.an 2 6,.an 2 7]),(true,[.an 2 8,.an 2 9,.an 2 10,.an 2 11,.an 2 12,.an 2 13,.an 2 14,.an 2 15])]) (nc:=8) (by kernel_rfl)
    ⟨fun σ W g h hb=>cN (L5 W _ a b K (h 0 rfl) hK ba bb),
    fun σ W g h hb=>cN (L5 W _ c d K (h 1 rfl) hK bc bd),
    fun σ W g h hb=>toZ (E8 W _ _ (lo c d) (lo a b) K (pp1 (h 3 rfl)) (pp1 (h 2 rfl)) (by omega) (bc.lo bd) (ba.lo bb)) rfl,
    fun σ W g h hb=>fun ρ o ho _ hv=>⟨_,I8 false ho ((A4 hv).1.trans (h 4 rfl)) (A4 hv).2 (decide_eq_false (by have:=pcmp_le.2 h1;omega)),rfl⟩,
    fun σ W g h hb=>toZ (E8 W _ _ (hi c d) (hi a b) K (pp2 (h 3 rfl)) (pp2 (h 2 rfl)) (by omega) (bc.hi bd) (ba.hi bb)) rfl,
    fun σ W g h hb=>fun ρ o ho _ hv=>⟨_,I1 false ho ((A4 hv).1.trans (h 6 rfl)) (A4 hv).2 (decide_eq_false (by exact fun q=>pback.1 q h2)),rfl⟩,
    trivial⟩ fun τ W g h=>⟨_,_,rfl,pp1 (h 2 rfl),pp2 (h 2 rfl),g⟩
 · skip
   rw [pmax_t h1,pmin_f h2]
   refine A6 B5 Tryz.func68 [sSg a b,sSg c d] [sPP (lo a b) (hi a b),sPP (lo c d) (hi c d),sZ (I9 (lo c d) (lo a b)),sV (.bool false),sZ (I9 (hi c d) (hi a b)),sV (.bool true)] (.cons Ha (.cons Hb .nil)) (rs:=[cl 2 92 [ag 16 0],cl 3 92 [ag 16 1],cl 4 55 [ag 8 3,ag 8 2],co 5 (.binOp .gtr 3 (.tmp 20) (.const (.int .i64 0)) 3) 4 [on 4,.v false [.lit (.int .i64 0)]] [0,1,2,3,4] [],cl 6 55 [.v true [.an 3 8,.an 3 9,.an 3 10,.an 3 11,.an 3 12,.an 3 13,.an 3 14,.an 3 15],.v true [.an 2 8,.an 2 9,.an 2 10,.an 2 11,.an 2 12,.an 2 13,.an 2 14,.an 2 15]],co 7 (.binOp .lss 3 (.tmp 25) (.const (.int .i64 0)) 3) 4 [on 6,.v false [.lit (.int .i64 0)]] [0,1,2,3,4,5,6] []]) (out := .tup [(true,[.an 2 0,.an 2 1,.an 2 2,.an 2 3,.an 2 4,.an 2 5,.an 2 6,.an 2 7]),(true,[.an 3 8,.an 3 9,.an 3 10,.an 3 11,.an 3 12,.an 3 13,.an 3 14,.an 3 15])]) (nc:=8) (by kernel_rfl)
    ⟨fun σ W g h hb=>cN (L5 W _ a b K (h 0 rfl) hK ba bb),
    fun σ W g h hb=>cN (L5 W _ c d K (h 1 rfl) hK bc bd),
    fun σ W g h hb=>toZ (E8 W _ _ (lo c d) (lo a b) K (pp1 (h 3 rfl)) (pp1 (h 2 rfl)) (by omega) (bc.lo bd) (ba.lo bb)) rfl,
    fun σ W g h hb=>fun ρ o ho _ hv=>⟨_,I8 false ho ((A4 hv).1.trans (h 4 rfl)) (A4 hv).2 (decide_eq_false (by have:=pcmp_le.2 h1;omega)),rfl⟩,
    fun σ W g h hb=>toZ (E8 W _ _ (hi c d) (hi a b) K (pp2 (h 3 rfl)) (pp2 (h 2 rfl)) (by omega) (bc.hi bd) (ba.hi bb)) rfl,
    fun σ W g h hb=>fun ρ o ho _ hv=>⟨_,I1 true ho ((A4 hv).1.trans (h 6 rfl)) (A4 hv).2 (decide_eq_true (by exact pback.2 h2)),rfl⟩,
    trivial⟩ fun τ W g h=>⟨_,_,rfl,pp1 (h 2 rfl),pp2 (h 3 rfl),g⟩
 · skip
   rw [pmax_f h1,pmin_t h2]
   refine A6 B5 Tryz.func68 [sSg a b,sSg c d] [sPP (lo a b) (hi a b),sPP (lo c d) (hi c d),sZ (I9 (lo c d) (lo a b)),sV (.bool true),sZ (I9 (hi c d) (hi a b)),sV (.bool false)] (.cons Ha (.cons Hb .nil)) (rs:=[cl 2 92 [ag 16 0],cl 3 92 [ag 16 1],cl 4 55 [ag 8 3,ag 8 2],co 5 (.binOp .gtr 3 (.tmp 20) (.const (.int .i64 0)) 3) 4 [on 4,.v false [.lit (.int .i64 0)]] [0,1,2,3,4] [],cl 6 55 [.v true [.an 3 8,.an 3 9,.an 3 10,.an 3 11,.an 3 12,.an 3 13,.an 3 14,.an 3 15],.v true [.an 2 8,.an 2 9,.an 2 10,.an 2 11,.an 2 12,.an 2 13,.an 2 14,.an 2 15]],co 7 (.binOp .lss 3 (.tmp 25) (.const (.int .i64 0)) 3) 4 [on 6,.v false [.lit (.int .i64 0)]] [0,1,2,3,4,5,6] []]) (out := .tup [(true,[.an 3 0,.an 3 1,.an 3 2,.an 3 3,.an 3 4,.an 3 5,.an 3 6,.an 3 7]),(true,[.an 2 8,.an 2 9,.an 2 10,.an 2 11,.an 2 12,.an 2 13,.an 2 14,.an 2 15])]) (nc:=8) (by kernel_rfl)
    ⟨fun σ W g h hb=>cN (L5 W _ a b K (h 0 rfl) hK ba bb),
    fun σ W g h hb=>cN (L5 W _ c d K (h 1 rfl) hK bc bd),
    fun σ W g h hb=>toZ (E8 W _ _ (lo c d) (lo a b) K (pp1 (h 3 rfl)) (pp1 (h 2 rfl)) (by omega) (bc.lo bd) (ba.lo bb)) rfl,
    fun σ W g h hb=>fun ρ o ho _ hv=>⟨_,I8 true ho ((A4 hv).1.trans (h 4 rfl)) (A4 hv).2 (decide_eq_true (by exact pgt.1 h1)),rfl⟩,
    fun σ W g h hb=>toZ (E8 W _ _ (hi c d) (hi a b) K (pp2 (h 3 rfl)) (pp2 (h 2 rfl)) (by omega) (bc.hi bd) (ba.hi bb)) rfl,
    fun σ W g h hb=>fun ρ o ho _ hv=>⟨_,I1 false ho ((A4 hv).1.trans (h 6 rfl)) (A4 hv).2 (decide_eq_false (by exact fun q=>pback.1 q h2)),rfl⟩,
    trivial⟩ fun τ W g h=>⟨_,_,rfl,pp1 (h 3 rfl),pp2 (h 2 rfl),g⟩
 · skip
   rw [pmax_f h1,pmin_f h2]
   refine A6 B5 Tryz.func68 [sSg a b,sSg c d] [sPP (lo a b) (hi a b),sPP (lo c d) (hi c d),sZ (I9 (lo c d) (lo a b)),sV (.bool true),sZ (I9 (hi c d) (hi a b)),sV (.bool true)] (.cons Ha (.cons Hb .nil)) (rs:=[cl 2 92 [ag 16 0],cl 3 92 [ag 16 1],cl 4 55 [ag 8 3,ag 8 2],co 5 (.binOp .gtr 3 (.tmp 20) (.const (.int .i64 0)) 3) 4 [on 4,.v false [.lit (.int .i64 0)]] [0,1,2,3,4] [],cl 6 55 [.v true [.an 3 8,.an 3 9,.an 3 10,.an 3 11,.an 3 12,.an 3 13,.an 3 14,.an 3 15],.v true [.an 2 8,.an 2 9,.an 2 10,.an 2 11,.an 2 12,.an 2 13,.an 2 14,.an 2 15]],co 7 (.binOp .lss 3 (.tmp 25) (.const (.int .i64 0)) 3) 4 [on 6,.v false [.lit (.int .i64 0)]] [0,1,2,3,4,5,6] []]) (out := .tup [(true,[.an 3 0,.an 3 1,.an 3 2,.an 3 3,.an 3 4,.an 3 5,.an 3 6,.an 3 7]),(true,[.an 3 8,.an 3 9,.an 3 10,.an 3 11,.an 3 12,.an 3 13,.an 3 14,.an 3 15])]) (nc:=8) (by kernel_rfl)
    ⟨fun σ W g h hb=>cN (L5 W _ a b K (h 0 rfl) hK ba bb),
    fun σ W g h hb=>cN (L5 W _ c d K (h 1 rfl) hK bc bd),
    fun σ W g h hb=>toZ (E8 W _ _ (lo c d) (lo a b) K (pp1 (h 3 rfl)) (pp1 (h 2 rfl)) (by omega) (bc.lo bd) (ba.lo bb)) rfl,
    fun σ W g h hb=>fun ρ o ho _ hv=>⟨_,I8 true ho ((A4 hv).1.trans (h 4 rfl)) (A4 hv).2 (decide_eq_true (by exact pgt.1 h1)),rfl⟩,
    fun σ W g h hb=>toZ (E8 W _ _ (hi c d) (hi a b) K (pp2 (h 3 rfl)) (pp2 (h 2 rfl)) (by omega) (bc.hi bd) (ba.hi bb)) rfl,
    fun σ W g h hb=>fun ρ o ho _ hv=>⟨_,I1 true ho ((A4 hv).1.trans (h 6 rfl)) (A4 hv).2 (decide_eq_true (by exact pback.2 h2)),rfl⟩,
    trivial⟩ fun τ W g h=>⟨_,_,rfl,pp1 (h 3 rfl),pp2 (h 3 rfl),g⟩
theorem E9 (w:World) (va vb:Value) (a b c d:Pq) (K:Nat) (Ha:SgV w va a b) (Hb:SgV w vb c d) (hK : 1<=K/\K<=10000) (ba:Bp K a) (bb:Bp K b) (bc:Bp K c) (bd:Bp K d) (hTab:Tab w) :
 Calls Tryz.prog 70 #[va,vb] w (RetQQ w (A3 a b c) (A3 a b d)):=by
 refine A6 B5 Tryz.func70 [sSg a b,sSg c d] [sQ (A3 a b c),sQ (A3 a b d)] (.cons Ha (.cons Hb .nil)) (rs:=[cl 2 109 [ag 8 0,.v true [.an 0 8,.an 0 9,.an 0 10,.an 0 11,.an 0 12,.an 0 13,.an 0 14,.an 0 15],ag 8 1],cl 3 109 [ag 8 0,.v true [.an 0 8,.an 0 9,.an 0 10,.an 0 11,.an 0 12,.an 0 13,.an 0 14,.an 0 15],.v true [.an 1 8,.an 1 9,.an 1 10,.an 1 11,.an 1 12,.an 1 13,.an 1 14,.an 1 15]]]) (out := .tup [(true,[.an 2 0,.an 2 1,.an 2 2,.an 2 3]),(true,[.an 3 0,.an 3 1,.an 3 2,.an 3 3])]) (nc:=4) (by kernel_rfl)
  ⟨fun σ W g h hb=>lA W _ _ _ a b c K (sg1 (h 0 rfl)) (sg2 (h 0 rfl)) (sg1 (h 1 rfl)) hK.2 ba bb bc (hTab.kept g (by simp)),
  fun σ W g h hb=>lA W _ _ _ a b d K (sg1 (h 0 rfl)) (sg2 (h 0 rfl)) (sg2 (h 1 rfl)) hK.2 ba bb bd (hTab.kept g (by simp)),
  trivial⟩ fun τ W g h=>⟨_,_,rfl,h 2 rfl,h 3 rfl,g⟩
noncomputable def dec (p:Prop):Bool:=open Classical in decide p
theorem dec_t {p:Prop} (h:p):dec p=true:=by unfold dec;simp [h]
theorem fN {p:Prop} (h:¬ p):dec p=false:=by unfold dec;simp [h]
theorem F7 (w:World) (va vb:Value) (u v:Rat) (K:Nat) (Ha:RatV w va u) (Hb:RatV w vb v) (hK:K<=200000) (bu:Bn K u) (bv:Bn K v) :
 Calls Tryz.prog 69 #[va,vb] w (RetB w (dec (M9 u v))):=by
 by_cases h1:M9 u v
 · skip
   rw [dec_t h1]
   refine A6 B5 Tryz.func69 [sQ u,sQ v] [sZ (rsg u),sZ (rsg v),sZ (rsg u*rsg v),sV (.bool true)] (.cons Ha (.cons Hb .nil)) (rs:=[cl 2 71 [ag 4 0],cl 3 71 [ag 4 1],co 4 (.binOp .mul 3 (.tmp 6) (.tmp 8) 3) 3 [on 2,on 3] [0,1,2,3] [],co 5 (.binOp .gtr 3 (.tmp 9) (.const (.int .i64 0)) 3) 4 [on 4,.v false [.lit (.int .i64 0)]] [0,1,2,3,4] []]) (out := .v false [.lit (.bool true)]) (nc:=6) (by kernel_rfl)
    ⟨fun σ W g h hb=>toZ (C6 W _ _ K (h 0 rfl) (by omega) bu.1) rfl,
    fun σ W g h hb=>toZ (C6 W _ _ K (h 1 rfl) (by omega) bv.1) rfl,
    fun σ W g h hb=>fun ρ o ho _ hv=>⟨_,E4 ho ((A4 hv).1.trans (h 2 rfl)) ((A4 hv).2.trans (h 3 rfl)) (mR (bR u) (bR v)),rfl⟩,
    fun σ W g h hb=>fun ρ o ho _ hv=>⟨_,I8 true ho ((A4 hv).1.trans (h 4 rfl)) (A4 hv).2 (decide_eq_true (aside_iff.2 h1)),rfl⟩,
    trivial⟩ fun τ W g h=>⟨rfl,g⟩
 · skip
   rw [fN h1]
   refine A6 B5 Tryz.func69 [sQ u,sQ v] [sZ (rsg u),sZ (rsg v),sZ (rsg u*rsg v),sV (.bool false)] (.cons Ha (.cons Hb .nil)) (rs:=[cl 2 71 [ag 4 0],cl 3 71 [ag 4 1],co 4 (.binOp .mul 3 (.tmp 6) (.tmp 8) 3) 3 [on 2,on 3] [0,1,2,3] [],co 5 (.binOp .gtr 3 (.tmp 9) (.const (.int .i64 0)) 3) 4 [on 4,.v false [.lit (.int .i64 0)]] [0,1,2,3,4] []]) (out := .v false [.lit (.bool false)]) (nc:=6) (by kernel_rfl)
    ⟨fun σ W g h hb=>toZ (C6 W _ _ K (h 0 rfl) (by omega) bu.1) rfl,
    fun σ W g h hb=>toZ (C6 W _ _ K (h 1 rfl) (by omega) bv.1) rfl,
    fun σ W g h hb=>fun ρ o ho _ hv=>⟨_,E4 ho ((A4 hv).1.trans (h 2 rfl)) ((A4 hv).2.trans (h 3 rfl)) (mR (bR u) (bR v)),rfl⟩,
    fun σ W g h hb=>fun ρ o ho _ hv=>⟨_,I8 false ho ((A4 hv).1.trans (h 4 rfl)) (A4 hv).2 (decide_eq_false (fun q=>h1 (aside_iff.1 q))),rfl⟩,
    trivial⟩ fun τ W g h=>⟨rfl,g⟩
theorem Bp.one {K:Nat} {a:Pq} (h:Bp K a):Bn K a.1/\Bn K a.2:=h
theorem dM (w:World) (va vb vc:Value) (a b:Pq) (u v:Rat) (K M:Nat) (Ha:SgV w va a b) (Hb:RatV w vb u) (Hc:RatV w vc v) (hK : 1<=K/\K<=1000/\2*K+1<=M/\M<=10000) (ba:Bp K a) (bb:Bp K b) (bu:Bn M u) (bv:Bn M v) (hne:u≠v) (hTab:Tab w) :
 Calls Tryz.prog 73 #[va,vb,vc] w (kV w (pat a b (u / (u-v)))):=by
 have h0:u-v≠0:=fun e=>hne (by grind)
 have b1:Bn (2*M+1) (u-v):=(bu.sub bv).mono (by omega)
 have b2:Bn (4*M+2) (u / (u-v)):=((bu.mono (by omega)).div b1 (by omega)).mono (by omega)
 have b3:Bp (4*M+2) (b.1-a.1,b.2-a.2):=(bb.sub ba).mono (by omega)
 have b4:Bp (8*M+4) ((b.1-a.1)*(u / (u-v)),(b.2-a.2)*(u / (u-v))):=⟨(b3.1.mul b2).mono (by omega),(b3.2.mul b2).mono (by omega)⟩
 refine A6 B5 Tryz.func73 [sSg a b,sQ u,sQ v] [sQ (u-v),sQE (u / (u-v)) 0,sPt (b.1-a.1,b.2-a.2),sPt ((b.1-a.1)*(u / (u-v)),(b.2-a.2)*(u / (u-v))),sPt (pat a b (u / (u-v)))] (.cons Ha (.cons Hb (.cons Hc .nil))) (rs:=[cl 3 79 [ag 4 1,ag 4 2],cl 4 36 [ag 4 1,ag 4 3],cl 5 112 [.v true [.an 0 8,.an 0 9,.an 0 10,.an 0 11,.an 0 12,.an 0 13,.an 0 14,.an 0 15],ag 8 0],cl 6 113 [ag 8 5,ag 4 4],cl 7 111 [ag 8 0,ag 8 6]]) (out:=ag 8 7) (nc:=8) (by kernel_rfl)
  ⟨fun σ W g h hb=>dP W _ _ u v M (h 1 rfl) (h 2 rfl) (by omega) bu.1 bu.2 bv.1 bv.2 (hTab.kept g (by simp)),
  fun σ W g h hb=>toQE (FDiv_any W _ _ u (u-v) (2*M+1) (h 1 rfl) (h 3 rfl) (by omega) (bu.mono (by omega)).1 (bu.mono (by omega)).2 b1.1 b1.2 (hTab.kept g (by simp))) (by rw [if_neg h0]),
  fun σ W g h hb=>cD W _ _ b a K (sg2 (h 0 rfl)) (sg1 (h 0 rfl)) (by omega) bb ba (hTab.kept g (by simp)),
  fun σ W g h hb=>PTimes_any W _ _ _ _ (4*M+2) (h 5 rfl) (qE (h 4 rfl)) (by omega) b3 b2 (hTab.kept g (by simp)),
  fun σ W g h hb=>nT W _ _ a _ (8*M+4) (sg1 (h 0 rfl)) (h 6 rfl) (by omega) (ba.mono (by omega)) b4 (hTab.kept g (by simp)),
  trivial⟩ fun τ W g h=>⟨_,rfl,h 7 rfl,g⟩
theorem pts_one {w:World} {b:Nat} {a0 a1 a2 a3 a4 a5 a6 a7:Value} {p:Pq} (hb:w.heap[b]?=some (.cells #[a0,a1,a2,a3,a4,a5,a6,a7] 33 (0,0))) (hp:PtV w (.agg #[a0,a1,a2,a3,a4,a5,a6,a7]) p):PtsV w (.slice (some ⟨b,0,none⟩) 1 1) [p]:=by
 refine ⟨_,_,_,rfl,rfl,Nat.le_refl _,.inr ⟨b,0,_,rfl,hb,fun i hi=>?_⟩⟩
 obtain rfl:i=0:=by simpa using hi
 exact ⟨_,_,_,_,_,_,_,_,rfl,rfl,rfl,rfl,rfl,rfl,rfl,rfl,hp⟩
theorem pts_two {w:World} {b:Nat} {a0 a1 a2 a3 a4 a5 a6 a7 c0 c1 c2 c3 c4 c5 c6 c7:Value} {p q:Pq} (hb:w.heap[b]?=some (.cells #[a0,a1,a2,a3,a4,a5,a6,a7,c0,c1,c2,c3,c4,c5,c6,c7] 33 (0,0))) (hp:PtV w (.agg #[a0,a1,a2,a3,a4,a5,a6,a7]) p) (hq:PtV w (.agg #[c0,c1,c2,c3,c4,c5,c6,c7]) q):PtsV w (.slice (some ⟨b,0,none⟩) 2 2) [p,q]:=by
 refine ⟨_,_,_,rfl,rfl,Nat.le_refl _,.inr ⟨b,0,_,rfl,hb,fun i hi=>?_⟩⟩
 match i,hi with
 | 0,_=>exact ⟨_,_,_,_,_,_,_,_,rfl,rfl,rfl,rfl,rfl,rfl,rfl,rfl,hp⟩
 | 1,_=>exact ⟨_,_,_,_,_,_,_,_,rfl,rfl,rfl,rfl,rfl,rfl,rfl,rfl,hq⟩
 | n+2,hi=>exact absurd hi (by simp)
theorem gI (w:World):PtsV w (.slice none 0 0) []:=⟨none,0,0,rfl,rfl,Nat.le_refl _,.inl rfl⟩
theorem fp_new {w:World} {b n c:Nat} (hb:w.heap.size<=b) (q:Nat) (hq:fpS (.slice (some ⟨b,0,none⟩) n c) q):w.heap.size<=q:=by obtain ⟨o,m,c,e⟩:=hq;cases e;exact hb
theorem oV {w:World} (q:Nat) (hq:fpS (.slice none 0 0) q):w.heap.size<=q:=by obtain ⟨o,m,c,e⟩:=hq;cases e
theorem btw_f {p q:Pq} (h:p≠q):btw p q=[p,q]:=by unfold btw;rw [if_neg h]
theorem J8 (w:World) (va vb:Value) (p q:Pq) (K:Nat) (Ha:PtV w va p) (Hb:PtV w vb q) (hK : 1<=K/\K<=100000) (ba:Bp K p) (bb:Bp K q) (hTab:Tab w) :
 Calls Tryz.prog 72 #[va,vb] w (pL w (btw p q)):=by
 by_cases h1:p=q
 · skip
   rw [<- h1,btw_self]
   refine fL B5 Tryz.func72 [sPt p,sPt q] [sZ (I9 p q),sV (.bool true),sPt p] (.cons Ha (.cons Hb .nil)) (rs:=[cl 2 55 [ag 8 0,ag 8 1],co 3 (.binOp .eql 3 (.tmp 7) (.const (.int .i64 0)) 3) 4 [on 2,.v false [.lit (.int .i64 0)]] [0,1,2] [],cl 4 110 [ag 8 0]]) (out := .v false [.row 2 0 1 1]) (nc:=5) (nd:=[(2,33,[.an 4 0,.an 4 1,.an 4 2,.an 4 3,.an 4 4,.an 4 5,.an 4 6,.an 4 7])]) (own:=[2]) (by kernel_rfl)
    ⟨fun σ W g h hb=>toZ (E8 W _ _ p q K (h 0 rfl) (h 1 rfl) (by omega) ba bb) rfl,
    fun σ W g h hb=>fun ρ o ho _ hv=>⟨_,V6 true ho ((A4 hv).1.trans (h 2 rfl)) (A4 hv).2 (decide_eq_true (pcmp_zero.2 h1)),rfl⟩,
    fun σ W g h hb=>cE W _ p K (h 0 rfl) hK ba (hTab.kept g (by simp)),
    trivial⟩ fun τ W g h hb ho=>⟨_,rfl,pts_one (hb.1 _ (.head _)) (h 4 rfl),g,fp_new (ho _ rfl)⟩
 · skip
   rw [btw_f h1]
   refine fL B5 Tryz.func72 [sPt p,sPt q] [sZ (I9 p q),sV (.bool false),sPt p,sPt q] (.cons Ha (.cons Hb .nil)) (rs:=[cl 2 55 [ag 8 0,ag 8 1],co 3 (.binOp .eql 3 (.tmp 7) (.const (.int .i64 0)) 3) 4 [on 2,.v false [.lit (.int .i64 0)]] [0,1,2] [],cl 4 110 [ag 8 0],cl 5 110 [ag 8 1]]) (out := .v false [.row 2 0 2 2]) (nc:=6) (nd:=[(2,33,[.an 4 0,.an 4 1,.an 4 2,.an 4 3,.an 4 4,.an 4 5,.an 4 6,.an 4 7,.an 5 0,.an 5 1,.an 5 2,.an 5 3,.an 5 4,.an 5 5,.an 5 6,.an 5 7])]) (own:=[2]) (by kernel_rfl)
    ⟨fun σ W g h hb=>toZ (E8 W _ _ p q K (h 0 rfl) (h 1 rfl) (by omega) ba bb) rfl,
    fun σ W g h hb=>fun ρ o ho _ hv=>⟨_,V6 false ho ((A4 hv).1.trans (h 2 rfl)) (A4 hv).2 (decide_eq_false (fun e=>h1 (pcmp_zero.1 e))),rfl⟩,
    fun σ W g h hb=>cE W _ p K (h 0 rfl) hK ba (hTab.kept g (by simp)),
    fun σ W g h hb=>cE W _ q K (h 1 rfl) hK bb (hTab.kept g (by simp)),
    trivial⟩ fun τ W g h hb ho=>⟨_,rfl,pts_two (hb.1 _ (.head _)) (h 4 rfl) (h 5 rfl),g,fp_new (ho _ rfl)⟩
end Go.Proofs.YtninnifpgpjfhaaGreatDoor
