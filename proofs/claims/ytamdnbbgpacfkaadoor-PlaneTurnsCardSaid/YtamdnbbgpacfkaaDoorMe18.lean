/- What the laws lean on, part 18. -/
import Derived.Below
import Derived.BigCall
import Derived.BigQuiet
import Derived.BigRegion
import Derived.Deep.AppendLies
import Derived.Deep.CutBlock
import Derived.Deep.CutRange
import Derived.Deep.DeepCutAuto
import Derived.Deep.DeepHandedRow
import Derived.Deep.LoopGhost
import Derived.Deep.MidRow
import Derived.Deep.QuietTactic
import Derived.Deep.RegionHeld3
import Derived.Deep.RegionLaw
import Derived.Deep.WholeRow
import Derived.Laws.AppendOwn
import Derived.Laws.Concat
import Derived.Laws.CopyOwn
import Derived.Laws.Externs
import Derived.Laws.IdiomStrings
import Derived.Lib.BitFns
import Derived.Lib.Bytealg
import Derived.Lib.Hide
import Derived.Lib.Slices
import Derived.Lib.Small
import Derived.Lib.Strings
import Derived.Lib.Walk
import Derived.LoopIn
import Derived.LoopN
import Derived.LoopNIn
import Derived.Maps.AppendAt
import Derived.OpenShut
import Derived.OrdersHeld
import Derived.OrdersIn
import Derived.Outline
import Derived.OwnWalk
import Derived.OwnWalkIn
import Derived.ProofKit
import Derived.RangeFuncBound
import Derived.RangeFuncCalls
import Derived.RangeFuncLeaves
import Derived.RangeFuncNested
import Derived.RangeFuncOwn
import Derived.Shelf.Abstract
import Derived.Shelf.Bits.Mul64
import Derived.Shelf.RegionOpen
import Derived.Shelf.Spec.TrailingZeros
import Derived.StillTailTactics
import Derived.TacticsInMore
import Derived.WalkKit
import Derived.WalkLawsBesides
import Derived.WalkSpells
import Derived.Test.YtamdnbbgpacfkaaDoorProg
import Derived.Test.YtamdnbbgpacfkaaDoorRows
import Derived.Test.YtamdnbbgpacfkaaDoorMe11
import Derived.Test.YtamdnbbgpacfkaaDoorMe17
set_option linter.unusedVariables false
set_option linter.unusedSimpArgs false
set_option maxRecDepth 100000
namespace Go.Proofs.YtamdnbbgpacfkaaDoor
open Go.RowKit Go.Shelf Mat Ex PM
attribute [local go_sem] Oper.semAt_some
set_option maxHeartbeats 2000000 in
theorem PSides1_in (n:Nat) (hn : 1<=n) (l Bs b off len cap:Nat) (cs:Array Value) (hsz:off+8*len<=cs.size) (hlen:len<=1000000) (hsh:∀ i,i<len->Sh8 cs (off+i*8)) (J Jx:List Nat->World->Prop)
 (W:World) (hJ:AbidesFrom W.heap.size J)
 (hY:∀ pre x W,J pre W->x<len->pre.length<len->YieldAt Fence.wide (n-1) Tryd.prog l #[pv cs (off+x*8),pv cs (off+(x+1)%len*8)] W fun e W'=>
  (e = .returned (.bool true)/\J (pre++[x]) W'/\KpR b Bs W W')\/(e = .returned (.bool false)/\Jx (pre++[x]) W'))
 (hb:W.heap[b]?=some (.cells cs 33 (0,0))) (hB:W.heap[Bs]?=some (.cells #[.slice (some ⟨b,off,none⟩) len cap] 40 (0,0))) (h0:J [] W) :
 CallsIn Fence.wide n Tryd.prog 64 #[.func (.yield l) #[] #[],.pointer (some ⟨Bs,0,none⟩)] W fun e W'=>(∃ v,e = .returned v) /\
  ((∃ ys,ys=List.range len/\J ys W')\/(∃ k,k<=len/\Jx (List.range k) W')):=by
 refine callsIn_of_wp Tryd.func64 rfl trivial ?_ rfl
 simp only [Tryd.ntmps64,List.size_toArray,List.length_cons,List.length_nil,Nat.reduceAdd,Nat.reduceSub,Array.replicate_succ,Array.replicate_zero,List.push_toArray,List.append_toArray,List.nil_append,List.cons_append]
 have hBc:W.cell? ⟨Bs,0,none⟩=some (.slice (some ⟨b,off,none⟩) len cap):=by unfold World.cell?;rw [hB];rfl
 gi_wp2
 gi_loopw [7] (fun i wr=>∃ k:Nat,k<=len/\i = .int .i64 k/\J (List.range k) wr/\wr.heap[b]?=W.heap[b]?/\wr.heap[Bs]?=W.heap[Bs]?)
  (fun i _=>len-(intOf i).toNat)
 case atStart=>exact ⟨0,Nat.zero_le _,rfl,h0,rfl,rfl⟩
 case round=>
  obtain ⟨k,hk,rfl,hJs,hbr,hBr⟩:=hrel
  by_cases hlt:k<len
  · have hb2:=hbr.trans hb
    have hB2:=hBr.trans hB
    have hbl:b<wr.heap.size:=(Array.getElem?_eq_some_iff.1 hb2).1
    have hBl:Bs<wr.heap.size:=(Array.getElem?_eq_some_iff.1 hB2).1
    have hBc2:wr.cell? ⟨Bs,0,none⟩=some (.slice (some ⟨b,off,none⟩) len cap):=by unfold World.cell?;rw [hB2];rfl
    have c0:=C4 hb2 (k:=off+k*8) (by omega)
    have c1:=C4 hb2 (k:=off+k*8+1) (by omega)
    have c2:=C4 hb2 (k:=off+k*8+2) (by omega)
    have c3:=C4 hb2 (k:=off+k*8+3) (by omega)
    have c4:=C4 hb2 (k:=off+k*8+4) (by omega)
    have c5:=C4 hb2 (k:=off+k*8+5) (by omega)
    have c6:=C4 hb2 (k:=off+k*8+6) (by omega)
    have c7:=C4 hb2 (k:=off+k*8+7) (by omega)
    obtain ⟨s0,n0,x0,s1,n1,x1,s2,n2,x2,s3,n3,x3,e0,e1,e2,e3,e4,e5,e6,e7⟩:=hsh k hlt
    rw [e0] at c0;rw [e1] at c1;rw [e2] at c2;rw [e3] at c3;rw [e4] at c4;rw [e5] at c5;rw [e6] at c6;rw [e7] at c7
    have hg1:wr.grownBy (wr.alloc (.cells #[.slice s0 n0 n0,.bool x0,.slice s1 n1 n1,.bool x1,.slice s2 n2 n2,.bool x2,.slice s3 n3 n3,.bool x3] 33)).drew none:=
     (World.grownBy_alloc _ _ none).trans ⟨rfl,rfl,rfl,Nat.le_refl _,fun _ _ _=>rfl⟩
    have hkeep:∀ q,q<wr.heap.size->(wr.alloc (.cells #[.slice s0 n0 n0,.bool x0,.slice s1 n1 n1,.bool x1,.slice s2 n2 n2,.bool x2,.slice s3 n3 n3,.bool x3] 33)).drew.heap[q]?=wr.heap[q]?:=fun q hq=>hg1.block q hq (by simp)
    obtain ⟨fn,tmps,assign,body,hy,hR⟩:=hY _ k _ (hJ _ _ _ none hJs hg1 (fun r e=>nomatch e)) hlt (by simpa using hlt)
    unfold pv at hy
    rw [e0,e1,e2,e3,e4,e5,e6,e7] at hy
    clear e0 e1 e2 e3 e4 e5 e6 e7
    gi_wp2
    have hmx:Tryd.prog.follows .mixedOrders=true:=by kernel_rfl
    have hm0:(k+1)%len<len:=Nat.mod_lt _ (by omega)
    obtain ⟨m,hm⟩:∃ m,(k+1)%len=m:=⟨_,rfl⟩
    rw [hm] at hm0 hy
    have d0:=C4 hb2 (k:=off+m*8) (by omega)
    have d1:=C4 hb2 (k:=off+m*8+1) (by omega)
    have d2:=C4 hb2 (k:=off+m*8+2) (by omega)
    have d3:=C4 hb2 (k:=off+m*8+3) (by omega)
    have d4:=C4 hb2 (k:=off+m*8+4) (by omega)
    have d5:=C4 hb2 (k:=off+m*8+5) (by omega)
    have d6:=C4 hb2 (k:=off+m*8+6) (by omega)
    have d7:=C4 hb2 (k:=off+m*8+7) (by omega)
    have hmi:((k:Int)+1)%(len:Int)=(m:Int):=by rw [<- hm];push_cast;rfl
    gi_region_with (refine hR.mono ?_;rintro e W3 hor;obtain ⟨bb,rfl,hfin⟩:=two_ways hor)
    all_goals (
     rcases hfin.out with ⟨rfl,hJ3,hk3,hk4⟩ | ⟨rfl,hJx3⟩
     · gi_wp2
       go_roundw
       case rel=>exact ⟨k+1,by omega,by simp,by rw [List.range_succ];exact hJ3,by rw [hk3];exact (hkeep b hbl).trans hbr,by rw [hk4];exact (hkeep Bs hBl).trans hBr⟩
       case measure=>simp [intOf];omega
     · gi_wp2
       refine bodyPost_ret (results_none rfl _ _ _) rfl ?_
       exact ⟨⟨_,rfl⟩,.inr ⟨k+1,by omega,by rw [List.range_succ];exact hJx3⟩⟩)
  · obtain rfl:k=len:=by omega
    gi_wp2
    go_end0
    exact ⟨⟨_,rfl⟩,.inl ⟨_,rfl,hJs⟩⟩
set_option maxHeartbeats 2000000 in
theorem PSides0_in (n:Nat) (l Bs:Nat) (v:Value) (s:Option Addr) (c:Nat) (J:List Nat->World->Prop) (W:World) (hB:W.heap[Bs]?=some (.cells #[.slice s 0 c] 40 (0,0))) (h0:J [] W) :
 CallsIn Fence.wide n Tryd.prog 64 #[.func (.yield l) #[] #[],.pointer (some ⟨Bs,0,none⟩)] W fun e W'=>(∃ v,e = .returned v)/\J [] W':=by
 refine callsIn_of_wp Tryd.func64 rfl trivial ?_ rfl
 simp only [Tryd.ntmps64,List.size_toArray,List.length_cons,List.length_nil,Nat.reduceAdd,Nat.reduceSub,Array.replicate_succ,Array.replicate_zero,List.push_toArray,List.append_toArray,List.nil_append,List.cons_append]
 have hBc:W.cell? ⟨Bs,0,none⟩=some (.slice s 0 c):=by unfold World.cell?;rw [hB];rfl
 gi_wp2
 gi_loopw [7] (fun i wr=>i = .int .i64 0/\J [] wr) (fun _ _=>0)
 case atStart=>exact ⟨rfl,h0⟩
 case round=>
  obtain ⟨rfl,hJs⟩:=hrel
  gi_wp2
  go_end0
  exact ⟨⟨_,rfl⟩,hJs⟩
theorem PSides_in (n:Nat) (v:Value) (w:World) (hv:v.oneCell'=true) :
 CallsIn Fence.wide n Tryd.prog 33 #[v] w fun e w'=>e = .returned (.func (.func 64) #[] #[.pointer (some ⟨w.heap.size,0,none⟩)])/\w'=w.alloc (.cells #[v] 40):=by
 cases v<;>simp [Value.oneCell'] at hv<;>(
 refine callsIn_of_wp Tryd.func33 rfl trivial ?_ rfl
 simp only [Tryd.ntmps33,List.size_toArray,List.length_cons,List.length_nil,Nat.reduceAdd,Nat.reduceSub,Array.replicate_succ,Array.replicate_zero,List.push_toArray,List.append_toArray,List.nil_append,List.cons_append]
 gi_wp2
 go_ret
 exact ⟨rfl,rfl⟩)
theorem sP (n:Nat) (hn : 1<=n) (Bs:Nat) (w1 w:World) (hg1:w1.grownBy w none) (v:Value) (l:List Pq) (hB:w.heap[Bs]?=some (.cells #[v] 40 (0,0))) (hP:PtsV w1 v l) (hl:l.length<=1000000) :
 ∃ (b:Nat) (encs:Fin l.length->Array Value),b<w.heap.size/\(∀ x,(encs x).size=2)/\(∀ x,∃ p q,encs x = #[p,q]/\PtV w1 p (pt0 l x)/\PtV w1 q (nxt l x))/\(∀ x:Fin l.length,b<w1.heap.size)/\(∃ cs t,w.heap[b]?=some (.cells cs t (0,0))) /\
   SeqStopsK Fence.wide n Tryd.prog 64 #[.pointer (some ⟨Bs,0,none⟩)] encs (KpR b Bs) (fun xs=>xs.map Fin.val=List.range l.length) (fun pre=>∃ k,k<=l.length/\pre.map Fin.val=List.range k) l.length w:=by
 obtain ⟨s,m,c,rfl,hm,hc,h⟩:=hP
 have hBl:Bs<w.heap.size:=(Array.getElem?_eq_some_iff.1 hB).1
 by_cases hnil:l=[]
 · subst hnil
   have hm:m=0:=hm.symm
   subst hm
   refine ⟨Bs,fun _ => #[undef,undef],hBl,fun _=>rfl,fun x=>absurd x.2 (Nat.not_lt_zero x.1),fun x=>absurd x.2 (Nat.not_lt_zero x.1),⟨_,_,hB⟩,fun l' J Jx W hW hJ _ hY h0=>?_⟩
   exact (PSides0_in n l' Bs undef s c (fun _ W=>J [] W) W ((hW.block Bs hBl).trans hB) h0).mono fun e W' ⟨he,hj⟩=>⟨he,.inl ⟨[],rfl,hj⟩⟩
 · obtain ⟨b,off,cs,rfl,hb1,hA⟩:=h.resolve_left hnil
   have hb1l:b<w1.heap.size:=(Array.getElem?_eq_some_iff.1 hb1).1
   have hb:w.heap[b]?=some (.cells cs 33 (0,0)):=(hg1.block b hb1l (by simp)).trans hb1
   have hbl:b<w.heap.size:=(Array.getElem?_eq_some_iff.1 hb).1
   have hpos : 0<l.length:=List.length_pos_iff.2 hnil
   have hpv:∀ i,i<l.length->PtV w1 (pv cs (off+i*8)) (pt0 l i)/\Sh8 cs (off+i*8)/\off+i*8+7<cs.size:=fun i hi=>by
    have:=hA i hi
    rw [Nat.mul_comm 8 i] at this
    obtain ⟨a0,a1,a2,a3,a4,a5,a6,a7,g0,g1,g2,g3,g4,g5,g6,g7,hv⟩:=this
    have e:∀ {k:Nat} {a:Value},cs[k]?=some a->gc cs k=a:=fun h=>by unfold gc;rw [h];rfl
    have e2:pt0 l i=l[i]:=by unfold pt0;simp [hi]
    refine ⟨?_, ?_,(Array.getElem?_eq_some_iff.1 g7).1⟩
    · unfold pv;rw [e g0,e g1,e g2,e g3,e g4,e g5,e g6,e g7,e2];exact hv
    · unfold Sh8
      rw [e g0,e g1,e g2,e g3,e g4,e g5,e g6,e g7]
      have h1:=pt1 hv
      have h2:=pt2 hv
      obtain ⟨s,xs,x,s',xs',x',q1,_⟩:=h1
      obtain ⟨t,ys,y,t',ys',y',q2,_⟩:=h2
      cases q1;cases q2
      exact ⟨_,_,_,_,_,_,_,_,_,_,_,_,rfl,rfl,rfl,rfl,rfl,rfl,rfl,rfl⟩
   refine ⟨b,fun x => #[pv cs (off+x.1*8),pv cs (off+(x.1+1)%l.length*8)],hbl,fun _=>rfl,fun x=>⟨_,_,rfl,(hpv x.1 x.2).1,(hpv _ (Nat.mod_lt _ hpos)).1⟩,fun _=>hb1l,⟨_,_,hb⟩,fun l' J Jx W hW hJ _ hY h0=>?_⟩
   have hsz:off+8*l.length<=cs.size:=by
    have:=(hpv (l.length-1) (by omega)).2.2
    omega
   rw [<- hm] at hB
   refine (PSides1_in n hn l' Bs b off l.length c cs hsz hl (fun i hi=>(hpv i hi).2.1) (fun pre W=>∃ q:List (Fin l.length),q.map Fin.val=pre/\J q W) (fun pre W=>∃ q:List (Fin l.length),q.map Fin.val=pre/\Jx q W) W
    (fun s A B row hs hg hr=>by obtain ⟨q,h1,h2⟩:=hs;exact ⟨q,h1,hJ q A B row h2 hg hr⟩) (fun pre x W1 h1 hx h2=>?_) ((hW.block b hbl).trans hb) ((hW.block Bs hBl).trans hB) ⟨[],rfl,h0⟩).mono
    fun e W' ⟨he,h⟩=>⟨he,h.imp (fun ⟨ys,h,q,h1,hj⟩=>⟨q,h1.trans h,hj⟩) fun ⟨k,hk,q,h1,hj⟩=>⟨q,⟨k,hk,h1⟩,hj⟩⟩
   obtain ⟨q,rfl,hq⟩:=h1
   obtain ⟨fn,tmps,assign,body,hy,hR⟩:=hY q ⟨x,hx⟩ W1 hq (by simpa using h2)
   refine ⟨fn,tmps,assign,body,hy,hR.mono fun e W' h=>?_⟩
   rcases h with ⟨rfl,h3,h4⟩ | ⟨rfl,h3⟩
   · exact .inl ⟨rfl,⟨q++[⟨x,hx⟩],by simp,h3⟩,h4⟩
   · exact .inr ⟨rfl,⟨q++[⟨x,hx⟩],by simp,h3⟩⟩
end Go.Proofs.YtamdnbbgpacfkaaDoor
namespace Go.Proofs.YtamdnbbgpacfkaaDoor
open Go.RowKit Mat Ex PM
def One3 (a:Int):Prop:=a = -1\/a=0\/a=1
theorem pI {t:TypeId} {a b:Int} (ha:One3 a) (hb:One3 b):binOp .mul t (.int .i64 a) (.int .i64 b) = .pure (.int .i64 (a*b)):=by
 rcases ha with rfl | rfl | rfl<;>rcases hb with rfl | rfl | rfl<;>rfl
theorem K5 {P:Program} {ρ : Operand->Value} {o:Oper} {t t':TypeId} {x y:Operand} {a:Int} {W:World} (b:Bool) (ho:o.op = .binOp .lss t x y t') (hx : ρ x = .int .i64 a) (hy : ρ y = .int .i64 0) (h:decide (a<0)=b):(execOp ρ o).run P W = .ok (.value (.bool b)) W:=
 B7 ho hx hy (by rw [<- h];rfl)
theorem qO (w:World) (va vb:Value) (p q:Pq) (K:Nat) (Ha:PtV w va p) (Hb:PtV w vb q) (hK:K<=100000) (ba:Bp K p) (bb:Bp K q) (hTab:Tab w) :
 Calls Tryd.prog 79 #[va,vb] w (jA w (p.1+q.1,p.2+q.2)):=by
 refine A6 B3 Tryd.func79 [sPt p,sPt q] [sQ (p.1+q.1),sQ (p.2+q.2)] (.cons Ha (.cons Hb .nil)) (rs:=[cl 2 11 [ag 4 0,ag 4 1],cl 3 11 [.v true [.an 0 4,.an 0 5,.an 0 6,.an 0 7],.v true [.an 1 4,.an 1 5,.an 1 6,.an 1 7]]]) (out := .v true [.an 2 0,.an 2 1,.an 2 2,.an 2 3,.an 3 0,.an 3 1,.an 3 2,.an 3 3]) (nc:=4) (by kernel_rfl)
  ⟨fun σ W g h hb=>P6 W _ _ p.1 q.1 K (pt1 (h 0 rfl)) (pt1 (h 1 rfl)) (by omega) ba.1.1 ba.1.2 bb.1.1 bb.1.2 (hTab.kept g (by simp)),
  fun σ W g h hb=>P6 W _ _ p.2 q.2 K (pt2 (h 0 rfl)) (pt2 (h 1 rfl)) (by omega) ba.2.1 ba.2.2 bb.2.1 bb.2.2 (hTab.kept g (by simp)),
  trivial⟩ fun τ W g h=>⟨_,rfl,oE (h 2 rfl) (h 3 rfl),g⟩
theorem PTimes_any (w:World) (va vb:Value) (p:Pq) (t:Rat) (K:Nat) (Ha:PtV w va p) (Hb:RatV w vb t) (hK:K<=100000) (ba:Bp K p) (bb:Bn K t) (hTab:Tab w) :
 Calls Tryd.prog 80 #[va,vb] w (jA w (p.1*t,p.2*t)):=by
 refine A6 B3 Tryd.func80 [sPt p,sQ t] [sQ (p.1*t),sQ (p.2*t)] (.cons Ha (.cons Hb .nil)) (rs:=[cl 2 45 [ag 4 0,ag 4 1],cl 3 45 [.v true [.an 0 4,.an 0 5,.an 0 6,.an 0 7],ag 4 1]]) (out := .v true [.an 2 0,.an 2 1,.an 2 2,.an 2 3,.an 3 0,.an 3 1,.an 3 2,.an 3 3]) (nc:=4) (by kernel_rfl)
  ⟨fun σ W g h hb=>Z4 W _ _ p.1 t K (pt1 (h 0 rfl)) (h 1 rfl) (by omega) ba.1.1 ba.1.2 bb.1 bb.2 (hTab.kept g (by simp)),
  fun σ W g h hb=>Z4 W _ _ p.2 t K (pt2 (h 0 rfl)) (h 1 rfl) (by omega) ba.2.1 ba.2.2 bb.1 bb.2 (hTab.kept g (by simp)),
  trivial⟩ fun τ W g h=>⟨_,rfl,oE (h 2 rfl) (h 3 rfl),g⟩
theorem add_nil (p:Pq):((p.1+(0:Rat),p.2+(0:Rat)):Pq)=p:=Prod.ext (Rat.add_zero _) (Rat.add_zero _)
theorem eB (w:World) (va:Value) (p:Pq) (K:Nat) (Ha:PtV w va p) (hK : 1<=K/\K<=100000) (ba:Bp K p) (hTab:Tab w) :
 Calls Tryd.prog 78 #[va] w (jA w p):=by
 refine A6 B3 Tryd.func78 [sPt p] [sPt p] (.cons Ha .nil) (rs:=[cl 1 79 [ag 8 0,.v true [.lit (.slice none 0 0),.lit (.bool false),.lit (.slice none 0 0),.lit (.bool false),.lit (.slice none 0 0),.lit (.bool false),.lit (.slice none 0 0),.lit (.bool false)]]]) (out:=ag 8 1) (nc:=2) (by kernel_rfl)
  ⟨fun σ W g h hb=>add_nil p ▸ qO W _ _ p (0,0) K (h 0 rfl) (PtV.nil W) hK.2 ba (.nil hK.1) (hTab.kept g (by simp)),
  trivial⟩ fun τ W g h=>⟨_,rfl,h 1 rfl,g⟩
def T3 (s:ByteArray) (p:Pq):Prop:=∃ a b:ByteArray,Q9 a p.1/\Q9 b p.2/\s=a ++ { data := #[32] } ++ b
theorem dR {s:ByteArray} {r:Rat} {K:Nat} (h:Q9 s r) (hb:Bn K r):s.size<=40*K+10:=by
 rcases h with ⟨_,h⟩ | ⟨_,a,b,ha,hb',rfl⟩
 · have:=T5 h hb.1;omega
 · have h1:=T5 ha hb.1
   have h2:=T5 hb' (ldi hb.2)
   simp only [ByteArray.size_append]
   have:({ data := #[47] } : ByteArray).size=1:=rfl
   omega
def RetPText (w:World) (p:Pq) (e:Ending) (w':World):Prop:=∃ s,e = .returned (.string s)/\T3 s p/\w.grownBy w' none
theorem cZ (w:World) (va:Value) (p:Pq) (K:Nat) (Ha:PtV w va p) (hK : 1<=K/\K<=100000) (ba:Bp K p) :
 Calls Tryd.prog 24 #[va] w (RetPText w p):=by
 refine A6 B3 Tryd.func24 [sPt p] [sT (fun s=>Q9 s p.1),sT (fun s=>∃ a,Q9 a p.1/\s=a ++ { data := #[32] }),sT (fun s=>Q9 s p.2),sT (fun s=>T3 s p)] (.cons Ha .nil) (rs:=[cl 1 54 [ag 4 0],co 2 (.binOp .add 9 (.tmp 5) (.const (.string ({ data := #[32] }))) 9) 9 [on 1,.v false [.lit (.string ({ data := #[32] }))]] [0,1] [],cla 3 54 [.v true [.an 0 4,.an 0 5,.an 0 6,.an 0 7]] [0,1],co 4 (.binOp .add 9 (.tmp 6) (.tmp 9) 9) 9 [on 2,on 3] [0,1,2,3] []]) (out:=on 4) (nc:=5) (by kernel_rfl)
  ⟨fun σ W g h hb=>toT (qR W _ p.1 K (pt1 (h 0 rfl)) (by omega) ba.1.1 ba.1.2),
  fun σ W g h hb=>fun ρ o ho _ hv=>by
   obtain ⟨s,e,hs⟩:=h 1 rfl
   exact ⟨_,fO ho ((A1 hv).1.trans e) (A1 hv).2 (by have:=dR hs ba.1;show s.size+1<=_;omega),_,rfl,s,hs,rfl⟩,
  fun σ W g h hb=>toT (qR W _ p.2 K (pt2 (h 0 rfl)) (by omega) ba.2.1 ba.2.2),
  fun σ W g h hb=>fun ρ o ho _ hv=>by
   obtain ⟨s,e,a,ha,rfl⟩:=h 2 rfl
   obtain ⟨t,e2,ht⟩:=h 3 rfl
   exact ⟨_,fO ho ((A1 hv).1.trans e) ((A1 hv).2.trans e2) (by have h1:=dR ha ba.1;have h2:=dR ht ba.2;simp only [ByteArray.size_append];have:({ data := #[32] } : ByteArray).size=1:=rfl;omega),_,rfl,a,t,ha,ht,rfl⟩,
  trivial⟩ fun τ W g h=>by
   obtain ⟨s,e,hs⟩:=h 4 rfl
   exact ⟨s,congrArg Ending.returned e,hs,g⟩
theorem pmax_t {a b:Pq} (h:ple b a):I7 a b=a:=by unfold I7;rw [if_pos h]
theorem pmax_f {a b:Pq} (h:¬ ple b a):I7 a b=b:=by unfold I7;rw [if_neg h]
theorem pmin_t {a b:Pq} (h:ple a b):I6 a b=a:=by unfold I6;rw [if_pos h]
theorem pmin_f {a b:Pq} (h:¬ ple a b):I6 a b=b:=by unfold I6;rw [if_neg h]
theorem pback {a b:Pq} : H6 b a<0 ↔ ¬ ple a b:=by rw [pgt,oZ a b];omega
theorem M5 (w:World) (va vb:Value) (a b c d:Pq) (K:Nat) (Ha:SgV w va a b) (Hb:SgV w vb c d) (hK : 1<=K/\K<=10000) (ba:Bp K a) (bb:Bp K b) (bc:Bp K c) (bd:Bp K d) :
 Calls Tryd.prog 47 #[va,vb] w (RetPP w (I7 (lo a b) (lo c d)) (I6 (hi a b) (hi c d))):=by
 rcases Classical.em (ple (lo c d) (lo a b)) with h1 | h1<;>rcases Classical.em (ple (hi a b) (hi c d)) with h2 | h2
 · skip
   rw [pmax_t h1,pmin_t h2]
   refine A6 B3 Tryd.func47 [sSg a b,sSg c d] [sPP (lo a b) (hi a b),sPP (lo c d) (hi c d),sZ (H6 (lo c d) (lo a b)),sV (.bool false),sZ (H6 (hi c d) (hi a b)),sV (.bool false)] (.cons Ha (.cons Hb .nil)) (rs:=[cl 2 69 [ag 16 0],cl 3 69 [ag 16 1],cl 4 48 [ag 8 3,ag 8 2],co 5 (.binOp .gtr 3 (.tmp 20) (.const (.int .i64 0)) 3) 4 [on 4,.v false [.lit (.int .i64 0)]] [0,1,2,3,4] [],cl 6 48 [.v true [.an 3 8,.an 3 9,.an 3 10,.an 3 11,.an 3 12,.an 3 13,.an 3 14,.an 3 15],.v true [.an 2 8,.an 2 9,.an 2 10,.an 2 11,.an 2 12,.an 2 13,.an 2 14,.an 2 15]],co 7 (.binOp .lss 3 (.tmp 25) (.const (.int .i64 0)) 3) 4 [on 6,.v false [.lit (.int .i64 0)]] [0,1,2,3,4,5,6] []]) (out := .tup [(true,[.an 2 0,.an 2 1,.an 2 2,.an 2 3,.an 2 4,.an 2 5,.an 2 6,.an 2 7]),(true,[.an 2 8,.an 2 9,.an 2 10,.an 2 11,.an 2 12,.an 2 13,.an 2 14,.an 2 15])]) (nc:=8) (by kernel_rfl)
    ⟨fun σ W g h hb=>aQ (J0 W _ a b K (h 0 rfl) hK ba bb),
    fun σ W g h hb=>aQ (J0 W _ c d K (h 1 rfl) hK bc bd),
    fun σ W g h hb=>toZ (D6 W _ _ (lo c d) (lo a b) K (pp1 (h 3 rfl)) (pp1 (h 2 rfl)) (by omega) (bc.lo bd) (ba.lo bb)) rfl,
    fun σ W g h hb=>fun ρ o ho _ hv=>⟨_,E9 false ho ((A1 hv).1.trans (h 4 rfl)) (A1 hv).2 (decide_eq_false (by have:=pcmp_le.2 h1;omega)),rfl⟩,
    fun σ W g h hb=>toZ (D6 W _ _ (hi c d) (hi a b) K (pp2 (h 3 rfl)) (pp2 (h 2 rfl)) (by omega) (bc.hi bd) (ba.hi bb)) rfl,
    fun σ W g h hb=>fun ρ o ho _ hv=>⟨_,K5 false ho ((A1 hv).1.trans (h 6 rfl)) (A1 hv).2 (decide_eq_false (by exact fun q=>pback.1 q h2)),rfl⟩,
    trivial⟩ fun τ W g h=>⟨_,_,rfl,pp1 (h 2 rfl),pp2 (h 2 rfl),g⟩
 · skip
   rw [pmax_t h1,pmin_f h2]
   refine A6 B3 Tryd.func47 [sSg a b,sSg c d] [sPP (lo a b) (hi a b),sPP (lo c d) (hi c d),sZ (H6 (lo c d) (lo a b)),sV (.bool false),sZ (H6 (hi c d) (hi a b)),sV (.bool true)] (.cons Ha (.cons Hb .nil)) (rs:=[cl 2 69 [ag 16 0],cl 3 69 [ag 16 1],cl 4 48 [ag 8 3,ag 8 2],co 5 (.binOp .gtr 3 (.tmp 20) (.const (.int .i64 0)) 3) 4 [on 4,.v false [.lit (.int .i64 0)]] [0,1,2,3,4] [],cl 6 48 [.v true [.an 3 8,.an 3 9,.an 3 10,.an 3 11,.an 3 12,.an 3 13,.an 3 14,.an 3 15],.v true [.an 2 8,.an 2 9,.an 2 10,.an 2 11,.an 2 12,.an 2 13,.an 2 14,.an 2 15]],co 7 (.binOp .lss 3 (.tmp 25) (.const (.int .i64 0)) 3) 4 [on 6,.v false [.lit (.int .i64 0)]] [0,1,2,3,4,5,6] []]) (out := .tup [(true,[.an 2 0,.an 2 1,.an 2 2,.an 2 3,.an 2 4,.an 2 5,.an 2 6,.an 2 7]),(true,[.an 3 8,.an 3 9,.an 3 10,.an 3 11,.an 3 12,.an 3 13,.an 3 14,.an 3 15])]) (nc:=8) (by kernel_rfl)
    ⟨fun σ W g h hb=>aQ (J0 W _ a b K (h 0 rfl) hK ba bb),
    fun σ W g h hb=>aQ (J0 W _ c d K (h 1 rfl) hK bc bd),
    fun σ W g h hb=>toZ (D6 W _ _ (lo c d) (lo a b) K (pp1 (h 3 rfl)) (pp1 (h 2 rfl)) (by omega) (bc.lo bd) (ba.lo bb)) rfl,
    fun σ W g h hb=>fun ρ o ho _ hv=>⟨_,E9 false ho ((A1 hv).1.trans (h 4 rfl)) (A1 hv).2 (decide_eq_false (by have:=pcmp_le.2 h1;omega)),rfl⟩,
    fun σ W g h hb=>toZ (D6 W _ _ (hi c d) (hi a b) K (pp2 (h 3 rfl)) (pp2 (h 2 rfl)) (by omega) (bc.hi bd) (ba.hi bb)) rfl,
    fun σ W g h hb=>fun ρ o ho _ hv=>⟨_,K5 true ho ((A1 hv).1.trans (h 6 rfl)) (A1 hv).2 (decide_eq_true (by exact pback.2 h2)),rfl⟩,
    trivial⟩ fun τ W g h=>⟨_,_,rfl,pp1 (h 2 rfl),pp2 (h 3 rfl),g⟩
 · skip
   rw [pmax_f h1,pmin_t h2]
   refine A6 B3 Tryd.func47 [sSg a b,sSg c d] [sPP (lo a b) (hi a b),sPP (lo c d) (hi c d),sZ (H6 (lo c d) (lo a b)),sV (.bool true),sZ (H6 (hi c d) (hi a b)),sV (.bool false)] (.cons Ha (.cons Hb .nil)) (rs:=[cl 2 69 [ag 16 0],cl 3 69 [ag 16 1],cl 4 48 [ag 8 3,ag 8 2],co 5 (.binOp .gtr 3 (.tmp 20) (.const (.int .i64 0)) 3) 4 [on 4,.v false [.lit (.int .i64 0)]] [0,1,2,3,4] [],cl 6 48 [.v true [.an 3 8,.an 3 9,.an 3 10,.an 3 11,.an 3 12,.an 3 13,.an 3 14,.an 3 15],.v true [.an 2 8,.an 2 9,.an 2 10,.an 2 11,.an 2 12,.an 2 13,.an 2 14,.an 2 15]],co 7 (.binOp .lss 3 (.tmp 25) (.const (.int .i64 0)) 3) 4 [on 6,.v false [.lit (.int .i64 0)]] [0,1,2,3,4,5,6] []]) (out := .tup [(true,[.an 3 0,.an 3 1,.an 3 2,.an 3 3,.an 3 4,.an 3 5,.an 3 6,.an 3 7]),(true,[.an 2 8,.an 2 9,.an 2 10,.an 2 11,.an 2 12,.an 2 13,.an 2 14,.an 2 15])]) (nc:=8) (by kernel_rfl)
    ⟨fun σ W g h hb=>aQ (J0 W _ a b K (h 0 rfl) hK ba bb),
    fun σ W g h hb=>aQ (J0 W _ c d K (h 1 rfl) hK bc bd),
    fun σ W g h hb=>toZ (D6 W _ _ (lo c d) (lo a b) K (pp1 (h 3 rfl)) (pp1 (h 2 rfl)) (by omega) (bc.lo bd) (ba.lo bb)) rfl,
    fun σ W g h hb=>fun ρ o ho _ hv=>⟨_,E9 true ho ((A1 hv).1.trans (h 4 rfl)) (A1 hv).2 (decide_eq_true (by exact pgt.1 h1)),rfl⟩,
    fun σ W g h hb=>toZ (D6 W _ _ (hi c d) (hi a b) K (pp2 (h 3 rfl)) (pp2 (h 2 rfl)) (by omega) (bc.hi bd) (ba.hi bb)) rfl,
    fun σ W g h hb=>fun ρ o ho _ hv=>⟨_,K5 false ho ((A1 hv).1.trans (h 6 rfl)) (A1 hv).2 (decide_eq_false (by exact fun q=>pback.1 q h2)),rfl⟩,
    trivial⟩ fun τ W g h=>⟨_,_,rfl,pp1 (h 3 rfl),pp2 (h 2 rfl),g⟩
 · skip
   rw [pmax_f h1,pmin_f h2]
   refine A6 B3 Tryd.func47 [sSg a b,sSg c d] [sPP (lo a b) (hi a b),sPP (lo c d) (hi c d),sZ (H6 (lo c d) (lo a b)),sV (.bool true),sZ (H6 (hi c d) (hi a b)),sV (.bool true)] (.cons Ha (.cons Hb .nil)) (rs:=[cl 2 69 [ag 16 0],cl 3 69 [ag 16 1],cl 4 48 [ag 8 3,ag 8 2],co 5 (.binOp .gtr 3 (.tmp 20) (.const (.int .i64 0)) 3) 4 [on 4,.v false [.lit (.int .i64 0)]] [0,1,2,3,4] [],cl 6 48 [.v true [.an 3 8,.an 3 9,.an 3 10,.an 3 11,.an 3 12,.an 3 13,.an 3 14,.an 3 15],.v true [.an 2 8,.an 2 9,.an 2 10,.an 2 11,.an 2 12,.an 2 13,.an 2 14,.an 2 15]],co 7 (.binOp .lss 3 (.tmp 25) (.const (.int .i64 0)) 3) 4 [on 6,.v false [.lit (.int .i64 0)]] [0,1,2,3,4,5,6] []]) (out := .tup [(true,[.an 3 0,.an 3 1,.an 3 2,.an 3 3,.an 3 4,.an 3 5,.an 3 6,.an 3 7]),(true,[.an 3 8,.an 3 9,.an 3 10,.an 3 11,.an 3 12,.an 3 13,.an 3 14,.an 3 15])]) (nc:=8) (by kernel_rfl)
    ⟨fun σ W g h hb=>aQ (J0 W _ a b K (h 0 rfl) hK ba bb),
    fun σ W g h hb=>aQ (J0 W _ c d K (h 1 rfl) hK bc bd),
    fun σ W g h hb=>toZ (D6 W _ _ (lo c d) (lo a b) K (pp1 (h 3 rfl)) (pp1 (h 2 rfl)) (by omega) (bc.lo bd) (ba.lo bb)) rfl,
    fun σ W g h hb=>fun ρ o ho _ hv=>⟨_,E9 true ho ((A1 hv).1.trans (h 4 rfl)) (A1 hv).2 (decide_eq_true (by exact pgt.1 h1)),rfl⟩,
    fun σ W g h hb=>toZ (D6 W _ _ (hi c d) (hi a b) K (pp2 (h 3 rfl)) (pp2 (h 2 rfl)) (by omega) (bc.hi bd) (ba.hi bb)) rfl,
    fun σ W g h hb=>fun ρ o ho _ hv=>⟨_,K5 true ho ((A1 hv).1.trans (h 6 rfl)) (A1 hv).2 (decide_eq_true (by exact pback.2 h2)),rfl⟩,
    trivial⟩ fun τ W g h=>⟨_,_,rfl,pp1 (h 3 rfl),pp2 (h 3 rfl),g⟩
theorem G3 (w:World) (va vb:Value) (a b c d:Pq) (K:Nat) (Ha:SgV w va a b) (Hb:SgV w vb c d) (hK : 1<=K/\K<=10000) (ba:Bp K a) (bb:Bp K b) (bc:Bp K c) (bd:Bp K d) (hTab:Tab w) :
 Calls Tryd.prog 50 #[va,vb] w (RetQQ w (A3 a b c) (A3 a b d)):=by
 refine A6 B3 Tryd.func50 [sSg a b,sSg c d] [sQ (A3 a b c),sQ (A3 a b d)] (.cons Ha (.cons Hb .nil)) (rs:=[cl 2 7 [ag 8 0,.v true [.an 0 8,.an 0 9,.an 0 10,.an 0 11,.an 0 12,.an 0 13,.an 0 14,.an 0 15],ag 8 1],cl 3 7 [ag 8 0,.v true [.an 0 8,.an 0 9,.an 0 10,.an 0 11,.an 0 12,.an 0 13,.an 0 14,.an 0 15],.v true [.an 1 8,.an 1 9,.an 1 10,.an 1 11,.an 1 12,.an 1 13,.an 1 14,.an 1 15]]]) (out := .tup [(true,[.an 2 0,.an 2 1,.an 2 2,.an 2 3]),(true,[.an 3 0,.an 3 1,.an 3 2,.an 3 3])]) (nc:=4) (by kernel_rfl)
  ⟨fun σ W g h hb=>F2 W _ _ _ a b c K (sg1 (h 0 rfl)) (sg2 (h 0 rfl)) (sg1 (h 1 rfl)) hK.2 ba bb bc (hTab.kept g (by simp)),
  fun σ W g h hb=>F2 W _ _ _ a b d K (sg1 (h 0 rfl)) (sg2 (h 0 rfl)) (sg2 (h 1 rfl)) hK.2 ba bb bd (hTab.kept g (by simp)),
  trivial⟩ fun τ W g h=>⟨_,_,rfl,h 2 rfl,h 3 rfl,g⟩
theorem H9 (w:World) (va vb:Value) (u v:Rat) (K:Nat) (Ha:RatV w va u) (Hb:RatV w vb v) (hK:K<=200000) (bu:Bn K u) (bv:Bn K v) :
 Calls Tryd.prog 49 #[va,vb] w (RetB w (dec (P4 u v))):=by
 by_cases h1:P4 u v
 · skip
   rw [mN h1]
   refine A6 B3 Tryd.func49 [sQ u,sQ v] [sZ (rsg u),sZ (rsg v),sZ (rsg u*rsg v),sV (.bool true)] (.cons Ha (.cons Hb .nil)) (rs:=[cl 2 51 [ag 4 0],cl 3 51 [ag 4 1],co 4 (.binOp .mul 3 (.tmp 6) (.tmp 8) 3) 3 [on 2,on 3] [0,1,2,3] [],co 5 (.binOp .gtr 3 (.tmp 9) (.const (.int .i64 0)) 3) 4 [on 4,.v false [.lit (.int .i64 0)]] [0,1,2,3,4] []]) (out := .v false [.lit (.bool true)]) (nc:=6) (by kernel_rfl)
    ⟨fun σ W g h hb=>toZ (D5 W _ _ K (h 0 rfl) (by omega) bu.1) rfl,
    fun σ W g h hb=>toZ (D5 W _ _ K (h 1 rfl) (by omega) bv.1) rfl,
    fun σ W g h hb=>fun ρ o ho _ hv=>⟨_,B7 ho ((A1 hv).1.trans (h 2 rfl)) ((A1 hv).2.trans (h 3 rfl)) (pI (dS u) (dS v)),rfl⟩,
    fun σ W g h hb=>fun ρ o ho _ hv=>⟨_,E9 true ho ((A1 hv).1.trans (h 4 rfl)) (A1 hv).2 (decide_eq_true (aside_iff.2 h1)),rfl⟩,
    trivial⟩ fun τ W g h=>⟨rfl,g⟩
 · skip
   rw [V9 h1]
   refine A6 B3 Tryd.func49 [sQ u,sQ v] [sZ (rsg u),sZ (rsg v),sZ (rsg u*rsg v),sV (.bool false)] (.cons Ha (.cons Hb .nil)) (rs:=[cl 2 51 [ag 4 0],cl 3 51 [ag 4 1],co 4 (.binOp .mul 3 (.tmp 6) (.tmp 8) 3) 3 [on 2,on 3] [0,1,2,3] [],co 5 (.binOp .gtr 3 (.tmp 9) (.const (.int .i64 0)) 3) 4 [on 4,.v false [.lit (.int .i64 0)]] [0,1,2,3,4] []]) (out := .v false [.lit (.bool false)]) (nc:=6) (by kernel_rfl)
    ⟨fun σ W g h hb=>toZ (D5 W _ _ K (h 0 rfl) (by omega) bu.1) rfl,
    fun σ W g h hb=>toZ (D5 W _ _ K (h 1 rfl) (by omega) bv.1) rfl,
    fun σ W g h hb=>fun ρ o ho _ hv=>⟨_,B7 ho ((A1 hv).1.trans (h 2 rfl)) ((A1 hv).2.trans (h 3 rfl)) (pI (dS u) (dS v)),rfl⟩,
    fun σ W g h hb=>fun ρ o ho _ hv=>⟨_,E9 false ho ((A1 hv).1.trans (h 4 rfl)) (A1 hv).2 (decide_eq_false (fun q=>h1 (aside_iff.1 q))),rfl⟩,
    trivial⟩ fun τ W g h=>⟨rfl,g⟩
theorem fS (w:World) (va vb vc:Value) (a b:Pq) (u v:Rat) (K M:Nat) (Ha:SgV w va a b) (Hb:RatV w vb u) (Hc:RatV w vc v) (hK : 1<=K/\K<=1000/\2*K+1<=M/\M<=10000) (ba:Bp K a) (bb:Bp K b) (bu:Bn M u) (bv:Bn M v) (hne:u≠v) (hTab:Tab w) :
 Calls Tryd.prog 53 #[va,vb,vc] w (jA w (pat a b (u / (u-v)))):=by
 have h0:u-v≠0:=fun e=>hne (by grind)
 have b1:Bn (2*M+1) (u-v):=(bu.sub bv).mono (by omega)
 have b2:Bn (4*M+2) (u / (u-v)):=((bu.mono (by omega)).div b1 (by omega)).mono (by omega)
 have b3:Bp (4*M+2) (b.1-a.1,b.2-a.2):=(bb.sub ba).mono (by omega)
 have b4:Bp (8*M+4) ((b.1-a.1)*(u / (u-v)),(b.2-a.2)*(u / (u-v))):=⟨(b3.1.mul b2).mono (by omega),(b3.2.mul b2).mono (by omega)⟩
 refine A6 B3 Tryd.func53 [sSg a b,sQ u,sQ v] [sQ (u-v),sQE (u / (u-v)) 0,sPt (b.1-a.1,b.2-a.2),sPt ((b.1-a.1)*(u / (u-v)),(b.2-a.2)*(u / (u-v))),sPt (pat a b (u / (u-v)))] (.cons Ha (.cons Hb (.cons Hc .nil))) (rs:=[cl 3 46 [ag 4 1,ag 4 2],cl 4 34 [ag 4 1,ag 4 3],cl 5 19 [.v true [.an 0 8,.an 0 9,.an 0 10,.an 0 11,.an 0 12,.an 0 13,.an 0 14,.an 0 15],ag 8 0],cl 6 80 [ag 8 5,ag 4 4],cl 7 79 [ag 8 0,ag 8 6]]) (out:=ag 8 7) (nc:=8) (by kernel_rfl)
  ⟨fun σ W g h hb=>fU W _ _ u v M (h 1 rfl) (h 2 rfl) (by omega) bu.1 bu.2 bv.1 bv.2 (hTab.kept g (by simp)),
  fun σ W g h hb=>toQE (FDiv_any W _ _ u (u-v) (2*M+1) (h 1 rfl) (h 3 rfl) (by omega) (bu.mono (by omega)).1 (bu.mono (by omega)).2 b1.1 b1.2 (hTab.kept g (by simp))) (by rw [if_neg h0]),
  fun σ W g h hb=>eA W _ _ b a K (sg2 (h 0 rfl)) (sg1 (h 0 rfl)) (by omega) bb ba (hTab.kept g (by simp)),
  fun σ W g h hb=>PTimes_any W _ _ _ _ (4*M+2) (h 5 rfl) (qE (h 4 rfl)) (by omega) b3 b2 (hTab.kept g (by simp)),
  fun σ W g h hb=>qO W _ _ a _ (8*M+4) (sg1 (h 0 rfl)) (h 6 rfl) (by omega) (ba.mono (by omega)) b4 (hTab.kept g (by simp)),
  trivial⟩ fun τ W g h=>⟨_,rfl,h 7 rfl,g⟩
theorem pts_one {w:World} {b:Nat} {a0 a1 a2 a3 a4 a5 a6 a7:Value} {p:Pq} (hb:w.heap[b]?=some (.cells #[a0,a1,a2,a3,a4,a5,a6,a7] 33 (0,0))) (hp:PtV w (.agg #[a0,a1,a2,a3,a4,a5,a6,a7]) p):PtsV w (.slice (some ⟨b,0,none⟩) 1 1) [p]:=by
 refine ⟨_,_,_,rfl,rfl,Nat.le_refl _,.inr ⟨b,0,_,rfl,hb,fun i hi=>?_⟩⟩
 obtain rfl:i=0:=by simpa using hi
 exact ⟨_,_,_,_,_,_,_,_,rfl,rfl,rfl,rfl,rfl,rfl,rfl,rfl,hp⟩
theorem pts_two {w:World} {b:Nat} {a0 a1 a2 a3 a4 a5 a6 a7 c0 c1 c2 c3 c4 c5 c6 c7:Value} {p q:Pq} (hb:w.heap[b]?=some (.cells #[a0,a1,a2,a3,a4,a5,a6,a7,c0,c1,c2,c3,c4,c5,c6,c7] 33 (0,0))) (hp:PtV w (.agg #[a0,a1,a2,a3,a4,a5,a6,a7]) p) (hq:PtV w (.agg #[c0,c1,c2,c3,c4,c5,c6,c7]) q):PtsV w (.slice (some ⟨b,0,none⟩) 2 2) [p,q]:=by
 refine ⟨_,_,_,rfl,rfl,Nat.le_refl _,.inr ⟨b,0,_,rfl,hb,fun i hi=>?_⟩⟩
 match i,hi with
 | 0,_=>exact ⟨_,_,_,_,_,_,_,_,rfl,rfl,rfl,rfl,rfl,rfl,rfl,rfl,hp⟩
 | 1,_=>exact ⟨_,_,_,_,_,_,_,_,rfl,rfl,rfl,rfl,rfl,rfl,rfl,rfl,hq⟩
 | n+2,hi=>exact absurd hi (by simp)
theorem jL (w:World):PtsV w (.slice none 0 0) []:=⟨none,0,0,rfl,rfl,Nat.le_refl _,.inl rfl⟩
theorem fp_new {w:World} {b n c:Nat} (hb:w.heap.size<=b) (q:Nat) (hq:fpS (.slice (some ⟨b,0,none⟩) n c) q):w.heap.size<=q:=by obtain ⟨o,m,c,e⟩:=hq;cases e;exact hb
theorem rS {w:World} (q:Nat) (hq:fpS (.slice none 0 0) q):w.heap.size<=q:=by obtain ⟨o,m,c,e⟩:=hq;cases e
theorem btw_f {p q:Pq} (h:p≠q):btw p q=[p,q]:=by unfold btw;rw [if_neg h]
theorem M6 (w:World) (va vb:Value) (p q:Pq) (K:Nat) (Ha:PtV w va p) (Hb:PtV w vb q) (hK : 1<=K/\K<=100000) (ba:Bp K p) (bb:Bp K q) (hTab:Tab w) :
 Calls Tryd.prog 52 #[va,vb] w (iE w (btw p q)):=by
 by_cases h1:p=q
 · skip
   rw [<- h1,btw_self]
   refine V7 B3 Tryd.func52 [sPt p,sPt q] [sZ (H6 p q),sV (.bool true),sPt p] (.cons Ha (.cons Hb .nil)) (rs:=[cl 2 48 [ag 8 0,ag 8 1],co 3 (.binOp .eql 3 (.tmp 7) (.const (.int .i64 0)) 3) 4 [on 2,.v false [.lit (.int .i64 0)]] [0,1,2] [],cl 4 78 [ag 8 0]]) (out := .v false [.row 2 0 1 1]) (nc:=5) (nd:=[(2,33,[.an 4 0,.an 4 1,.an 4 2,.an 4 3,.an 4 4,.an 4 5,.an 4 6,.an 4 7])]) (own:=[2]) (by kernel_rfl)
    ⟨fun σ W g h hb=>toZ (D6 W _ _ p q K (h 0 rfl) (h 1 rfl) (by omega) ba bb) rfl,
    fun σ W g h hb=>fun ρ o ho _ hv=>⟨_,C8 true ho ((A1 hv).1.trans (h 2 rfl)) (A1 hv).2 (decide_eq_true (pcmp_zero.2 h1)),rfl⟩,
    fun σ W g h hb=>eB W _ p K (h 0 rfl) hK ba (hTab.kept g (by simp)),
    trivial⟩ fun τ W g h hb ho=>⟨_,rfl,pts_one (hb.1 _ (.head _)) (h 4 rfl),g,fp_new (ho _ rfl)⟩
 · skip
   rw [btw_f h1]
   refine V7 B3 Tryd.func52 [sPt p,sPt q] [sZ (H6 p q),sV (.bool false),sPt p,sPt q] (.cons Ha (.cons Hb .nil)) (rs:=[cl 2 48 [ag 8 0,ag 8 1],co 3 (.binOp .eql 3 (.tmp 7) (.const (.int .i64 0)) 3) 4 [on 2,.v false [.lit (.int .i64 0)]] [0,1,2] [],cl 4 78 [ag 8 0],cl 5 78 [ag 8 1]]) (out := .v false [.row 2 0 2 2]) (nc:=6) (nd:=[(2,33,[.an 4 0,.an 4 1,.an 4 2,.an 4 3,.an 4 4,.an 4 5,.an 4 6,.an 4 7,.an 5 0,.an 5 1,.an 5 2,.an 5 3,.an 5 4,.an 5 5,.an 5 6,.an 5 7])]) (own:=[2]) (by kernel_rfl)
    ⟨fun σ W g h hb=>toZ (D6 W _ _ p q K (h 0 rfl) (h 1 rfl) (by omega) ba bb) rfl,
    fun σ W g h hb=>fun ρ o ho _ hv=>⟨_,C8 false ho ((A1 hv).1.trans (h 2 rfl)) (A1 hv).2 (decide_eq_false (fun e=>h1 (pcmp_zero.1 e))),rfl⟩,
    fun σ W g h hb=>eB W _ p K (h 0 rfl) hK ba (hTab.kept g (by simp)),
    fun σ W g h hb=>eB W _ q K (h 1 rfl) hK bb (hTab.kept g (by simp)),
    trivial⟩ fun τ W g h hb ho=>⟨_,rfl,pts_two (hb.1 _ (.head _)) (h 4 rfl) (h 5 rfl),g,fp_new (ho _ rfl)⟩
theorem qP (w:World) (va vb:Value) (a b c d:Pq) (K:Nat) (Ha:SgV w va a b) (Hb:SgV w vb c d) (hK : 1<=K/\K<=50) (ba:Bp K a) (bb:Bp K b) (bc:Bp K c) (bd:Bp K d) (hTab:Tab w) :
 Calls Tryd.prog 22 #[va,vb] w (iE w (aM a b c d)):=by
 rcases (show ¬ ple (I7 (lo a b) (lo c d)) (I6 (hi a b) (hi c d))\/(ple (I7 (lo a b) (lo c d)) (I6 (hi a b) (hi c d))/\P4 (A3 a b c) (A3 a b d))\/(ple (I7 (lo a b) (lo c d)) (I6 (hi a b) (hi c d)) /\ ¬ P4 (A3 a b c) (A3 a b d)/\P4 (A3 c d a) (A3 c d b))\/(ple (I7 (lo a b) (lo c d)) (I6 (hi a b) (hi c d)) /\ ¬ P4 (A3 a b c) (A3 a b d) /\ ¬ P4 (A3 c d a) (A3 c d b)/\A3 c d a=0/\A3 c d b=0)\/(ple (I7 (lo a b) (lo c d)) (I6 (hi a b) (hi c d)) /\ ¬ P4 (A3 a b c) (A3 a b d) /\ ¬ P4 (A3 c d a) (A3 c d b)/\A3 c d a=0/\A3 c d b≠0)\/(ple (I7 (lo a b) (lo c d)) (I6 (hi a b) (hi c d)) /\ ¬ P4 (A3 a b c) (A3 a b d) /\ ¬ P4 (A3 c d a) (A3 c d b)/\A3 c d a≠0) by grind) with h1 | ⟨h1,h2⟩ | ⟨h1,h2,h3⟩ | ⟨h1,h2,h3,h4,h5⟩ | ⟨h1,h2,h3,h4,h5⟩ | ⟨h1,h2,h3,h4⟩
 · skip
   unfold aM
   rw [if_neg h1]
   refine A6 B3 Tryd.func22 [sSg a b,sSg c d] [sPP (I7 (lo a b) (lo c d)) (I6 (hi a b) (hi c d)),sZ (H6 (I7 (lo a b) (lo c d)) (I6 (hi a b) (hi c d))),sV (.bool true)] (.cons Ha (.cons Hb .nil)) (rs:=[cl 2 47 [ag 16 0,ag 16 1],cl 3 48 [ag 8 2,.v true [.an 2 8,.an 2 9,.an 2 10,.an 2 11,.an 2 12,.an 2 13,.an 2 14,.an 2 15]],co 4 (.binOp .gtr 3 (.tmp 18) (.const (.int .i64 0)) 3) 4 [on 3,.v false [.lit (.int .i64 0)]] [0,1,2,3] []]) (out := .v false [.lit (.slice none 0 0)]) (nc:=5) (by kernel_rfl)
    ⟨fun σ W g h hb=>aQ (M5 W _ _ a b c d K (h 0 rfl) (h 1 rfl) (by omega) ba bb bc bd),
    fun σ W g h hb=>toZ (D6 W _ _ (I7 (lo a b) (lo c d)) (I6 (hi a b) (hi c d)) K (pp1 (h 2 rfl)) (pp2 (h 2 rfl)) (by omega) ((ba.lo bb).max (bc.lo bd)) ((ba.hi bb).min (bc.hi bd))) rfl,
    fun σ W g h hb=>fun ρ o ho _ hv=>⟨_,E9 true ho ((A1 hv).1.trans (h 3 rfl)) (A1 hv).2 (decide_eq_true (pgt.1 h1)),rfl⟩,
    trivial⟩ fun τ W g h=>⟨_,rfl,jL W,g,rS⟩
 · skip
   unfold aM
   rw [if_pos h1,if_pos h2]
   refine A6 B3 Tryd.func22 [sSg a b,sSg c d] [sPP (I7 (lo a b) (lo c d)) (I6 (hi a b) (hi c d)),sZ (H6 (I7 (lo a b) (lo c d)) (I6 (hi a b) (hi c d))),sV (.bool false),sQQ (A3 a b c) (A3 a b d),sV (.bool true)] (.cons Ha (.cons Hb .nil)) (rs:=[cl 2 47 [ag 16 0,ag 16 1],cl 3 48 [ag 8 2,.v true [.an 2 8,.an 2 9,.an 2 10,.an 2 11,.an 2 12,.an 2 13,.an 2 14,.an 2 15]],co 4 (.binOp .gtr 3 (.tmp 18) (.const (.int .i64 0)) 3) 4 [on 3,.v false [.lit (.int .i64 0)]] [0,1,2,3] [],cl 5 50 [ag 16 0,ag 16 1],cl 6 49 [ag 4 5,.v true [.an 5 4,.an 5 5,.an 5 6,.an 5 7]]]) (out := .v false [.lit (.slice none 0 0)]) (nc:=7) (by kernel_rfl)
    ⟨fun σ W g h hb=>aQ (M5 W _ _ a b c d K (h 0 rfl) (h 1 rfl) (by omega) ba bb bc bd),
    fun σ W g h hb=>toZ (D6 W _ _ (I7 (lo a b) (lo c d)) (I6 (hi a b) (hi c d)) K (pp1 (h 2 rfl)) (pp2 (h 2 rfl)) (by omega) ((ba.lo bb).max (bc.lo bd)) ((ba.hi bb).min (bc.hi bd))) rfl,
    fun σ W g h hb=>fun ρ o ho _ hv=>⟨_,E9 false ho ((A1 hv).1.trans (h 3 rfl)) (A1 hv).2 (decide_eq_false (by have:=pcmp_le.2 h1;omega)),rfl⟩,
    fun σ W g h hb=>fZ (G3 W _ _ a b c d K (h 0 rfl) (h 1 rfl) (by omega) ba bb bc bd (hTab.kept g (by simp))),
    fun σ W g h hb=>toV (H9 W _ _ (A3 a b c) (A3 a b d) (8*K+5) (qq1 (h 5 rfl)) (qq2 (h 5 rfl)) (by omega) (ba.cross bb bc) (ba.cross bb bd)) (by rw [mN h2]),
    trivial⟩ fun τ W g h=>⟨_,rfl,jL W,g,rS⟩
 · skip
   unfold aM
   rw [if_pos h1,if_neg h2,if_pos h3]
   refine A6 B3 Tryd.func22 [sSg a b,sSg c d] [sPP (I7 (lo a b) (lo c d)) (I6 (hi a b) (hi c d)),sZ (H6 (I7 (lo a b) (lo c d)) (I6 (hi a b) (hi c d))),sV (.bool false),sQQ (A3 a b c) (A3 a b d),sV (.bool false),sQQ (A3 c d a) (A3 c d b),sV (.bool true)] (.cons Ha (.cons Hb .nil)) (rs:=[cl 2 47 [ag 16 0,ag 16 1],cl 3 48 [ag 8 2,.v true [.an 2 8,.an 2 9,.an 2 10,.an 2 11,.an 2 12,.an 2 13,.an 2 14,.an 2 15]],co 4 (.binOp .gtr 3 (.tmp 18) (.const (.int .i64 0)) 3) 4 [on 3,.v false [.lit (.int .i64 0)]] [0,1,2,3] [],cl 5 50 [ag 16 0,ag 16 1],cl 6 49 [ag 4 5,.v true [.an 5 4,.an 5 5,.an 5 6,.an 5 7]],cl 7 50 [ag 16 1,ag 16 0],cl 8 49 [ag 4 7,.v true [.an 7 4,.an 7 5,.an 7 6,.an 7 7]]]) (out := .v false [.lit (.slice none 0 0)]) (nc:=9) (by kernel_rfl)
    ⟨fun σ W g h hb=>aQ (M5 W _ _ a b c d K (h 0 rfl) (h 1 rfl) (by omega) ba bb bc bd),
    fun σ W g h hb=>toZ (D6 W _ _ (I7 (lo a b) (lo c d)) (I6 (hi a b) (hi c d)) K (pp1 (h 2 rfl)) (pp2 (h 2 rfl)) (by omega) ((ba.lo bb).max (bc.lo bd)) ((ba.hi bb).min (bc.hi bd))) rfl,
    fun σ W g h hb=>fun ρ o ho _ hv=>⟨_,E9 false ho ((A1 hv).1.trans (h 3 rfl)) (A1 hv).2 (decide_eq_false (by have:=pcmp_le.2 h1;omega)),rfl⟩,
    fun σ W g h hb=>fZ (G3 W _ _ a b c d K (h 0 rfl) (h 1 rfl) (by omega) ba bb bc bd (hTab.kept g (by simp))),
    fun σ W g h hb=>toV (H9 W _ _ (A3 a b c) (A3 a b d) (8*K+5) (qq1 (h 5 rfl)) (qq2 (h 5 rfl)) (by omega) (ba.cross bb bc) (ba.cross bb bd)) (by rw [V9 h2]),
    fun σ W g h hb=>fZ (G3 W _ _ c d a b K (h 1 rfl) (h 0 rfl) (by omega) bc bd ba bb (hTab.kept g (by simp))),
    fun σ W g h hb=>toV (H9 W _ _ (A3 c d a) (A3 c d b) (8*K+5) (qq1 (h 7 rfl)) (qq2 (h 7 rfl)) (by omega) (bc.cross bd ba) (bc.cross bd bb)) (by rw [mN h3]),
    trivial⟩ fun τ W g h=>⟨_,rfl,jL W,g,rS⟩
 · skip
   unfold aM
   rw [if_pos h1,if_neg h2,if_neg h3,if_pos ⟨h4,h5⟩]
   refine A6 B3 Tryd.func22 [sSg a b,sSg c d] [sPP (I7 (lo a b) (lo c d)) (I6 (hi a b) (hi c d)),sZ (H6 (I7 (lo a b) (lo c d)) (I6 (hi a b) (hi c d))),sV (.bool false),sQQ (A3 a b c) (A3 a b d),sV (.bool false),sQQ (A3 c d a) (A3 c d b),sV (.bool false),sZ (rsg (A3 c d a)),sV (.bool true),sZ (rsg (A3 c d b)),sV (.bool true),eR w.heap.size (btw (I7 (lo a b) (lo c d)) (I6 (hi a b) (hi c d)))] (.cons Ha (.cons Hb .nil)) (rs:=[cl 2 47 [ag 16 0,ag 16 1],cl 3 48 [ag 8 2,.v true [.an 2 8,.an 2 9,.an 2 10,.an 2 11,.an 2 12,.an 2 13,.an 2 14,.an 2 15]],co 4 (.binOp .gtr 3 (.tmp 18) (.const (.int .i64 0)) 3) 4 [on 3,.v false [.lit (.int .i64 0)]] [0,1,2,3] [],cl 5 50 [ag 16 0,ag 16 1],cl 6 49 [ag 4 5,.v true [.an 5 4,.an 5 5,.an 5 6,.an 5 7]],cl 7 50 [ag 16 1,ag 16 0],cl 8 49 [ag 4 7,.v true [.an 7 4,.an 7 5,.an 7 6,.an 7 7]],cl 9 51 [ag 4 7],co 10 (.binOp .eql 3 (.tmp 40) (.const (.int .i64 0)) 3) 4 [on 9,.v false [.lit (.int .i64 0)]] [0,1,2,3,4,5,6,7,8,9] [],cl 11 51 [.v true [.an 7 4,.an 7 5,.an 7 6,.an 7 7]],co 12 (.binOp .eql 3 (.tmp 44) (.const (.int .i64 0)) 3) 4 [on 11,.v false [.lit (.int .i64 0)]] [0,1,2,3,4,5,6,7,8,9,10,11] [],cl 13 52 [ag 8 2,.v true [.an 2 8,.an 2 9,.an 2 10,.an 2 11,.an 2 12,.an 2 13,.an 2 14,.an 2 15]]]) (out:=on 13) (nc:=14) (by kernel_rfl)
    ⟨fun σ W g h hb=>aQ (M5 W _ _ a b c d K (h 0 rfl) (h 1 rfl) (by omega) ba bb bc bd),
    fun σ W g h hb=>toZ (D6 W _ _ (I7 (lo a b) (lo c d)) (I6 (hi a b) (hi c d)) K (pp1 (h 2 rfl)) (pp2 (h 2 rfl)) (by omega) ((ba.lo bb).max (bc.lo bd)) ((ba.hi bb).min (bc.hi bd))) rfl,
    fun σ W g h hb=>fun ρ o ho _ hv=>⟨_,E9 false ho ((A1 hv).1.trans (h 3 rfl)) (A1 hv).2 (decide_eq_false (by have:=pcmp_le.2 h1;omega)),rfl⟩,
    fun σ W g h hb=>fZ (G3 W _ _ a b c d K (h 0 rfl) (h 1 rfl) (by omega) ba bb bc bd (hTab.kept g (by simp))),
    fun σ W g h hb=>toV (H9 W _ _ (A3 a b c) (A3 a b d) (8*K+5) (qq1 (h 5 rfl)) (qq2 (h 5 rfl)) (by omega) (ba.cross bb bc) (ba.cross bb bd)) (by rw [V9 h2]),
    fun σ W g h hb=>fZ (G3 W _ _ c d a b K (h 1 rfl) (h 0 rfl) (by omega) bc bd ba bb (hTab.kept g (by simp))),
    fun σ W g h hb=>toV (H9 W _ _ (A3 c d a) (A3 c d b) (8*K+5) (qq1 (h 7 rfl)) (qq2 (h 7 rfl)) (by omega) (bc.cross bd ba) (bc.cross bd bb)) (by rw [V9 h3]),
    fun σ W g h hb=>toZ (D5 W _ _ (8*K+5) (qq1 (h 7 rfl)) (by omega) (bc.cross bd ba).1) rfl,
    fun σ W g h hb=>fun ρ o ho _ hv=>⟨_,C8 true ho ((A1 hv).1.trans (h 9 rfl)) (A1 hv).2 (decide_eq_true (rsg_zero.2 h4)),rfl⟩,
    fun σ W g h hb=>toZ (D5 W _ _ (8*K+5) (qq2 (h 7 rfl)) (by omega) (bc.cross bd bb).1) rfl,
    fun σ W g h hb=>fun ρ o ho _ hv=>⟨_,C8 true ho ((A1 hv).1.trans (h 11 rfl)) (A1 hv).2 (decide_eq_true (rsg_zero.2 h5)),rfl⟩,
    fun σ W g h hb=>dI g.size (M6 W _ _ _ _ K (pp1 (h 2 rfl)) (pp2 (h 2 rfl)) (by omega) ((ba.lo bb).max (bc.lo bd)) ((ba.hi bb).min (bc.hi bd)) (hTab.kept g (by simp))),
    trivial⟩ fun τ W g h=>⟨_,rfl,(h 13 rfl).1,g,(h 13 rfl).2⟩
 · skip
   unfold aM
   rw [if_pos h1,if_neg h2,if_neg h3,if_neg (fun q=>h5 q.2)]
   have hne:A3 c d a≠A3 c d b:=by rw [h4];exact Ne.symm h5
   refine A6 B3 Tryd.func22 [sSg a b,sSg c d] [sPP (I7 (lo a b) (lo c d)) (I6 (hi a b) (hi c d)),sZ (H6 (I7 (lo a b) (lo c d)) (I6 (hi a b) (hi c d))),sV (.bool false),sQQ (A3 a b c) (A3 a b d),sV (.bool false),sQQ (A3 c d a) (A3 c d b),sV (.bool false),sZ (rsg (A3 c d a)),sV (.bool true),sZ (rsg (A3 c d b)),sV (.bool false),sPt (pat a b (A3 c d a / (A3 c d a-A3 c d b))),eR w.heap.size (btw (pat a b (A3 c d a / (A3 c d a-A3 c d b))) (pat a b (A3 c d a / (A3 c d a-A3 c d b))))] (.cons Ha (.cons Hb .nil)) (rs:=[cl 2 47 [ag 16 0,ag 16 1],cl 3 48 [ag 8 2,.v true [.an 2 8,.an 2 9,.an 2 10,.an 2 11,.an 2 12,.an 2 13,.an 2 14,.an 2 15]],co 4 (.binOp .gtr 3 (.tmp 18) (.const (.int .i64 0)) 3) 4 [on 3,.v false [.lit (.int .i64 0)]] [0,1,2,3] [],cl 5 50 [ag 16 0,ag 16 1],cl 6 49 [ag 4 5,.v true [.an 5 4,.an 5 5,.an 5 6,.an 5 7]],cl 7 50 [ag 16 1,ag 16 0],cl 8 49 [ag 4 7,.v true [.an 7 4,.an 7 5,.an 7 6,.an 7 7]],cl 9 51 [ag 4 7],co 10 (.binOp .eql 3 (.tmp 40) (.const (.int .i64 0)) 3) 4 [on 9,.v false [.lit (.int .i64 0)]] [0,1,2,3,4,5,6,7,8,9] [],cl 11 51 [.v true [.an 7 4,.an 7 5,.an 7 6,.an 7 7]],co 12 (.binOp .eql 3 (.tmp 44) (.const (.int .i64 0)) 3) 4 [on 11,.v false [.lit (.int .i64 0)]] [0,1,2,3,4,5,6,7,8,9,10,11] [],cl 13 53 [ag 16 0,ag 4 7,.v true [.an 7 4,.an 7 5,.an 7 6,.an 7 7]],cl 14 52 [ag 8 13,ag 8 13]]) (out:=on 14) (nc:=15) (by kernel_rfl)
    ⟨fun σ W g h hb=>aQ (M5 W _ _ a b c d K (h 0 rfl) (h 1 rfl) (by omega) ba bb bc bd),
    fun σ W g h hb=>toZ (D6 W _ _ (I7 (lo a b) (lo c d)) (I6 (hi a b) (hi c d)) K (pp1 (h 2 rfl)) (pp2 (h 2 rfl)) (by omega) ((ba.lo bb).max (bc.lo bd)) ((ba.hi bb).min (bc.hi bd))) rfl,
    fun σ W g h hb=>fun ρ o ho _ hv=>⟨_,E9 false ho ((A1 hv).1.trans (h 3 rfl)) (A1 hv).2 (decide_eq_false (by have:=pcmp_le.2 h1;omega)),rfl⟩,
    fun σ W g h hb=>fZ (G3 W _ _ a b c d K (h 0 rfl) (h 1 rfl) (by omega) ba bb bc bd (hTab.kept g (by simp))),
    fun σ W g h hb=>toV (H9 W _ _ (A3 a b c) (A3 a b d) (8*K+5) (qq1 (h 5 rfl)) (qq2 (h 5 rfl)) (by omega) (ba.cross bb bc) (ba.cross bb bd)) (by rw [V9 h2]),
    fun σ W g h hb=>fZ (G3 W _ _ c d a b K (h 1 rfl) (h 0 rfl) (by omega) bc bd ba bb (hTab.kept g (by simp))),
    fun σ W g h hb=>toV (H9 W _ _ (A3 c d a) (A3 c d b) (8*K+5) (qq1 (h 7 rfl)) (qq2 (h 7 rfl)) (by omega) (bc.cross bd ba) (bc.cross bd bb)) (by rw [V9 h3]),
    fun σ W g h hb=>toZ (D5 W _ _ (8*K+5) (qq1 (h 7 rfl)) (by omega) (bc.cross bd ba).1) rfl,
    fun σ W g h hb=>fun ρ o ho _ hv=>⟨_,C8 true ho ((A1 hv).1.trans (h 9 rfl)) (A1 hv).2 (decide_eq_true (rsg_zero.2 h4)),rfl⟩,
    fun σ W g h hb=>toZ (D5 W _ _ (8*K+5) (qq2 (h 7 rfl)) (by omega) (bc.cross bd bb).1) rfl,
    fun σ W g h hb=>fun ρ o ho _ hv=>⟨_,C8 false ho ((A1 hv).1.trans (h 11 rfl)) (A1 hv).2 (decide_eq_false (fun q=>h5 (rsg_zero.1 q))),rfl⟩,
    fun σ W g h hb=>fS W _ _ _ a b _ _ K (8*K+5) (h 0 rfl) (qq1 (h 7 rfl)) (qq2 (h 7 rfl)) (by omega) ba bb (bc.cross bd ba) (bc.cross bd bb) hne (hTab.kept g (by simp)),
    fun σ W g h hb=>dI g.size (M6 W _ _ _ _ (128*K+100) (h 13 rfl) (h 13 rfl) (by omega) (ba.cut bb bc bd) (ba.cut bb bc bd) (hTab.kept g (by simp))),
    trivial⟩ fun τ W g h=>⟨_,rfl,(h 14 rfl).1,g,(h 14 rfl).2⟩
 · skip
   unfold aM
   rw [if_pos h1,if_neg h2,if_neg h3,if_neg (fun q=>h4 q.1)]
   have hne:A3 c d a≠A3 c d b:=fun e=>h3 (by unfold P4;rw [<- e];grind)
   refine A6 B3 Tryd.func22 [sSg a b,sSg c d] [sPP (I7 (lo a b) (lo c d)) (I6 (hi a b) (hi c d)),sZ (H6 (I7 (lo a b) (lo c d)) (I6 (hi a b) (hi c d))),sV (.bool false),sQQ (A3 a b c) (A3 a b d),sV (.bool false),sQQ (A3 c d a) (A3 c d b),sV (.bool false),sZ (rsg (A3 c d a)),sV (.bool false),sPt (pat a b (A3 c d a / (A3 c d a-A3 c d b))),eR w.heap.size (btw (pat a b (A3 c d a / (A3 c d a-A3 c d b))) (pat a b (A3 c d a / (A3 c d a-A3 c d b))))] (.cons Ha (.cons Hb .nil)) (rs:=[cl 2 47 [ag 16 0,ag 16 1],cl 3 48 [ag 8 2,.v true [.an 2 8,.an 2 9,.an 2 10,.an 2 11,.an 2 12,.an 2 13,.an 2 14,.an 2 15]],co 4 (.binOp .gtr 3 (.tmp 18) (.const (.int .i64 0)) 3) 4 [on 3,.v false [.lit (.int .i64 0)]] [0,1,2,3] [],cl 5 50 [ag 16 0,ag 16 1],cl 6 49 [ag 4 5,.v true [.an 5 4,.an 5 5,.an 5 6,.an 5 7]],cl 7 50 [ag 16 1,ag 16 0],cl 8 49 [ag 4 7,.v true [.an 7 4,.an 7 5,.an 7 6,.an 7 7]],cl 9 51 [ag 4 7],co 10 (.binOp .eql 3 (.tmp 40) (.const (.int .i64 0)) 3) 4 [on 9,.v false [.lit (.int .i64 0)]] [0,1,2,3,4,5,6,7,8,9] [],cl 11 53 [ag 16 0,ag 4 7,.v true [.an 7 4,.an 7 5,.an 7 6,.an 7 7]],cl 12 52 [ag 8 11,ag 8 11]]) (out:=on 12) (nc:=13) (by kernel_rfl)
    ⟨fun σ W g h hb=>aQ (M5 W _ _ a b c d K (h 0 rfl) (h 1 rfl) (by omega) ba bb bc bd),
    fun σ W g h hb=>toZ (D6 W _ _ (I7 (lo a b) (lo c d)) (I6 (hi a b) (hi c d)) K (pp1 (h 2 rfl)) (pp2 (h 2 rfl)) (by omega) ((ba.lo bb).max (bc.lo bd)) ((ba.hi bb).min (bc.hi bd))) rfl,
    fun σ W g h hb=>fun ρ o ho _ hv=>⟨_,E9 false ho ((A1 hv).1.trans (h 3 rfl)) (A1 hv).2 (decide_eq_false (by have:=pcmp_le.2 h1;omega)),rfl⟩,
    fun σ W g h hb=>fZ (G3 W _ _ a b c d K (h 0 rfl) (h 1 rfl) (by omega) ba bb bc bd (hTab.kept g (by simp))),
    fun σ W g h hb=>toV (H9 W _ _ (A3 a b c) (A3 a b d) (8*K+5) (qq1 (h 5 rfl)) (qq2 (h 5 rfl)) (by omega) (ba.cross bb bc) (ba.cross bb bd)) (by rw [V9 h2]),
    fun σ W g h hb=>fZ (G3 W _ _ c d a b K (h 1 rfl) (h 0 rfl) (by omega) bc bd ba bb (hTab.kept g (by simp))),
    fun σ W g h hb=>toV (H9 W _ _ (A3 c d a) (A3 c d b) (8*K+5) (qq1 (h 7 rfl)) (qq2 (h 7 rfl)) (by omega) (bc.cross bd ba) (bc.cross bd bb)) (by rw [V9 h3]),
    fun σ W g h hb=>toZ (D5 W _ _ (8*K+5) (qq1 (h 7 rfl)) (by omega) (bc.cross bd ba).1) rfl,
    fun σ W g h hb=>fun ρ o ho _ hv=>⟨_,C8 false ho ((A1 hv).1.trans (h 9 rfl)) (A1 hv).2 (decide_eq_false (fun q=>h4 (rsg_zero.1 q))),rfl⟩,
    fun σ W g h hb=>fS W _ _ _ a b _ _ K (8*K+5) (h 0 rfl) (qq1 (h 7 rfl)) (qq2 (h 7 rfl)) (by omega) ba bb (bc.cross bd ba) (bc.cross bd bb) hne (hTab.kept g (by simp)),
    fun σ W g h hb=>dI g.size (M6 W _ _ _ _ (128*K+100) (h 11 rfl) (h 11 rfl) (by omega) (ba.cut bb bc bd) (ba.cut bb bc bd) (hTab.kept g (by simp))),
    trivial⟩ fun τ W g h=>⟨_,rfl,(h 12 rfl).1,g,(h 12 rfl).2⟩
theorem rsg_lt {r:Rat} : rsg r<0 ↔ r<0:=by
 rw [<- rC];rcases dS r with e | e | e<;>omega
theorem PClip_any (w:World) (va vb:Value) (a b c d:Pq) (K:Nat) (Ha:SgV w va a b) (Hb:SgV w vb c d) (hK : 1<=K/\K<=50) (ba:Bp K a) (bb:Bp K b) (bc:Bp K c) (bd:Bp K d) (hTab:Tab w) :
 Calls Tryd.prog 23 #[va,vb] w (iE w (mT a b c d)):=by
 rcases (show (A3 c d a<0/\A3 c d b<0)\/(A3 c d a<0 /\ ¬ A3 c d b<0)\/(¬ A3 c d a<0/\A3 c d b<0)\/(¬ A3 c d a<0 /\ ¬ A3 c d b<0) by grind) with ⟨h1,h2⟩ | ⟨h1,h2⟩ | ⟨h1,h2⟩ | ⟨h1,h2⟩
 · skip
   unfold mT
   rw [if_pos ⟨h1,h2⟩]
   refine A6 B3 Tryd.func23 [sSg a b,sSg c d] [sQQ (A3 c d a) (A3 c d b),sZ (rsg (A3 c d a)),sV (.bool true),sZ (rsg (A3 c d b)),sV (.bool true)] (.cons Ha (.cons Hb .nil)) (rs:=[cl 2 50 [ag 16 1,ag 16 0],cl 3 51 [ag 4 2],co 4 (.binOp .lss 3 (.tmp 21) (.const (.int .i64 0)) 3) 4 [on 3,.v false [.lit (.int .i64 0)]] [0,1,2,3] [],cl 5 51 [.v true [.an 2 4,.an 2 5,.an 2 6,.an 2 7]],co 6 (.binOp .lss 3 (.tmp 25) (.const (.int .i64 0)) 3) 4 [on 5,.v false [.lit (.int .i64 0)]] [0,1,2,3,4,5] []]) (out := .v false [.lit (.slice none 0 0)]) (nc:=7) (by kernel_rfl)
    ⟨fun σ W g h hb=>fZ (G3 W _ _ c d a b K (h 1 rfl) (h 0 rfl) (by omega) bc bd ba bb (hTab.kept g (by simp))),
    fun σ W g h hb=>toZ (D5 W _ _ (8*K+5) (qq1 (h 2 rfl)) (by omega) (bc.cross bd ba).1) rfl,
    fun σ W g h hb=>fun ρ o ho _ hv=>⟨_,K5 true ho ((A1 hv).1.trans (h 3 rfl)) (A1 hv).2 (decide_eq_true (rsg_lt.2 h1)),rfl⟩,
    fun σ W g h hb=>toZ (D5 W _ _ (8*K+5) (qq2 (h 2 rfl)) (by omega) (bc.cross bd bb).1) rfl,
    fun σ W g h hb=>fun ρ o ho _ hv=>⟨_,K5 true ho ((A1 hv).1.trans (h 5 rfl)) (A1 hv).2 (decide_eq_true (rsg_lt.2 h2)),rfl⟩,
    trivial⟩ fun τ W g h=>⟨_,rfl,jL W,g,rS⟩
 · skip
   unfold mT
   rw [if_neg (fun q=>h2 q.2),if_pos h1]
   have hne:A3 c d a≠A3 c d b:=fun e=>by grind
   refine A6 B3 Tryd.func23 [sSg a b,sSg c d] [sQQ (A3 c d a) (A3 c d b),sZ (rsg (A3 c d a)),sV (.bool true),sZ (rsg (A3 c d b)),sV (.bool false),sZ (rsg (A3 c d a)),sV (.bool true),sPt (pat a b (A3 c d a / (A3 c d a-A3 c d b))),eR w.heap.size (btw (pat a b (A3 c d a / (A3 c d a-A3 c d b))) b)] (.cons Ha (.cons Hb .nil)) (rs:=[cl 2 50 [ag 16 1,ag 16 0],cl 3 51 [ag 4 2],co 4 (.binOp .lss 3 (.tmp 21) (.const (.int .i64 0)) 3) 4 [on 3,.v false [.lit (.int .i64 0)]] [0,1,2,3] [],cl 5 51 [.v true [.an 2 4,.an 2 5,.an 2 6,.an 2 7]],co 6 (.binOp .lss 3 (.tmp 25) (.const (.int .i64 0)) 3) 4 [on 5,.v false [.lit (.int .i64 0)]] [0,1,2,3,4,5] [],cl 7 51 [ag 4 2],co 8 (.binOp .lss 3 (.tmp 30) (.const (.int .i64 0)) 3) 4 [on 7,.v false [.lit (.int .i64 0)]] [0,1,2,3,4,5,6,7] [],cl 9 53 [ag 16 0,ag 4 2,.v true [.an 2 4,.an 2 5,.an 2 6,.an 2 7]],cl 10 52 [ag 8 9,.v true [.an 0 8,.an 0 9,.an 0 10,.an 0 11,.an 0 12,.an 0 13,.an 0 14,.an 0 15]]]) (out:=on 10) (nc:=11) (by kernel_rfl)
    ⟨fun σ W g h hb=>fZ (G3 W _ _ c d a b K (h 1 rfl) (h 0 rfl) (by omega) bc bd ba bb (hTab.kept g (by simp))),
    fun σ W g h hb=>toZ (D5 W _ _ (8*K+5) (qq1 (h 2 rfl)) (by omega) (bc.cross bd ba).1) rfl,
    fun σ W g h hb=>fun ρ o ho _ hv=>⟨_,K5 true ho ((A1 hv).1.trans (h 3 rfl)) (A1 hv).2 (decide_eq_true (rsg_lt.2 h1)),rfl⟩,
    fun σ W g h hb=>toZ (D5 W _ _ (8*K+5) (qq2 (h 2 rfl)) (by omega) (bc.cross bd bb).1) rfl,
    fun σ W g h hb=>fun ρ o ho _ hv=>⟨_,K5 false ho ((A1 hv).1.trans (h 5 rfl)) (A1 hv).2 (decide_eq_false (fun q=>h2 (rsg_lt.1 q))),rfl⟩,
    fun σ W g h hb=>toZ (D5 W _ _ (8*K+5) (qq1 (h 2 rfl)) (by omega) (bc.cross bd ba).1) rfl,
    fun σ W g h hb=>fun ρ o ho _ hv=>⟨_,K5 true ho ((A1 hv).1.trans (h 7 rfl)) (A1 hv).2 (decide_eq_true (rsg_lt.2 h1)),rfl⟩,
    fun σ W g h hb=>fS W _ _ _ a b _ _ K (8*K+5) (h 0 rfl) (qq1 (h 2 rfl)) (qq2 (h 2 rfl)) (by omega) ba bb (bc.cross bd ba) (bc.cross bd bb) hne (hTab.kept g (by simp)),
    fun σ W g h hb=>dI g.size (M6 W _ _ _ _ (128*K+100) (h 9 rfl) (sg2 (h 0 rfl)) (by omega) ((ba.cut bb bc bd)) (bb.mono (by omega)) (hTab.kept g (by simp))),
    trivial⟩ fun τ W g h=>⟨_,rfl,(h 10 rfl).1,g,(h 10 rfl).2⟩
 · skip
   unfold mT
   rw [if_neg (fun q=>h1 q.1),if_neg h1,if_pos h2]
   have hne:A3 c d a≠A3 c d b:=fun e=>by grind
   refine A6 B3 Tryd.func23 [sSg a b,sSg c d] [sQQ (A3 c d a) (A3 c d b),sZ (rsg (A3 c d a)),sV (.bool false),sZ (rsg (A3 c d a)),sV (.bool false),sZ (rsg (A3 c d b)),sV (.bool true),sPt (pat a b (A3 c d a / (A3 c d a-A3 c d b))),eR w.heap.size (btw a (pat a b (A3 c d a / (A3 c d a-A3 c d b))))] (.cons Ha (.cons Hb .nil)) (rs:=[cl 2 50 [ag 16 1,ag 16 0],cl 3 51 [ag 4 2],co 4 (.binOp .lss 3 (.tmp 21) (.const (.int .i64 0)) 3) 4 [on 3,.v false [.lit (.int .i64 0)]] [0,1,2,3] [],cl 5 51 [ag 4 2],co 6 (.binOp .lss 3 (.tmp 30) (.const (.int .i64 0)) 3) 4 [on 5,.v false [.lit (.int .i64 0)]] [0,1,2,3,4,5] [],cl 7 51 [.v true [.an 2 4,.an 2 5,.an 2 6,.an 2 7]],co 8 (.binOp .lss 3 (.tmp 38) (.const (.int .i64 0)) 3) 4 [on 7,.v false [.lit (.int .i64 0)]] [0,1,2,3,4,5,6,7] [],cl 9 53 [ag 16 0,ag 4 2,.v true [.an 2 4,.an 2 5,.an 2 6,.an 2 7]],cl 10 52 [ag 8 0,ag 8 9]]) (out:=on 10) (nc:=11) (by kernel_rfl)
    ⟨fun σ W g h hb=>fZ (G3 W _ _ c d a b K (h 1 rfl) (h 0 rfl) (by omega) bc bd ba bb (hTab.kept g (by simp))),
    fun σ W g h hb=>toZ (D5 W _ _ (8*K+5) (qq1 (h 2 rfl)) (by omega) (bc.cross bd ba).1) rfl,
    fun σ W g h hb=>fun ρ o ho _ hv=>⟨_,K5 false ho ((A1 hv).1.trans (h 3 rfl)) (A1 hv).2 (decide_eq_false (fun q=>h1 (rsg_lt.1 q))),rfl⟩,
    fun σ W g h hb=>toZ (D5 W _ _ (8*K+5) (qq1 (h 2 rfl)) (by omega) (bc.cross bd ba).1) rfl,
    fun σ W g h hb=>fun ρ o ho _ hv=>⟨_,K5 false ho ((A1 hv).1.trans (h 5 rfl)) (A1 hv).2 (decide_eq_false (fun q=>h1 (rsg_lt.1 q))),rfl⟩,
    fun σ W g h hb=>toZ (D5 W _ _ (8*K+5) (qq2 (h 2 rfl)) (by omega) (bc.cross bd bb).1) rfl,
    fun σ W g h hb=>fun ρ o ho _ hv=>⟨_,K5 true ho ((A1 hv).1.trans (h 7 rfl)) (A1 hv).2 (decide_eq_true (rsg_lt.2 h2)),rfl⟩,
    fun σ W g h hb=>fS W _ _ _ a b _ _ K (8*K+5) (h 0 rfl) (qq1 (h 2 rfl)) (qq2 (h 2 rfl)) (by omega) ba bb (bc.cross bd ba) (bc.cross bd bb) hne (hTab.kept g (by simp)),
    fun σ W g h hb=>dI g.size (M6 W _ _ _ _ (128*K+100) (sg1 (h 0 rfl)) (h 9 rfl) (by omega) (ba.mono (by omega)) ((ba.cut bb bc bd)) (hTab.kept g (by simp))),
    trivial⟩ fun τ W g h=>⟨_,rfl,(h 10 rfl).1,g,(h 10 rfl).2⟩
 · skip
   unfold mT
   rw [if_neg (fun q=>h1 q.1),if_neg h1,if_neg h2]
   refine A6 B3 Tryd.func23 [sSg a b,sSg c d] [sQQ (A3 c d a) (A3 c d b),sZ (rsg (A3 c d a)),sV (.bool false),sZ (rsg (A3 c d a)),sV (.bool false),sZ (rsg (A3 c d b)),sV (.bool false),eR w.heap.size (btw a b)] (.cons Ha (.cons Hb .nil)) (rs:=[cl 2 50 [ag 16 1,ag 16 0],cl 3 51 [ag 4 2],co 4 (.binOp .lss 3 (.tmp 21) (.const (.int .i64 0)) 3) 4 [on 3,.v false [.lit (.int .i64 0)]] [0,1,2,3] [],cl 5 51 [ag 4 2],co 6 (.binOp .lss 3 (.tmp 30) (.const (.int .i64 0)) 3) 4 [on 5,.v false [.lit (.int .i64 0)]] [0,1,2,3,4,5] [],cl 7 51 [.v true [.an 2 4,.an 2 5,.an 2 6,.an 2 7]],co 8 (.binOp .lss 3 (.tmp 38) (.const (.int .i64 0)) 3) 4 [on 7,.v false [.lit (.int .i64 0)]] [0,1,2,3,4,5,6,7] [],cl 9 52 [ag 8 0,.v true [.an 0 8,.an 0 9,.an 0 10,.an 0 11,.an 0 12,.an 0 13,.an 0 14,.an 0 15]]]) (out:=on 9) (nc:=10) (by kernel_rfl)
    ⟨fun σ W g h hb=>fZ (G3 W _ _ c d a b K (h 1 rfl) (h 0 rfl) (by omega) bc bd ba bb (hTab.kept g (by simp))),
    fun σ W g h hb=>toZ (D5 W _ _ (8*K+5) (qq1 (h 2 rfl)) (by omega) (bc.cross bd ba).1) rfl,
    fun σ W g h hb=>fun ρ o ho _ hv=>⟨_,K5 false ho ((A1 hv).1.trans (h 3 rfl)) (A1 hv).2 (decide_eq_false (fun q=>h1 (rsg_lt.1 q))),rfl⟩,
    fun σ W g h hb=>toZ (D5 W _ _ (8*K+5) (qq1 (h 2 rfl)) (by omega) (bc.cross bd ba).1) rfl,
    fun σ W g h hb=>fun ρ o ho _ hv=>⟨_,K5 false ho ((A1 hv).1.trans (h 5 rfl)) (A1 hv).2 (decide_eq_false (fun q=>h1 (rsg_lt.1 q))),rfl⟩,
    fun σ W g h hb=>toZ (D5 W _ _ (8*K+5) (qq2 (h 2 rfl)) (by omega) (bc.cross bd bb).1) rfl,
    fun σ W g h hb=>fun ρ o ho _ hv=>⟨_,K5 false ho ((A1 hv).1.trans (h 7 rfl)) (A1 hv).2 (decide_eq_false (fun q=>h2 (rsg_lt.1 q))),rfl⟩,
    fun σ W g h hb=>dI g.size (M6 W _ _ _ _ (128*K+100) (sg1 (h 0 rfl)) (sg2 (h 0 rfl)) (by omega) (ba.mono (by omega)) (bb.mono (by omega)) (hTab.kept g (by simp))),
    trivial⟩ fun τ W g h=>⟨_,rfl,(h 9 rfl).1,g,(h 9 rfl).2⟩
theorem Z9 {s t:ByteArray} {p:Pq} (hs:T3 s p) (ht:T3 t p):s=t:=by
 obtain ⟨a,b,h1,h2,rfl⟩:=hs
 obtain ⟨c,d,h3,h4,rfl⟩:=ht
 rw [kV h1 h3,kV h2 h4]
theorem eQ {P:Program} {ρ : Operand->Value} {o:Oper} {t t':TypeId} {x y:Operand} {s u:ByteArray} {W:World} (ho:o.op = .binOp .eql t x y t') (hx : ρ x = .string s) (hy : ρ y = .string u) (h:s=u):(execOp ρ o).run P W = .ok (.value (.bool true)) W:=by
 have hg:eqGuard .eql t x y (.string s) (.string u)=pure ():=by unfold eqGuard;rfl
 have hb:binOp .eql t (.string s) (.string u)=pure (.bool true):=by
  subst h
  have:binOp .eql t (.string s) (.string s)=Op.stringOp .eql s s:=by simp [binOp]
  rw [this];simp [Op.stringOp]
 simp only [execOp,ho,hx,hy,hg,hb,Sem.run_bind,Sem.run_pure,Result.andThen_ok]
def sDts (base:Nat) (l:List Dt3):Sp where
 sh := .one
 F v W:=DtsV base W v l
 fits v W h:=by obtain ⟨s,n,c,rfl,_⟩:=h;exact ⟨fun _ => .slice s n c,fun _=>rfl,rfl⟩
 row:=true
 fp v _ q:=fpS v q
 lasts v W W' k hq h:=⟨h.keeps hq,fun _ h=>h⟩
 inb v W h q hq:=(h.block hq).2
 flat h:=by cases h
def sDa (base:Nat) (d:Dt3):Sp where
 sh := .one
 F v W:=DaV base W v d
 fits v W h:=by obtain ⟨b,off,rfl,_⟩:=h;exact ⟨fun _ => .pointer (some ⟨b,off,none⟩),fun _=>rfl,rfl⟩
 row:=true
 fp v _ q:=fpP v q
 lasts v W W' k hq h:=by
  obtain ⟨b,off,rfl,hb,hc⟩:=h
  exact ⟨⟨b,off,rfl,hb,hc.same (hq b ⟨off,rfl⟩)⟩,fun _ h=>h⟩
 inb v W h q hq:=(h.block hq).2
 flat h:=by cases h
def dg (l:List Dt3) (k:Nat):Dt3:=l.getD k (0,0,0)
theorem dg_at {l:List Dt3} {k:Nat} (h:k<l.length):l[k]=dg l k:=by simp [dg,h]
theorem rX {l:List Dt3} {k:Nat} (h:k<l.length):dg l k ∈ l:=by rw [<- dg_at h];exact List.getElem_mem h
theorem take_next {l:List Dt3} {k:Nat} (h:k<l.length):l.take (k+1)=l.take k++[dg l k]:=by rw [<- dg_at h];simp
section
variable {P:Program} {ρ : Operand->Value} {o:Oper} {W:World}
theorem jU {t:TypeId} {x:Operand} {v:Value} {l:List Dt3} {base:Nat} (h:DtsV base W v l) (ho:o.op = .call ⟨.builtin .len, #[x], #[t]⟩) (hx : ρ x=v) (hu:∃ el,Tryd.prog.underlying t=some (.slice el)) :
 (execOp ρ o).run Tryd.prog W = .ok (.value (.int .i64 l.length)) W:=by
 obtain ⟨s,n,c,rfl,hl,hn,h⟩:=h
 obtain ⟨el,hu⟩:=hu
 simp [execOp,ho,resolve,invoke,builtin,Builtin.len_,run_underlying hu W,hx,goInt,hl]
theorem rV {x y:Operand} {v:Value} {l:List Dt3} {base:Nat} (h:DtsV base W v l) (ho:o.op = .indexAddr 24 x y) (hx : ρ x=v) (k:Nat) (hk:k<l.length) (hy : ρ y = .int .i64 k) :
 ∃ u,(execOp ρ o).run Tryd.prog W = .ok (.value u) W/\DaV base W u (dg l k) /\ ∀ q,fpP u q->fpS v q:=by
 obtain ⟨s,n,c,rfl,hl,hn,h⟩:=h
 obtain ⟨b,off,rfl,hb,hc⟩:=h.resolve_left (fun e=>by rw [e] at hk;simp at hk)
 have hu:Tryd.prog.underlying 24=some (.slice 23):=by kernel_rfl
 have hz:I3 Tryd.prog 23=some 3:=by kernel_rfl
 obtain ⟨m,rfl⟩:∃ m,n=m+1:=⟨n-1,by omega⟩
 have hk':(0:Int)<=(k:Int)/\(k:Int)<((m+1:Nat):Int):=by omega
 refine ⟨.pointer (some ⟨b,off+3*k,none⟩), ?_,⟨b,off+3*k,rfl,hb,by rw [<- dg_at hk];exact hc k hk⟩,fun q ⟨o',e⟩=>by cases e;exact ⟨off,m,c,rfl⟩⟩
 simp only [execOp,ho,hx,hy,Instr.indexAt,asIntOf,Sem.run_bind,Sem.run_pure,run_underlying hu W,Result.andThen_ok,hk',and_self,if_true,C6 Tryd.prog hz W,Instr.sureAddr,Addr.add_mid]
 rw [show (k:Int).toNat*3=3*k by omega]
theorem fL {x:Operand} {v:Value} {d:Dt3} {base:Nat} (h:DaV base W v d) (ho:o.op = .load 23 x) (hx : ρ x=v) :
 ∃ u,(execOp ρ o).run Tryd.prog W = .ok (.value u) W/\u = .agg #[.int .i64 d.1,.int .i64 d.2.1,.int .i64 d.2.2]:=by
 obtain ⟨q,off,rfl,hb,h1,h2,h3⟩:=h
 refine ⟨_, ?_,rfl⟩
 have ha:iC Tryd.prog 23=some true:=by kernel_rfl
 have hz:I3 Tryd.prog 23=some 3:=by kernel_rfl
 have hl:(loadCells ⟨q,off,none⟩ [Value.int .i64 d.1,.int .i64 d.2.1,.int .i64 d.2.2].length).run Tryd.prog W = .ok [Value.int .i64 d.1,.int .i64 d.2.1,.int .i64 d.2.2].toArray W:=
  run_loadCells_list (P:=Tryd.prog) W ⟨q,off,none⟩ _ fun j v hv=>by
   rw [Addr.add_mid]
   match j,hv with
   | 0,hv=>cases hv;simpa using h1
   | 1,hv=>cases hv;simpa using h2
   | 2,hv=>cases hv;simpa using h3
   | n+3,hv=>simp at hv
 simp only [execOp,ho,hx,Instr.loadAt,Instr.sureAddr,loadVar,Sem.run_bind,Sem.run_pure,Result.andThen_ok,K8 Tryd.prog ha W,C6 Tryd.prog hz W,if_true]
 simp only [List.length_cons,List.length_nil] at hl
 rw [hl];rfl
end
end Go.Proofs.YtamdnbbgpacfkaaDoor
