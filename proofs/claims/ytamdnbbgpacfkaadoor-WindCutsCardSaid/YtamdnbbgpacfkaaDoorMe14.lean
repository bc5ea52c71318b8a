/- What the laws lean on, part 14. -/
import Derived.Below
import Derived.BigCall
import Derived.BigQuiet
import Derived.BigRegion
import Derived.Deep.AppendLies
import Derived.Deep.CutBlock
import Derived.Deep.CutRange
import Derived.Deep.DeepCutAuto
import Derived.Deep.DeepHandedRow
import Derived.Deep.LoopGhost
import Derived.Deep.MidRow
import Derived.Deep.QuietTactic
import Derived.Deep.RegionHeld3
import Derived.Deep.RegionLaw
import Derived.Deep.WholeRow
import Derived.Laws.AppendOwn
import Derived.Laws.Concat
import Derived.Laws.CopyOwn
import Derived.Laws.Externs
import Derived.Laws.IdiomStrings
import Derived.Lib.BitFns
import Derived.Lib.Bytealg
import Derived.Lib.Hide
import Derived.Lib.Slices
import Derived.Lib.Small
import Derived.Lib.Strings
import Derived.Lib.Walk
import Derived.LoopIn
import Derived.LoopN
import Derived.LoopNIn
import Derived.Maps.AppendAt
import Derived.OpenShut
import Derived.OrdersHeld
import Derived.OrdersIn
import Derived.Outline
import Derived.OwnWalk
import Derived.OwnWalkIn
import Derived.ProofKit
import Derived.RangeFuncBound
import Derived.RangeFuncCalls
import Derived.RangeFuncLeaves
import Derived.RangeFuncNested
import Derived.RangeFuncOwn
import Derived.Shelf.Abstract
import Derived.Shelf.Bits.Mul64
import Derived.Shelf.RegionOpen
import Derived.Shelf.Spec.TrailingZeros
import Derived.StillTailTactics
import Derived.TacticsInMore
import Derived.WalkKit
import Derived.WalkLawsBesides
import Derived.WalkSpells
import Derived.Test.YtamdnbbgpacfkaaDoorProg
import Derived.Test.YtamdnbbgpacfkaaDoorRows
import Derived.Test.YtamdnbbgpacfkaaDoorMe13
set_option linter.unusedVariables false
set_option linter.unusedSimpArgs false
set_option maxRecDepth 100000
namespace Go.Proofs.YtamdnbbgpacfkaaDoor
open Go.RowKit Go.Shelf Mat Ex PM
attribute [local go_sem] Oper.semAt_some
theorem E8 (f:Pq->Pq->Int) (l:List Pq) (pre:List (Fin l.length)) (x:Fin l.length):N8 f l (pre++[x])=N8 f l pre+f (pt0 l x) (nxt l x):=by unfold N8;rw [List.foldl_append];rfl
theorem range_snoc {n k:Nat} {pre:List (Fin n)} (h:pre.map Fin.val=List.range (k+1)):∃ q x,pre=q++[x]/\q.map Fin.val=List.range k/\x.val=k:=by
 rw [List.range_succ] at h
 obtain ⟨q,s,rfl,h1,h2⟩:=List.map_eq_append_iff.1 h
 match s,h2 with
 | [x],h2=>exact ⟨q,x,rfl,h1,by simpa using h2⟩
theorem sumI_up (f:Pq->Pq->Int) (l:List Pq):∀ (k:Nat) (pre:List (Fin l.length)),pre.map Fin.val=List.range k->N8 f l pre=upS f l k
 | 0,pre,h=>by
   have:pre=[]:=by cases pre with | nil=>rfl | cons a b=>simp at h
   subst this;rfl
 | k+1,pre,h=>by
   obtain ⟨q,x,rfl,h1,rfl⟩:=range_snoc h
   rw [E8,sumI_up f l _ q h1];rfl
theorem eI (f:Pq->Pq->Int) (l:List Pq) (pre:List (Fin l.length)) (h:pre.map Fin.val=List.range l.length):N8 f l pre=cyL f l:=by rw [sumI_up f l _ pre h,qT]
theorem kO {f:Pq->Pq->Int} (hf:∀ a b, -1<=f a b/\f a b<=1) (l:List Pq):∀ (n:Nat) (pre:List (Fin l.length)),pre.length=n -> -(n:Int)<=N8 f l pre/\N8 f l pre<=n
 | 0,pre,h=>by
   have:pre=[]:=List.eq_nil_of_length_eq_zero h
   subst this;exact ⟨Int.le_refl _,Int.le_refl _⟩
 | n+1,pre,h=>by
   obtain ⟨q,x,rfl⟩:∃ q x,pre=q++[x]:=by
    rcases List.eq_nil_or_concat pre with rfl | ⟨q,x,rfl⟩
    · simp at h
    · exact ⟨q,x,by simp⟩
   have h1:=kO hf l n q (by simpa using h)
   have h2:=hf (pt0 l x) (nxt l x)
   rw [E8];omega
theorem rG (i k:Int) : -1<=pass i k/\pass i k<=1:=by rcases pass_or i k with h | h | h<;>rw [h]<;>decide
theorem ahd_b (lf:Pq->Int) (m a b:Pq) : -1<=ahd lf m a b/\ahd lf m a b<=1:=by
 unfold ahd;split
 · exact rG _ _
 · decide
theorem thr_b (lf:Pq->Int) (m a b:Pq) : -1<=thr lf m a b/\thr lf m a b<=1:=by
 unfold thr;split
 · exact rG _ _
 · decide
theorem ahd_zero {lf:Pq->Int} {m a b:Pq} (h:pass (lf a) (lf b)=0):ahd lf m a b=0/\thr lf m a b=0:=by unfold ahd thr;rw [h];constructor<;>split<;>rfl
theorem ahd_one {lf:Pq->Int} {m a b:Pq} (h0:¬ pass (lf a) (lf b)=0) (h:rsg (A3 a b m)=pass (lf a) (lf b)):ahd lf m a b=pass (lf a) (lf b)/\thr lf m a b=0:=by
 unfold ahd thr;rw [if_pos h,if_neg (by omega)];exact ⟨rfl,rfl⟩
theorem ahd_thr {lf:Pq->Int} {m a b:Pq} (h:¬ rsg (A3 a b m)=pass (lf a) (lf b)) (h0:rsg (A3 a b m)=0):ahd lf m a b=0/\thr lf m a b=pass (lf a) (lf b):=by
 unfold ahd thr;rw [if_neg h,if_pos h0];exact ⟨rfl,rfl⟩
theorem ahd_none {lf:Pq->Int} {m a b:Pq} (h:¬ rsg (A3 a b m)=pass (lf a) (lf b)) (h0:¬ rsg (A3 a b m)=0):ahd lf m a b=0/\thr lf m a b=0:=by
 unfold ahd thr;rw [if_neg h,if_neg h0];exact ⟨rfl,rfl⟩
theorem add_i {t:TypeId} {x y:Int} (h0 : -1000<=x+y) (h1:x+y<=1000):binOp .add t (.int .i64 x) (.int .i64 y) = .pure (.int .i64 (x+y)):=by
 show Sem.pure (Value.int .i64 (IntKind.i64.wrap (x+y)))=_
 rw [show IntKind.i64.wrap (x+y)=x+y by simp [IntKind.wrap,IntKind.signed,IntKind.bits];omega]
def uB (b:Bool):Su:=Sp.u (sC (.bool b) rfl) fun _ _ _ _ h=>h
def uX (u:Value) (hu:u.oneCell'=true):Su:=Sp.u (sC u hu) fun _ _ _ _ h=>h
theorem vB' {v:Value} {a b:Bool} (h:v = .bool a) (h2:v = .bool b):a=b:=by rw [h] at h2;exact Value.bool.inj h2
theorem V6 {z:Int} : ∀ u ∈ [Value.int .i64 z],u.oneCell'=true:=by simp [Value.oneCell']
theorem eS {fn:Func} {a b:Tmp} {ta tb:TypeId} (h:fn.results = #[.cell a ta,.cell b tb]) {tmps:Array Value} {W:World} {ga gb:Nat} {va vb:Value} (hp:tmps.getD a undef = .pointer (some ⟨ga,0,none⟩)) (hq:tmps.getD b undef = .pointer (some ⟨gb,0,none⟩))
 (hc:W.heap[ga]?=some (.cells #[va] ta (0,0))) (hd:W.heap[gb]?=some (.cells #[vb] tb (0,0))) (ha:iC Tryd.prog ta=some false) (hb:iC Tryd.prog tb=some false) :
 (results fn tmps).run Tryd.prog W = .ok (.tuple #[va,vb]) W:=by
 simp only [Array.getD_eq_getD_getElem?] at hp hq
 have c1:W.cell? ⟨ga,0,none⟩=some va:=by unfold World.cell?;rw [hc];rfl
 have c2:W.cell? ⟨gb,0,none⟩=some vb:=by unfold World.cell?;rw [hd];rfl
 simp [results,h,hp,hq,asAddr,loadVar,Sem.run_bind,Sem.run_pure,Result.andThen_ok,K8 Tryd.prog ha W,K8 Tryd.prog hb W,run_load,c1,c2]
set_option maxHeartbeats 4000000 in
theorem iY (w:World) (v:Value) (q:Nat) (m0 m1 m2 m3 m4 m5 m6 m7 u0 u1 u2 u3 u4 u5 u6 u7:Value) (l:List Pq) (m:Pq) (K:Nat) (Hv:PtsV w v l) (hMm:PtV w (.agg #[m0,m1,m2,m3,m4,m5,m6,m7]) m) (hq0:w.heap[q]?=some (.cells #[u0,u1,u2,u3,u4,u5,u6,u7] 33 (0,0))) (hqm:PtV w (.agg #[u0,u1,u2,u3,u4,u5,u6,u7]) m)
 (hK:K<=10000) (hn:l.length<=200) (hbd:∀ p ∈ l,Bp K p) (bm:Bp K m) (hTab:Tab w) (hv:v.oneCell'=true):Calls Tryd.prog 40 #[v,.agg #[m0,m1,m2,m3,m4,m5,m6,m7],.func (.func 72) #[] #[.pointer (some ⟨q,0,none⟩)]] w (fun e w'=>e = .returned (.tuple #[.int .i64 (cyL (ahd (lvl m) m) l),.int .i64 (cyL (thr (lvl m) m) l)])/\w.grownBy w' none):=by
 have hql:q<w.heap.size:=(Array.getElem?_eq_some_iff.1 hq0).1
 obtain ⟨ms0,mn0,mx0,ms1,mn1,mx1,ms2,mn2,mx2,ms3,mn3,mx3,hme⟩:=hMm.shape
 obtain ⟨rfl,rfl,rfl,rfl,rfl,rfl,rfl,rfl⟩:m0=_/\m1=_/\m2=_/\m3=_/\m4=_/\m5=_/\m6=_/\m7=_:=by
  have:=Value.agg.inj hme;simpa using this
 clear hme
 refine (callsIn_wide (n:=4)).1 ?_
 refine callsIn_of_wp_marks Tryd.func40 rfl trivial ?_ rfl
 simp only [Tryd.ntmps40,List.size_toArray,List.length_cons,List.length_nil,Nat.reduceAdd,Nat.reduceSub,Array.replicate_succ,Array.replicate_zero,List.push_toArray,List.append_toArray,List.nil_append,List.cons_append]
 gi_wp2_with (refine ⟨trivial, ?_⟩;gi_at_call 38;refine (iD 3 v _ hv).mono ?_;rintro e w' ⟨rfl,rfl⟩)
 rename_i hK9
 have a0:=World.grownBy_alloc w (.cells #[.slice ms0 mn0 mn0,.bool mx0,.slice ms1 mn1 mn1,.bool mx1,.slice ms2 mn2 mn2,.bool mx2,.slice ms3 mn3 mn3,.bool mx3] 33) none
 have a1:=World.grownBy_alloc (w.alloc (.cells #[.slice ms0 mn0 mn0,.bool mx0,.slice ms1 mn1 mn1,.bool mx1,.slice ms2 mn2 mn2,.bool mx2,.slice ms3 mn3 mn3,.bool mx3] 33)) (.cells #[.func (.func 72) #[] #[.pointer (some ⟨q,0,none⟩)]] 87) none
 have a2:=World.grownBy_alloc ((w.alloc (.cells #[.slice ms0 mn0 mn0,.bool mx0,.slice ms1 mn1 mn1,.bool mx1,.slice ms2 mn2 mn2,.bool mx2,.slice ms3 mn3 mn3,.bool mx3] 33)).alloc (.cells #[.func (.func 72) #[] #[.pointer (some ⟨q,0,none⟩)]] 87)) (.cells #[.int .i64 0] 3) none
 have a3:=World.grownBy_alloc (((w.alloc (.cells #[.slice ms0 mn0 mn0,.bool mx0,.slice ms1 mn1 mn1,.bool mx1,.slice ms2 mn2 mn2,.bool mx2,.slice ms3 mn3 mn3,.bool mx3] 33)).alloc (.cells #[.func (.func 72) #[] #[.pointer (some ⟨q,0,none⟩)]] 87)).alloc (.cells #[.int .i64 0] 3)) (.cells #[.int .i64 0] 3) none
 have a4:=World.grownBy_alloc ((((w.alloc (.cells #[.slice ms0 mn0 mn0,.bool mx0,.slice ms1 mn1 mn1,.bool mx1,.slice ms2 mn2 mn2,.bool mx2,.slice ms3 mn3 mn3,.bool mx3] 33)).alloc (.cells #[.func (.func 72) #[] #[.pointer (some ⟨q,0,none⟩)]] 87)).alloc (.cells #[.int .i64 0] 3)).alloc (.cells #[.int .i64 0] 3)) (.cells #[v] 40) none
 have r0:=A5 a4 (A5 a3 (A5 a2 (A5 a1 (A9 w (.cells #[.slice ms0 mn0 mn0,.bool mx0,.slice ms1 mn1 mn1,.bool mx1,.slice ms2 mn2 mn2,.bool mx2,.slice ms3 mn3 mn3,.bool mx3] 33) (w.heap.size) rfl))))
 have r1:=A5 a4 (A5 a3 (A5 a2 (A9 (w.alloc (.cells #[.slice ms0 mn0 mn0,.bool mx0,.slice ms1 mn1 mn1,.bool mx1,.slice ms2 mn2 mn2,.bool mx2,.slice ms3 mn3 mn3,.bool mx3] 33)) (.cells #[.func (.func 72) #[] #[.pointer (some ⟨q,0,none⟩)]] 87) (w.heap.size+1) (by simp))))
 have r2:=A5 a4 (A5 a3 (A9 ((w.alloc (.cells #[.slice ms0 mn0 mn0,.bool mx0,.slice ms1 mn1 mn1,.bool mx1,.slice ms2 mn2 mn2,.bool mx2,.slice ms3 mn3 mn3,.bool mx3] 33)).alloc (.cells #[.func (.func 72) #[] #[.pointer (some ⟨q,0,none⟩)]] 87)) (.cells #[.int .i64 0] 3) (w.heap.size+1+1) (by simp)))
 have r3:=A5 a4 (A9 (((w.alloc (.cells #[.slice ms0 mn0 mn0,.bool mx0,.slice ms1 mn1 mn1,.bool mx1,.slice ms2 mn2 mn2,.bool mx2,.slice ms3 mn3 mn3,.bool mx3] 33)).alloc (.cells #[.func (.func 72) #[] #[.pointer (some ⟨q,0,none⟩)]] 87)).alloc (.cells #[.int .i64 0] 3)) (.cells #[.int .i64 0] 3) (w.heap.size+1+1+1) (by simp))
 have r4:=A9 ((((w.alloc (.cells #[.slice ms0 mn0 mn0,.bool mx0,.slice ms1 mn1 mn1,.bool mx1,.slice ms2 mn2 mn2,.bool mx2,.slice ms3 mn3 mn3,.bool mx3] 33)).alloc (.cells #[.func (.func 72) #[] #[.pointer (some ⟨q,0,none⟩)]] 87)).alloc (.cells #[.int .i64 0] 3)).alloc (.cells #[.int .i64 0] 3)) (.cells #[v] 40) (w.heap.size+1+1+1+1) (by simp)
 have g0:=A4 (A4 (A4 (A4 a0 a1) a2) a3) a4
 have e1:(((((w.alloc (.cells #[.slice ms0 mn0 mn0,.bool mx0,.slice ms1 mn1 mn1,.bool mx1,.slice ms2 mn2 mn2,.bool mx2,.slice ms3 mn3 mn3,.bool mx3] 33)).alloc (.cells #[.func (.func 72) #[] #[.pointer (some ⟨q,0,none⟩)]] 87)).alloc (.cells #[.int .i64 0] 3)).alloc (.cells #[.int .i64 0] 3)).alloc (.cells #[v] 40)).heap.size=w.heap.size+5:=by simp
 clear a0 a1 a2 a3 a4
 generalize (((((w.alloc (.cells #[.slice ms0 mn0 mn0,.bool mx0,.slice ms1 mn1 mn1,.bool mx1,.slice ms2 mn2 mn2,.bool mx2,.slice ms3 mn3 mn3,.bool mx3] 33)).alloc (.cells #[.func (.func 72) #[] #[.pointer (some ⟨q,0,none⟩)]] 87)).alloc (.cells #[.int .i64 0] 3)).alloc (.cells #[.int .i64 0] 3)).alloc (.cells #[v] 40))=W0 at *
 obtain ⟨b,encs,hb0,hsz,hen,hbw, -,hstop⟩:=aJ 3 (by omega) (w.heap.size+1+1+1+1) w W0 g0 v l r4 Hv (by omega)
 refine wpIn_rangeFunc_ownH rfl (by omega) (gf:=68) (lb := #[.pointer (some ⟨w.heap.size+1+1+1+1,0,none⟩)]) rfl trivial (enters_of Tryd.func68 (by kernel_rfl) rfl) hstop kpR_t (kpR_b hb0 (by omega)) (Below.refl _ _) (fun x=>hsz x)
  (fun pre W=>CrLI w q v m l pre W) (fun _ _ _=>False)
  (fun s X Y row hs hg hr=>hs.soft (B:=W0.heap.size) (by omega) hg hr) (fun _ _ _ _ _ hs _ _=>hs) ⟨g0,⟨_,_,_,_,_,_,_,_,r0,hMm.kept g0⟩,r1,r2,r3,r4⟩
  (fun x a' W=>∃ (Bx:Nat) (p0 p1 p2 p3 p4 p5 p6 p7 q0 q1 q2 q3 q4 q5 q6 q7:Value),W0.heap.size<=Bx/\PQs W Bx [p0,p1,p2,p3,p4,p5,p6,p7] [q0,q1,q2,q3,q4,q5,q6,q7] (pt0 l x) (nxt l x)/\a' = { tmps := #[v,.agg #[.slice ms0 mn0 mn0,.bool mx0,.slice ms1 mn1 mn1,.bool mx1,.slice ms2 mn2 mn2,.bool mx2,.slice ms3 mn3 mn3,.bool mx3],.func (.func 72) #[] #[.pointer (some ⟨q,0,none⟩)],undef,.pointer (some ⟨w.heap.size,0,none⟩),.pointer (some ⟨w.heap.size+1,0,none⟩),.pointer (some ⟨w.heap.size+1+1,0,none⟩),.pointer (some ⟨w.heap.size+1+1+1,0,none⟩),.pointer (some ⟨Bx,0,none⟩),.pointer (some ⟨Bx+1,0,none⟩),undef,v,.func (.func 68) #[] #[.pointer (some ⟨w.heap.size+1+1+1+1,0,none⟩)],.agg #[p0,p1,p2,p3,p4,p5,p6,p7],.agg #[q0,q1,q2,q3,q4,q5,q6,q7],undef,undef,undef,undef,undef,undef,undef,undef,undef,undef,undef,undef,undef,undef,undef,undef,undef,undef,undef,undef,undef,undef,undef,undef,undef,undef],defers:=[] })
  (fun x a' _ X Y row hs hg hr=>by obtain ⟨Bx,p0,p1,p2,p3,p4,p5,p6,p7,q0,q1,q2,q3,q4,q5,q6,q7,h1,h2,h3⟩:=hs;exact ⟨Bx,p0,p1,p2,p3,p4,p5,p6,p7,q0,q1,q2,q3,q4,q5,q6,q7,h1,h2.soft (B:=W0.heap.size) hg hr,h3⟩)
  ?assign ?body ?done ?stop
 case assign=>
  intro lr pre x W K' hI hKK
  obtain ⟨p,q',he,hp,hq⟩:=hen x
  rw [he]
  have hp:=hp.kept hI.1
  have hq:=hq.kept hI.1
  obtain ⟨s0,n0,x0,s1,n1,x1,s2,n2,x2,s3,n3,x3,rfl⟩:=hp.shape
  obtain ⟨s4,n4,x4,s5,n5,x5,s6,n6,x6,s7,n7,x7,rfl⟩:=hq.shape
  have hbl:=hI.1.size
  have hBl:=(Array.getElem?_eq_some_iff.1 hI.2.2.2.2.2).1
  have c1:=World.grownBy_alloc W (.cells #[.slice s0 n0 n0,.bool x0,.slice s1 n1 n1,.bool x1,.slice s2 n2 n2,.bool x2,.slice s3 n3 n3,.bool x3] 33) none
  have c2:=World.grownBy_alloc (W.alloc (.cells #[.slice s0 n0 n0,.bool x0,.slice s1 n1 n1,.bool x1,.slice s2 n2 n2,.bool x2,.slice s3 n3 n3,.bool x3] 33)) (.cells #[.slice s4 n4 n4,.bool x4,.slice s5 n5 n5,.bool x5,.slice s6 n6 n6,.bool x6,.slice s7 n7 n7,.bool x7] 33) none
  gi_wp2
  refine hKK _ _ (((KeepsOthers.alloc _ _).trans (KeepsOthers.alloc _ _)).from _) ⟨(A4 c1 c2).block _ (by have:=hbw x;omega) (by simp),(A4 c1 c2).block _ hBl (by simp)⟩ (hI.soft (B:=w.heap.size) (Nat.le_refl _) (A4 c1 c2) (fK _ _))
   ⟨W.heap.size,_,_,_,_,_,_,_,_,_,_,_,_,_,_,_,_, ?_,⟨A5 c2 (A9 W _ _ rfl),A9 _ _ _ (by simp),hp.kept (A4 c1 c2),hq.kept (A4 c1 c2)⟩,rfl⟩
  omega
 case body=>
  rintro lr pre x a' W hl'-hI ⟨Bx,p0,p1,p2,p3,p4,p5,p6,p7,q0,q1,q2,q3,q4,q5,q6,q7,hBx,⟨hBp,hBq,hPp,hPq⟩,rfl⟩ hlt
  obtain ⟨hw,⟨z0,z1,z2,z3,z4,z5,z6,z7,hM,hMz⟩,hF,hA,hT,hBs⟩:=hI
  have sa:=kO (ahd_b (lvl m) m) l _ pre rfl
  have st:=kO (thr_b (lvl m) m) l _ pre rfl
  have sp:=rG (lvl m (pt0 l x)) (lvl m (nxt l x))
  have ne01:w.heap.size+1+1≠w.heap.size+1+1+1:=by omega
  have ne02:w.heap.size+1+1≠Bx:=by omega
  have ne03:w.heap.size+1+1≠Bx+1:=by omega
  have ne04:w.heap.size+1+1≠w.heap.size:=by omega
  have ne05:w.heap.size+1+1≠w.heap.size+1:=by omega
  have ne06:w.heap.size+1+1≠w.heap.size+1+1+1+1:=by omega
  have ne12:w.heap.size+1+1+1≠Bx:=by omega
  have ne13:w.heap.size+1+1+1≠Bx+1:=by omega
  have ne14:w.heap.size+1+1+1≠w.heap.size:=by omega
  have ne15:w.heap.size+1+1+1≠w.heap.size+1:=by omega
  have ne16:w.heap.size+1+1+1≠w.heap.size+1+1+1+1:=by omega
  have ne23:Bx≠Bx+1:=by omega
  have ne24:Bx≠w.heap.size:=by omega
  have ne25:Bx≠w.heap.size+1:=by omega
  have ne26:Bx≠w.heap.size+1+1+1+1:=by omega
  have ne34:Bx+1≠w.heap.size:=by omega
  have ne35:Bx+1≠w.heap.size+1:=by omega
  have ne36:Bx+1≠w.heap.size+1+1+1+1:=by omega
  have ne45:w.heap.size≠w.heap.size+1:=by omega
  have ne46:w.heap.size≠w.heap.size+1+1+1+1:=by omega
  have ne56:w.heap.size+1≠w.heap.size+1+1+1+1:=by omega
  refine O3 (Fc.round lr _ Tryd.prog) B3 (prot:=M9) [uPt (pt0 l x),uPt (nxt l x),uPt m,uZ (N8 (ahd (lvl m) m) l pre),uZ (N8 (thr (lvl m) m) l pre),uX v hv,uZ (lvl m (pt0 l x)),uZ (lvl m (nxt l x)),uZ (pass (lvl m (pt0 l x)) (lvl m (nxt l x))),uB (decide (pass (lvl m (pt0 l x)) (lvl m (nxt l x))=0)),uZ (rsg (A3 (pt0 l x) (nxt l x) m)),uB (decide (rsg (A3 (pt0 l x) (nxt l x) m)=pass (lvl m (pt0 l x)) (lvl m (nxt l x)))),uZ (N8 (ahd (lvl m) m) l pre+pass (lvl m (pt0 l x)) (lvl m (nxt l x))),uB (decide (rsg (A3 (pt0 l x) (nxt l x) m)=0)),uZ (N8 (thr (lvl m) m) l pre+pass (lvl m (pt0 l x)) (lvl m (nxt l x)))] [] [] 41 6 [.any 0,.any 1,.any 2,.any 3,.v false [.ptr 4 0],.v false [.ptr 5 0],.v false [.ptr 0 0],.v false [.ptr 1 0],.v false [.ptr 2 0],.v false [.ptr 3 0],.any 10,.any 11,.any 12,.any 13,.any 14,.any 15,.any 16,.any 17,.any 18,.any 19,.any 20,.any 21,.any 22,.any 23,.any 24,.any 25,.any 26,.any 27,.any 28,.any 29,.any 30,.any 31,.any 32,.any 33,.any 34,.any 35,.any 36,.any 37,.any 38,.any 39,.any 40] [(3,[.an 3 0],true),(3,[.an 4 0],true),(33,[.an 0 0,.an 0 1,.an 0 2,.an 0 3,.an 0 4,.an 0 5,.an 0 6,.an 0 7],false),(33,[.an 1 0,.an 1 1,.an 1 2,.an 1 3,.an 1 4,.an 1 5,.an 1 6,.an 1 7],false),(33,[.an 2 0,.an 2 1,.an 2 2,.an 2 3,.an 2 4,.an 2 5,.an 2 6,.an 2 7],false),(87,[.lit (.func (.func 72) #[] #[.pointer (some ⟨q,0,none⟩)])],false),(40,[.an 5 0],false)] (rs:=[(cl 6 72 [ag 8 0,.v false [.lit (.pointer (some ⟨q,0,none⟩))]],[]),(cl 7 72 [ag 8 1,.v false [.lit (.pointer (some ⟨q,0,none⟩))]],[]),(cl 8 71 [on 6,on 7],[]),(co 9 (.binOp .eql 3 (.tmp 22) (.const (.int .i64 0)) 3) 4 [on 8,.v false [.lit (.int .i64 0)]] [0,1,2,3,4,5,6,7,8] [],[]),(cl 10 70 [ag 8 0,ag 8 1,ag 8 2],[(9,0,false)]),(co 11 (.binOp .eql 3 (.tmp 27) (.tmp 29) 3) 4 [on 10,on 8] [0,1,2,3,4,5,6,7,8,9,10] [],[(9,0,false)]),(co 12 (.binOp .add 3 (.tmp 31) (.tmp 32) 3) 3 [on 3,on 8] [0,1,2,3,4,5,6,7,8,9,10,11] [],[(11,0,true),(9,0,false)]),(co 13 (.binOp .eql 3 (.tmp 27) (.const (.int .i64 0)) 3) 4 [on 10,.v false [.lit (.int .i64 0)]] [0,1,2,3,4,5,6,7,8,9,10,11] [],[(11,0,false),(9,0,false)]),(co 14 (.binOp .add 3 (.tmp 36) (.tmp 37) 3) 3 [on 4,on 8] [0,1,2,3,4,5,6,7,8,9,10,11,13] [],[(13,0,true),(11,0,false),(9,0,false)])]) (js:=[.test 9 0 (List.range 10) [],.test 11 0 (List.range 12) [(9,0,false)],.test 13 0 [0,1,2,3,4,5,6,7,8,9,10,11,13] [(11,0,false),(9,0,false)]]) (outs:=[⟨.normal,(List.range 10),[(9,0,true)],[.any 0,.any 1,.any 2,.any 3,.v false [.ptr 4 0],.v false [.ptr 5 0],.v false [.ptr 0 0],.v false [.ptr 1 0],.v false [.ptr 2 0],.v false [.ptr 3 0],on 8,.any 11,.any 12,.any 13,.any 14,.v false [.lit (.func (.func 72) #[] #[.pointer (some ⟨q,0,none⟩)])],ag 8 0,on 6,.v false [.lit (.func (.func 72) #[] #[.pointer (some ⟨q,0,none⟩)])],ag 8 1,on 7,on 8,on 8,on 9,.any 24,.any 25,.any 26,.any 27,.any 28,.any 29,.any 30,.any 31,.any 32,.any 33,.any 34,.any 35,.any 36,.any 37,.any 38,.any 39,.any 40],[(0,3,[.an 3 0]),(1,3,[.an 4 0]),(2,33,[.an 0 0,.an 0 1,.an 0 2,.an 0 3,.an 0 4,.an 0 5,.an 0 6,.an 0 7]),(3,33,[.an 1 0,.an 1 1,.an 1 2,.an 1 3,.an 1 4,.an 1 5,.an 1 6,.an 1 7]),(4,33,[.an 2 0,.an 2 1,.an 2 2,.an 2 3,.an 2 4,.an 2 5,.an 2 6,.an 2 7]),(5,87,[.lit (.func (.func 72) #[] #[.pointer (some ⟨q,0,none⟩)])]),(6,40,[.an 5 0])],[0,1]⟩,⟨.normal,(List.range 13),[(11,0,true),(9,0,false)],[.any 0,.any 1,.any 2,.any 3,.v false [.ptr 4 0],.v false [.ptr 5 0],.v false [.ptr 0 0],.v false [.ptr 1 0],.v false [.ptr 2 0],.v false [.ptr 3 0],on 8,.any 11,.any 12,.any 13,.any 14,.v false [.lit (.func (.func 72) #[] #[.pointer (some ⟨q,0,none⟩)])],ag 8 0,on 6,.v false [.lit (.func (.func 72) #[] #[.pointer (some ⟨q,0,none⟩)])],ag 8 1,on 7,on 8,on 8,on 9,ag 8 0,ag 8 1,ag 8 2,on 10,on 11,on 8,on 11,on 3,on 8,on 12,.any 34,.any 35,.any 36,.any 37,.any 38,.any 39,.any 40],[(0,3,[.an 12 0]),(1,3,[.an 4 0]),(2,33,[.an 0 0,.an 0 1,.an 0 2,.an 0 3,.an 0 4,.an 0 5,.an 0 6,.an 0 7]),(3,33,[.an 1 0,.an 1 1,.an 1 2,.an 1 3,.an 1 4,.an 1 5,.an 1 6,.an 1 7]),(4,33,[.an 2 0,.an 2 1,.an 2 2,.an 2 3,.an 2 4,.an 2 5,.an 2 6,.an 2 7]),(5,87,[.lit (.func (.func 72) #[] #[.pointer (some ⟨q,0,none⟩)])]),(6,40,[.an 5 0])],[0,1]⟩,⟨.normal,[0,1,2,3,4,5,6,7,8,9,10,11,13,14],[(13,0,true),(11,0,false),(9,0,false)],[.any 0,.any 1,.any 2,.any 3,.v false [.ptr 4 0],.v false [.ptr 5 0],.v false [.ptr 0 0],.v false [.ptr 1 0],.v false [.ptr 2 0],.v false [.ptr 3 0],on 8,.any 11,.any 12,.any 13,.any 14,.v false [.lit (.func (.func 72) #[] #[.pointer (some ⟨q,0,none⟩)])],ag 8 0,on 6,.v false [.lit (.func (.func 72) #[] #[.pointer (some ⟨q,0,none⟩)])],ag 8 1,on 7,on 8,on 8,on 9,ag 8 0,ag 8 1,ag 8 2,on 10,on 11,on 8,on 11,.any 31,.any 32,.any 33,on 13,on 13,on 4,on 8,on 14,.any 39,.any 40],[(0,3,[.an 3 0]),(1,3,[.an 14 0]),(2,33,[.an 0 0,.an 0 1,.an 0 2,.an 0 3,.an 0 4,.an 0 5,.an 0 6,.an 0 7]),(3,33,[.an 1 0,.an 1 1,.an 1 2,.an 1 3,.an 1 4,.an 1 5,.an 1 6,.an 1 7]),(4,33,[.an 2 0,.an 2 1,.an 2 2,.an 2 3,.an 2 4,.an 2 5,.an 2 6,.an 2 7]),(5,87,[.lit (.func (.func 72) #[] #[.pointer (some ⟨q,0,none⟩)])]),(6,40,[.an 5 0])],[0,1]⟩,⟨.normal,[0,1,2,3,4,5,6,7,8,9,10,11,13],[(13,0,false),(11,0,false),(9,0,false)],[.any 0,.any 1,.any 2,.any 3,.v false [.ptr 4 0],.v false [.ptr 5 0],.v false [.ptr 0 0],.v false [.ptr 1 0],.v false [.ptr 2 0],.v false [.ptr 3 0],on 8,.any 11,.any 12,.any 13,.any 14,.v false [.lit (.func (.func 72) #[] #[.pointer (some ⟨q,0,none⟩)])],ag 8 0,on 6,.v false [.lit (.func (.func 72) #[] #[.pointer (some ⟨q,0,none⟩)])],ag 8 1,on 7,on 8,on 8,on 9,ag 8 0,ag 8 1,ag 8 2,on 10,on 11,on 8,on 11,.any 31,.any 32,.any 33,on 13,on 13,.any 36,.any 37,.any 38,.any 39,.any 40],[(0,3,[.an 3 0]),(1,3,[.an 4 0]),(2,33,[.an 0 0,.an 0 1,.an 0 2,.an 0 3,.an 0 4,.an 0 5,.an 0 6,.an 0 7]),(3,33,[.an 1 0,.an 1 1,.an 1 2,.an 1 3,.an 1 4,.an 1 5,.an 1 6,.an 1 7]),(4,33,[.an 2 0,.an 2 1,.an 2 2,.an 2 3,.an 2 4,.an 2 5,.an 2 6,.an 2 7]),(5,87,[.lit (.func (.func 72) #[] #[.pointer (some ⟨q,0,none⟩)])]),(6,40,[.an 5 0])],[0,1]⟩]) (nc:=15) (by kernel_rfl) hw
   ⟨fun n=>match n with | 0=>D7 [p0,p1,p2,p3,p4,p5,p6,p7] | 1=>D7 [q0,q1,q2,q3,q4,q5,q6,q7] | 2=>D7 [z0,z1,z2,z3,z4,z5,z6,z7] | 3=>D7 [.int .i64 (N8 (ahd (lvl m) m) l pre)] | 4=>D7 [.int .i64 (N8 (thr (lvl m) m) l pre)] | 5=>D7 [v] | _=>fun _ => .bool false,fun b=>match b with | 0=>w.heap.size+1+1 | 1=>w.heap.size+1+1+1 | 2=>Bx | 3=>Bx+1 | 4=>w.heap.size | 5=>w.heap.size+1 | 6=>w.heap.size+1+1+1+1 | _=>0,fun i=>(#[v,.agg #[.slice ms0 mn0 mn0,.bool mx0,.slice ms1 mn1 mn1,.bool mx1,.slice ms2 mn2 mn2,.bool mx2,.slice ms3 mn3 mn3,.bool mx3],.func (.func 72) #[] #[.pointer (some ⟨q,0,none⟩)],undef,.pointer (some ⟨w.heap.size,0,none⟩),.pointer (some ⟨w.heap.size+1,0,none⟩),.pointer (some ⟨w.heap.size+1+1,0,none⟩),.pointer (some ⟨w.heap.size+1+1+1,0,none⟩),.pointer (some ⟨Bx,0,none⟩),.pointer (some ⟨Bx+1,0,none⟩),undef,v,.func (.func 68) #[] #[.pointer (some ⟨w.heap.size+1+1+1+1,0,none⟩)],.agg #[p0,p1,p2,p3,p4,p5,p6,p7],.agg #[q0,q1,q2,q3,q4,q5,q6,q7],undef,undef,undef,undef,undef,undef,undef,undef,undef,undef,undef,undef,undef,undef,undef,undef,undef,undef,undef,undef,undef,undef,undef,undef,undef,undef]:Array Value).getD i undef⟩
   (fun n c=>match n with | 0=>B4 hPp.one c | 1=>B4 hPq.one c | 2=>B4 hMz.one c | 3=>B4 V6 c | 4=>B4 V6 c | 5=>B4 (by simp [hv]) c | _+6=>rfl) rfl (fun i=>match i with | 0=>rfl | 1=>rfl | 2=>rfl | 3=>rfl | 4=>rfl | 5=>rfl | 6=>rfl | 7=>rfl | 8=>rfl | 9=>rfl | 10=>rfl | 11=>rfl | 12=>rfl | 13=>rfl | 14=>rfl | 15=>rfl | 16=>rfl | 17=>rfl | 18=>rfl | 19=>rfl | 20=>rfl | 21=>rfl | 22=>rfl | 23=>rfl | 24=>rfl | 25=>rfl | 26=>rfl | 27=>rfl | 28=>rfl | 29=>rfl | 30=>rfl | 31=>rfl | 32=>rfl | 33=>rfl | 34=>rfl | 35=>rfl | 36=>rfl | 37=>rfl | 38=>rfl | 39=>rfl | 40=>rfl | _+41=>rfl)
   (fun b q hq=>match b,q,hq with
    | 0,_,rfl=>⟨hA,fun _=>(by omega:w.heap.size<=w.heap.size+1+1)⟩
    | 1,_,rfl=>⟨hT,fun _=>(by omega:w.heap.size<=w.heap.size+1+1+1)⟩
    | 2,_,rfl=>⟨hBp,fun e=>nomatch e⟩
    | 3,_,rfl=>⟨hBq,fun e=>nomatch e⟩
    | 4,_,rfl=>⟨hM,fun e=>nomatch e⟩
    | 5,_,rfl=>⟨hF,fun e=>nomatch e⟩
    | 6,_,rfl=>⟨hBs,fun e=>nomatch e⟩
    | _+7,_,hq=>nomatch hq)
   (fun b c hb hc hq=>match b,c,hb,hc with
    | 0,0,_,_=>rfl
    | 0,1,_,_=>absurd hq ne01
    | 0,2,_,_=>absurd hq ne02
    | 0,3,_,_=>absurd hq ne03
    | 0,4,_,_=>absurd hq ne04
    | 0,5,_,_=>absurd hq ne05
    | 0,6,_,_=>absurd hq ne06
    | 1,0,_,_=>absurd hq (Ne.symm ne01)
    | 1,1,_,_=>rfl
    | 1,2,_,_=>absurd hq ne12
    | 1,3,_,_=>absurd hq ne13
    | 1,4,_,_=>absurd hq ne14
    | 1,5,_,_=>absurd hq ne15
    | 1,6,_,_=>absurd hq ne16
    | 2,0,_,_=>absurd hq (Ne.symm ne02)
    | 2,1,_,_=>absurd hq (Ne.symm ne12)
    | 2,2,_,_=>rfl
    | 2,3,_,_=>absurd hq ne23
    | 2,4,_,_=>absurd hq ne24
    | 2,5,_,_=>absurd hq ne25
    | 2,6,_,_=>absurd hq ne26
    | 3,0,_,_=>absurd hq (Ne.symm ne03)
    | 3,1,_,_=>absurd hq (Ne.symm ne13)
    | 3,2,_,_=>absurd hq (Ne.symm ne23)
    | 3,3,_,_=>rfl
    | 3,4,_,_=>absurd hq ne34
    | 3,5,_,_=>absurd hq ne35
    | 3,6,_,_=>absurd hq ne36
    | 4,0,_,_=>absurd hq (Ne.symm ne04)
    | 4,1,_,_=>absurd hq (Ne.symm ne14)
    | 4,2,_,_=>absurd hq (Ne.symm ne24)
    | 4,3,_,_=>absurd hq (Ne.symm ne34)
    | 4,4,_,_=>rfl
    | 4,5,_,_=>absurd hq ne45
    | 4,6,_,_=>absurd hq ne46
    | 5,0,_,_=>absurd hq (Ne.symm ne05)
    | 5,1,_,_=>absurd hq (Ne.symm ne15)
    | 5,2,_,_=>absurd hq (Ne.symm ne25)
    | 5,3,_,_=>absurd hq (Ne.symm ne35)
    | 5,4,_,_=>absurd hq (Ne.symm ne45)
    | 5,5,_,_=>rfl
    | 5,6,_,_=>absurd hq ne56
    | 6,0,_,_=>absurd hq (Ne.symm ne06)
    | 6,1,_,_=>absurd hq (Ne.symm ne16)
    | 6,2,_,_=>absurd hq (Ne.symm ne26)
    | 6,3,_,_=>absurd hq (Ne.symm ne36)
    | 6,4,_,_=>absurd hq (Ne.symm ne46)
    | 6,5,_,_=>absurd hq (Ne.symm ne56)
    | 6,6,_,_=>rfl
    | _+7,_,hb,_=>absurd hb (by simp)
    | _,_+7,_,hc=>absurd hc (by simp))
   (fun jn hn=>match jn,hn with
    | 0,_=>hPp
    | 1,_=>hPq
    | 2,_=>hMz
    | 3,_=>rfl
    | 4,_=>rfl
    | 5,_=>rfl
    | _+6,hn=>absurd hn (by omega))
   (fun jn hn=>match jn,hn with
    | 0,_=>G9 rfl _ _ _ _
    | 1,_=>G9 rfl _ _ _ _
    | 2,_=>G9 rfl _ _ _ _
    | 3,_=>G9 rfl _ _ _ _
    | 4,_=>G9 rfl _ _ _ _
    | 5,_=>G9 rfl _ _ _ _
    | _+6,hn=>absurd hn (by omega))
   ⟨fun σ W g h hp hb=>toZ (bR W _ q u0 u1 u2 u3 u4 u5 u6 u7 (pt0 l x) m K (h 0 rfl) ((g.block q hql (by simp)).trans hq0) (hqm.kept g) (by omega) (eY hbd x.2) bm) rfl,
   fun σ W g h hp hb=>toZ (bR W _ q u0 u1 u2 u3 u4 u5 u6 u7 (nxt l x) m K (h 1 rfl) ((g.block q hql (by simp)).trans hq0) (hqm.kept g) (by omega) (iO hbd x.2) bm) rfl,
   fun σ W g h hp hb=>arg2 (h 6 rfl) (h 7 rfl) (toZ (qM W _ _) rfl),
   fun σ W g h hp hb=>fun ρ o ho _ hv=>⟨_,C8 _ ho ((A1 hv).1.trans (h 8 rfl)) (A1 hv).2 rfl,rfl⟩,
   fun σ W g h hp hb=>toZ (dA W _ _ _ (pt0 l x) (nxt l x) m K (h 0 rfl) (h 1 rfl) (h 2 rfl) (by omega) (eY hbd x.2) (iO hbd x.2) bm (hTab.kept g (by simp))) rfl,
   fun σ W g h hp hb=>fun ρ o ho _ hv=>⟨_,C8 _ ho ((A1 hv).1.trans (h 10 rfl)) ((A1 hv).2.trans (h 8 rfl)) rfl,rfl⟩,
   fun σ W g h hp hb=>fun ρ o ho _ hv=>⟨_,B7 ho ((A1 hv).1.trans (h 3 rfl)) ((A1 hv).2.trans (h 8 rfl)) (add_i (by omega) (by omega)),rfl⟩,
   fun σ W g h hp hb=>fun ρ o ho _ hv=>⟨_,C8 _ ho ((A1 hv).1.trans (h 10 rfl)) (A1 hv).2 rfl,rfl⟩,
   fun σ W g h hp hb=>fun ρ o ho _ hv=>⟨_,B7 ho ((A1 hv).1.trans (h 4 rfl)) ((A1 hv).2.trans (h 8 rfl)) (add_i (by omega) (by omega)),rfl⟩,
   trivial⟩
   ⟨fun σ W g h hp=>⟨_,h 9 rfl⟩,
   fun σ W g h hp=>⟨_,h 11 rfl⟩,
   fun σ W g h hp=>⟨_,h 13 rfl⟩,
   trivial⟩
   ⟨fun τ W' g hk h hp hb0 had how a' hts hdf=>by
    obtain ⟨hbx,hne⟩:=hb0
    have k0:=hbx _ (.head _)
    have k1:=hbx _ (.tail _ (.head _))
    have k4:=hbx _ (.tail _ (.tail _ (.tail _ (.tail _ (.head _)))))
    have k5:=hbx _ (.tail _ (.tail _ (.tail _ (.tail _ (.tail _ (.head _))))))
    have k6:=hbx _ (.tail _ (.tail _ (.tail _ (.tail _ (.tail _ (.tail _ (.head _)))))))
    unfold I8 at k0 k1 k4 k5 k6
    rw [had 0 (by simp)] at k0
    rw [had 1 (by simp)] at k1
    rw [had 4 (by simp)] at k4
    rw [had 5 (by simp)] at k5
    rw [had 6 (by simp)] at k6
    have e0 : τ.an 3 0=_:=h 3 rfl
    have e1 : τ.an 4 0=_:=h 4 rfl
    have e6 : τ.an 5 0=v:=h 5 rfl
    have k6':W'.heap[w.heap.size+1+1+1+1]?=some (.cells #[v] 40 (0,0)):=by rw [<- e6];exact k6
    have hz:=ahd_zero (m:=m) (of_decide_eq_true (vB' (h 9 rfl) (hp 9 0 true rfl)))
    refine ⟨hk.from _,⟨(g.block _ (hbw x) (by simp)).trans ((hw.block _ (hbw x) (by simp)).symm),k6'.trans hBs.symm⟩,g,⟨_,_,_,_,_,_,_,_,k4,h 2 rfl⟩,k5, ?_, ?_,k6'⟩
    · rw [E8,hz.1,Int.add_zero, <- e0];exact k0
    · rw [E8,hz.2,Int.add_zero, <- e1];exact k1,
   fun τ W' g hk h hp hb0 had how a' hts hdf=>by
    obtain ⟨hbx,hne⟩:=hb0
    have k0:=hbx _ (.head _)
    have k1:=hbx _ (.tail _ (.head _))
    have k4:=hbx _ (.tail _ (.tail _ (.tail _ (.tail _ (.head _)))))
    have k5:=hbx _ (.tail _ (.tail _ (.tail _ (.tail _ (.tail _ (.head _))))))
    have k6:=hbx _ (.tail _ (.tail _ (.tail _ (.tail _ (.tail _ (.tail _ (.head _)))))))
    unfold I8 at k0 k1 k4 k5 k6
    rw [had 0 (by simp)] at k0
    rw [had 1 (by simp)] at k1
    rw [had 4 (by simp)] at k4
    rw [had 5 (by simp)] at k5
    rw [had 6 (by simp)] at k6
    have e0 : τ.an 12 0=_:=h 12 rfl
    have e1 : τ.an 4 0=_:=h 4 rfl
    have e6 : τ.an 5 0=v:=h 5 rfl
    have k6':W'.heap[w.heap.size+1+1+1+1]?=some (.cells #[v] 40 (0,0)):=by rw [<- e6];exact k6
    have hz:=ahd_one (m:=m) (of_decide_eq_false (vB' (h 9 rfl) (hp 9 0 false rfl))) (of_decide_eq_true (vB' (h 11 rfl) (hp 11 0 true rfl)))
    refine ⟨hk.from _,⟨(g.block _ (hbw x) (by simp)).trans ((hw.block _ (hbw x) (by simp)).symm),k6'.trans hBs.symm⟩,g,⟨_,_,_,_,_,_,_,_,k4,h 2 rfl⟩,k5, ?_, ?_,k6'⟩
    · rw [E8,hz.1, <- e0];exact k0
    · rw [E8,hz.2,Int.add_zero, <- e1];exact k1,
   fun τ W' g hk h hp hb0 had how a' hts hdf=>by
    obtain ⟨hbx,hne⟩:=hb0
    have k0:=hbx _ (.head _)
    have k1:=hbx _ (.tail _ (.head _))
    have k4:=hbx _ (.tail _ (.tail _ (.tail _ (.tail _ (.head _)))))
    have k5:=hbx _ (.tail _ (.tail _ (.tail _ (.tail _ (.tail _ (.head _))))))
    have k6:=hbx _ (.tail _ (.tail _ (.tail _ (.tail _ (.tail _ (.tail _ (.head _)))))))
    unfold I8 at k0 k1 k4 k5 k6
    rw [had 0 (by simp)] at k0
    rw [had 1 (by simp)] at k1
    rw [had 4 (by simp)] at k4
    rw [had 5 (by simp)] at k5
    rw [had 6 (by simp)] at k6
    have e0 : τ.an 3 0=_:=h 3 rfl
    have e1 : τ.an 14 0=_:=h 14 rfl
    have e6 : τ.an 5 0=v:=h 5 rfl
    have k6':W'.heap[w.heap.size+1+1+1+1]?=some (.cells #[v] 40 (0,0)):=by rw [<- e6];exact k6
    have hz:=ahd_thr (m:=m) (of_decide_eq_false (vB' (h 11 rfl) (hp 11 0 false rfl))) (of_decide_eq_true (vB' (h 13 rfl) (hp 13 0 true rfl)))
    refine ⟨hk.from _,⟨(g.block _ (hbw x) (by simp)).trans ((hw.block _ (hbw x) (by simp)).symm),k6'.trans hBs.symm⟩,g,⟨_,_,_,_,_,_,_,_,k4,h 2 rfl⟩,k5, ?_, ?_,k6'⟩
    · rw [E8,hz.1,Int.add_zero, <- e0];exact k0
    · rw [E8,hz.2, <- e1];exact k1,
   fun τ W' g hk h hp hb0 had how a' hts hdf=>by
    obtain ⟨hbx,hne⟩:=hb0
    have k0:=hbx _ (.head _)
    have k1:=hbx _ (.tail _ (.head _))
    have k4:=hbx _ (.tail _ (.tail _ (.tail _ (.tail _ (.head _)))))
    have k5:=hbx _ (.tail _ (.tail _ (.tail _ (.tail _ (.tail _ (.head _))))))
    have k6:=hbx _ (.tail _ (.tail _ (.tail _ (.tail _ (.tail _ (.tail _ (.head _)))))))
    unfold I8 at k0 k1 k4 k5 k6
    rw [had 0 (by simp)] at k0
    rw [had 1 (by simp)] at k1
    rw [had 4 (by simp)] at k4
    rw [had 5 (by simp)] at k5
    rw [had 6 (by simp)] at k6
    have e0 : τ.an 3 0=_:=h 3 rfl
    have e1 : τ.an 4 0=_:=h 4 rfl
    have e6 : τ.an 5 0=v:=h 5 rfl
    have k6':W'.heap[w.heap.size+1+1+1+1]?=some (.cells #[v] 40 (0,0)):=by rw [<- e6];exact k6
    have hz:=ahd_none (m:=m) (of_decide_eq_false (vB' (h 11 rfl) (hp 11 0 false rfl))) (of_decide_eq_false (vB' (h 13 rfl) (hp 13 0 false rfl)))
    refine ⟨hk.from _,⟨(g.block _ (hbw x) (by simp)).trans ((hw.block _ (hbw x) (by simp)).symm),k6'.trans hBs.symm⟩,g,⟨_,_,_,_,_,_,_,_,k4,h 2 rfl⟩,k5, ?_, ?_,k6'⟩
    · rw [E8,hz.1,Int.add_zero, <- e0];exact k0
    · rw [E8,hz.2,Int.add_zero, <- e1];exact k1,
   trivial⟩
 case done=>
  intro D xs W hDB hxs hI hD
  refine hK9 _ _ ?_
  obtain ⟨hw,hM,hF,hA,hT,hBs⟩:=hI
  have ne01:w.heap.size+1+1≠w.heap.size+1+1+1:=by omega
  refine O3 (Fc.wide _ Tryd.prog) B3 (prot:=M9) [uZ (N8 (ahd (lvl m) m) l xs),uZ (N8 (thr (lvl m) m) l xs)] [] [] 41 2 [.any 0,.any 1,.any 2,.any 3,.any 4,.any 5,.v false [.ptr 0 0],.v false [.ptr 1 0],.any 8,.any 9,.any 10,.any 11,.any 12,.any 13,.any 14,.any 15,.any 16,.any 17,.any 18,.any 19,.any 20,.any 21,.any 22,.any 23,.any 24,.any 25,.any 26,.any 27,.any 28,.any 29,.any 30,.any 31,.any 32,.any 33,.any 34,.any 35,.any 36,.any 37,.any 38,.any 39,.any 40] [(3,[.an 0 0],true),(3,[.an 1 0],true)] (rs:=[]) (js:=[]) (outs:=[⟨.ret,(List.range 2),[],[.any 0,.any 1,.any 2,.any 3,.any 4,.any 5,.v false [.ptr 0 0],.v false [.ptr 1 0],.any 8,.any 9,.any 10,.any 11,.any 12,.any 13,.any 14,.any 15,.any 16,.any 17,.any 18,.any 19,.any 20,.any 21,.any 22,.any 23,.any 24,.any 25,.any 26,.any 27,.any 28,.any 29,.any 30,.any 31,.any 32,.any 33,.any 34,.any 35,.any 36,.any 37,.any 38,on 0,on 1],[(0,3,[.an 0 0]),(1,3,[.an 1 0])],[0,1]⟩]) (nc:=2) (by kernel_rfl) hw
   ⟨fun n=>match n with | 0=>D7 [.int .i64 (N8 (ahd (lvl m) m) l xs)] | 1=>D7 [.int .i64 (N8 (thr (lvl m) m) l xs)] | _=>fun _ => .bool false,fun b=>match b with | 0=>w.heap.size+1+1 | 1=>w.heap.size+1+1+1 | _=>0,fun i=>(#[v,.agg #[.slice ms0 mn0 mn0,.bool mx0,.slice ms1 mn1 mn1,.bool mx1,.slice ms2 mn2 mn2,.bool mx2,.slice ms3 mn3 mn3,.bool mx3],.func (.func 72) #[] #[.pointer (some ⟨q,0,none⟩)],undef,.pointer (some ⟨w.heap.size,0,none⟩),.pointer (some ⟨w.heap.size+1,0,none⟩),.pointer (some ⟨w.heap.size+1+1,0,none⟩),.pointer (some ⟨w.heap.size+1+1+1,0,none⟩),undef,undef,undef,v,.func (.func 68) #[] #[.pointer (some ⟨w.heap.size+1+1+1+1,0,none⟩)],undef,undef,undef,undef,undef,undef,undef,undef,undef,undef,undef,undef,undef,undef,undef,undef,undef,undef,undef,undef,undef,undef,undef,undef,undef,undef,undef,undef]:Array Value).getD i undef⟩
   (fun n c=>match n with | 0=>B4 V6 c | 1=>B4 V6 c | _+2=>rfl) rfl (fun i=>match i with | 0=>rfl | 1=>rfl | 2=>rfl | 3=>rfl | 4=>rfl | 5=>rfl | 6=>rfl | 7=>rfl | 8=>rfl | 9=>rfl | 10=>rfl | 11=>rfl | 12=>rfl | 13=>rfl | 14=>rfl | 15=>rfl | 16=>rfl | 17=>rfl | 18=>rfl | 19=>rfl | 20=>rfl | 21=>rfl | 22=>rfl | 23=>rfl | 24=>rfl | 25=>rfl | 26=>rfl | 27=>rfl | 28=>rfl | 29=>rfl | 30=>rfl | 31=>rfl | 32=>rfl | 33=>rfl | 34=>rfl | 35=>rfl | 36=>rfl | 37=>rfl | 38=>rfl | 39=>rfl | 40=>rfl | _+41=>rfl)
   (fun b q hq=>match b,q,hq with
    | 0,_,rfl=>⟨hA,fun _=>(by omega:w.heap.size<=w.heap.size+1+1)⟩
    | 1,_,rfl=>⟨hT,fun _=>(by omega:w.heap.size<=w.heap.size+1+1+1)⟩
    | _+2,_,hq=>nomatch hq)
   (fun b c hb hc hq=>match b,c,hb,hc with
    | 0,0,_,_=>rfl
    | 0,1,_,_=>absurd hq ne01
    | 1,0,_,_=>absurd hq (Ne.symm ne01)
    | 1,1,_,_=>rfl
    | _+2,_,hb,_=>absurd hb (by simp)
    | _,_+2,_,hc=>absurd hc (by simp))
   (fun jn hn=>match jn,hn with
    | 0,_=>rfl
    | 1,_=>rfl
    | _+2,hn=>absurd hn (by omega))
   (fun jn hn=>match jn,hn with
    | 0,_=>G9 rfl _ _ _ _
    | 1,_=>G9 rfl _ _ _ _
    | _+2,hn=>absurd hn (by omega))
   trivial
   trivial
   ⟨fun τ W' g hk h hp hb0 had how a' hts hdf=>by
    obtain ⟨hbx,hne⟩:=hb0
    have k0:=hbx _ (.head _)
    have k1:=hbx _ (.tail _ (.head _))
    unfold I8 at k0 k1
    rw [had 0 (by simp)] at k0
    rw [had 1 (by simp)] at k1
    have e0 : τ.an 0 0=_:=h 0 rfl
    have e1 : τ.an 1 0=_:=h 1 rfl
    have hD':=hk.same D _ hD rfl
    have hfar:M7 W0.heap.size W' (some D):=fun r e=>by cases e;exact ⟨hDB,_,hD',rfl⟩
    have hpo:=grownBy_putObj' W' D (.deferred none)
    have k0':=B6 hpo hfar k0
    have k1':=B6 hpo hfar k1
    show LeavesInM _ _ _ _ _ _ _ _ _
    rw [hdf]
    refine ⟨by simp,.inl ⟨_,_,rfl,run_takeDeferred hD', ?_⟩⟩
    refine ⟨_,eS rfl ?_ ?_ k0' k1' (by kernel_rfl) (by kernel_rfl), ?_,K9 (by omega) g hpo hfar⟩
    · rw [hts 6];show Value.pointer (some ⟨τ.ad 0,0,none⟩)=_;rw [had 0 (by simp)]
    · rw [hts 7];show Value.pointer (some ⟨τ.ad 1,0,none⟩)=_;rw [had 1 (by simp)]
    · show Ending.returned (.tuple #[τ.an 0 0, τ.an 1 0])=_;rw [e0,e1,eI _ l xs hxs,eI _ l xs hxs],
   trivial⟩
 case stop=>
  rintro D c pre W _ _ h _
  exact h.elim
set_option maxHeartbeats 4000000 in
theorem WCrossU_any (w:World) (v:Value) (q:Nat) (m0 m1 m2 m3 m4 m5 m6 m7 u0 u1 u2 u3 u4 u5 u6 u7:Value) (l:List Pq) (m:Pq) (K:Nat) (Hv:PtsV w v l) (hMm:PtV w (.agg #[m0,m1,m2,m3,m4,m5,m6,m7]) m) (hq0:w.heap[q]?=some (.cells #[u0,u1,u2,u3,u4,u5,u6,u7] 33 (0,0))) (hqm:PtV w (.agg #[u0,u1,u2,u3,u4,u5,u6,u7]) m)
 (hK:K<=10000) (hn:l.length<=200) (hbd:∀ p ∈ l,Bp K p) (bm:Bp K m) (hTab:Tab w) (hv:v.oneCell'=true):Calls Tryd.prog 40 #[v,.agg #[m0,m1,m2,m3,m4,m5,m6,m7],.func (.func 112) #[] #[.pointer (some ⟨q,0,none⟩)]] w (fun e w'=>e = .returned (.tuple #[.int .i64 (cyL (ahd (upr m) m) l),.int .i64 (cyL (thr (upr m) m) l)])/\w.grownBy w' none):=by
 have hql:q<w.heap.size:=(Array.getElem?_eq_some_iff.1 hq0).1
 obtain ⟨ms0,mn0,mx0,ms1,mn1,mx1,ms2,mn2,mx2,ms3,mn3,mx3,hme⟩:=hMm.shape
 obtain ⟨rfl,rfl,rfl,rfl,rfl,rfl,rfl,rfl⟩:m0=_/\m1=_/\m2=_/\m3=_/\m4=_/\m5=_/\m6=_/\m7=_:=by
  have:=Value.agg.inj hme;simpa using this
 clear hme
 refine (callsIn_wide (n:=4)).1 ?_
 refine callsIn_of_wp_marks Tryd.func40 rfl trivial ?_ rfl
 simp only [Tryd.ntmps40,List.size_toArray,List.length_cons,List.length_nil,Nat.reduceAdd,Nat.reduceSub,Array.replicate_succ,Array.replicate_zero,List.push_toArray,List.append_toArray,List.nil_append,List.cons_append]
 gi_wp2_with (refine ⟨trivial, ?_⟩;gi_at_call 38;refine (iD 3 v _ hv).mono ?_;rintro e w' ⟨rfl,rfl⟩)
 rename_i hK9
 have a0:=World.grownBy_alloc w (.cells #[.slice ms0 mn0 mn0,.bool mx0,.slice ms1 mn1 mn1,.bool mx1,.slice ms2 mn2 mn2,.bool mx2,.slice ms3 mn3 mn3,.bool mx3] 33) none
 have a1:=World.grownBy_alloc (w.alloc (.cells #[.slice ms0 mn0 mn0,.bool mx0,.slice ms1 mn1 mn1,.bool mx1,.slice ms2 mn2 mn2,.bool mx2,.slice ms3 mn3 mn3,.bool mx3] 33)) (.cells #[.func (.func 112) #[] #[.pointer (some ⟨q,0,none⟩)]] 87) none
 have a2:=World.grownBy_alloc ((w.alloc (.cells #[.slice ms0 mn0 mn0,.bool mx0,.slice ms1 mn1 mn1,.bool mx1,.slice ms2 mn2 mn2,.bool mx2,.slice ms3 mn3 mn3,.bool mx3] 33)).alloc (.cells #[.func (.func 112) #[] #[.pointer (some ⟨q,0,none⟩)]] 87)) (.cells #[.int .i64 0] 3) none
 have a3:=World.grownBy_alloc (((w.alloc (.cells #[.slice ms0 mn0 mn0,.bool mx0,.slice ms1 mn1 mn1,.bool mx1,.slice ms2 mn2 mn2,.bool mx2,.slice ms3 mn3 mn3,.bool mx3] 33)).alloc (.cells #[.func (.func 112) #[] #[.pointer (some ⟨q,0,none⟩)]] 87)).alloc (.cells #[.int .i64 0] 3)) (.cells #[.int .i64 0] 3) none
 have a4:=World.grownBy_alloc ((((w.alloc (.cells #[.slice ms0 mn0 mn0,.bool mx0,.slice ms1 mn1 mn1,.bool mx1,.slice ms2 mn2 mn2,.bool mx2,.slice ms3 mn3 mn3,.bool mx3] 33)).alloc (.cells #[.func (.func 112) #[] #[.pointer (some ⟨q,0,none⟩)]] 87)).alloc (.cells #[.int .i64 0] 3)).alloc (.cells #[.int .i64 0] 3)) (.cells #[v] 40) none
 have r0:=A5 a4 (A5 a3 (A5 a2 (A5 a1 (A9 w (.cells #[.slice ms0 mn0 mn0,.bool mx0,.slice ms1 mn1 mn1,.bool mx1,.slice ms2 mn2 mn2,.bool mx2,.slice ms3 mn3 mn3,.bool mx3] 33) (w.heap.size) rfl))))
 have r1:=A5 a4 (A5 a3 (A5 a2 (A9 (w.alloc (.cells #[.slice ms0 mn0 mn0,.bool mx0,.slice ms1 mn1 mn1,.bool mx1,.slice ms2 mn2 mn2,.bool mx2,.slice ms3 mn3 mn3,.bool mx3] 33)) (.cells #[.func (.func 112) #[] #[.pointer (some ⟨q,0,none⟩)]] 87) (w.heap.size+1) (by simp))))
 have r2:=A5 a4 (A5 a3 (A9 ((w.alloc (.cells #[.slice ms0 mn0 mn0,.bool mx0,.slice ms1 mn1 mn1,.bool mx1,.slice ms2 mn2 mn2,.bool mx2,.slice ms3 mn3 mn3,.bool mx3] 33)).alloc (.cells #[.func (.func 112) #[] #[.pointer (some ⟨q,0,none⟩)]] 87)) (.cells #[.int .i64 0] 3) (w.heap.size+1+1) (by simp)))
 have r3:=A5 a4 (A9 (((w.alloc (.cells #[.slice ms0 mn0 mn0,.bool mx0,.slice ms1 mn1 mn1,.bool mx1,.slice ms2 mn2 mn2,.bool mx2,.slice ms3 mn3 mn3,.bool mx3] 33)).alloc (.cells #[.func (.func 112) #[] #[.pointer (some ⟨q,0,none⟩)]] 87)).alloc (.cells #[.int .i64 0] 3)) (.cells #[.int .i64 0] 3) (w.heap.size+1+1+1) (by simp))
 have r4:=A9 ((((w.alloc (.cells #[.slice ms0 mn0 mn0,.bool mx0,.slice ms1 mn1 mn1,.bool mx1,.slice ms2 mn2 mn2,.bool mx2,.slice ms3 mn3 mn3,.bool mx3] 33)).alloc (.cells #[.func (.func 112) #[] #[.pointer (some ⟨q,0,none⟩)]] 87)).alloc (.cells #[.int .i64 0] 3)).alloc (.cells #[.int .i64 0] 3)) (.cells #[v] 40) (w.heap.size+1+1+1+1) (by simp)
 have g0:=A4 (A4 (A4 (A4 a0 a1) a2) a3) a4
 have e1:(((((w.alloc (.cells #[.slice ms0 mn0 mn0,.bool mx0,.slice ms1 mn1 mn1,.bool mx1,.slice ms2 mn2 mn2,.bool mx2,.slice ms3 mn3 mn3,.bool mx3] 33)).alloc (.cells #[.func (.func 112) #[] #[.pointer (some ⟨q,0,none⟩)]] 87)).alloc (.cells #[.int .i64 0] 3)).alloc (.cells #[.int .i64 0] 3)).alloc (.cells #[v] 40)).heap.size=w.heap.size+5:=by simp
 clear a0 a1 a2 a3 a4
 generalize (((((w.alloc (.cells #[.slice ms0 mn0 mn0,.bool mx0,.slice ms1 mn1 mn1,.bool mx1,.slice ms2 mn2 mn2,.bool mx2,.slice ms3 mn3 mn3,.bool mx3] 33)).alloc (.cells #[.func (.func 112) #[] #[.pointer (some ⟨q,0,none⟩)]] 87)).alloc (.cells #[.int .i64 0] 3)).alloc (.cells #[.int .i64 0] 3)).alloc (.cells #[v] 40))=W0 at *
 obtain ⟨b,encs,hb0,hsz,hen,hbw, -,hstop⟩:=aJ 3 (by omega) (w.heap.size+1+1+1+1) w W0 g0 v l r4 Hv (by omega)
 refine wpIn_rangeFunc_ownH rfl (by omega) (gf:=68) (lb := #[.pointer (some ⟨w.heap.size+1+1+1+1,0,none⟩)]) rfl trivial (enters_of Tryd.func68 (by kernel_rfl) rfl) hstop kpR_t (kpR_b hb0 (by omega)) (Below.refl _ _) (fun x=>hsz x)
  (fun pre W=>CrUI w q v m l pre W) (fun _ _ _=>False)
  (fun s X Y row hs hg hr=>hs.soft (B:=W0.heap.size) (by omega) hg hr) (fun _ _ _ _ _ hs _ _=>hs) ⟨g0,⟨_,_,_,_,_,_,_,_,r0,hMm.kept g0⟩,r1,r2,r3,r4⟩
  (fun x a' W=>∃ (Bx:Nat) (p0 p1 p2 p3 p4 p5 p6 p7 q0 q1 q2 q3 q4 q5 q6 q7:Value),W0.heap.size<=Bx/\PQs W Bx [p0,p1,p2,p3,p4,p5,p6,p7] [q0,q1,q2,q3,q4,q5,q6,q7] (pt0 l x) (nxt l x)/\a' = { tmps := #[v,.agg #[.slice ms0 mn0 mn0,.bool mx0,.slice ms1 mn1 mn1,.bool mx1,.slice ms2 mn2 mn2,.bool mx2,.slice ms3 mn3 mn3,.bool mx3],.func (.func 112) #[] #[.pointer (some ⟨q,0,none⟩)],undef,.pointer (some ⟨w.heap.size,0,none⟩),.pointer (some ⟨w.heap.size+1,0,none⟩),.pointer (some ⟨w.heap.size+1+1,0,none⟩),.pointer (some ⟨w.heap.size+1+1+1,0,none⟩),.pointer (some ⟨Bx,0,none⟩),.pointer (some ⟨Bx+1,0,none⟩),undef,v,.func (.func 68) #[] #[.pointer (some ⟨w.heap.size+1+1+1+1,0,none⟩)],.agg #[p0,p1,p2,p3,p4,p5,p6,p7],.agg #[q0,q1,q2,q3,q4,q5,q6,q7],undef,undef,undef,undef,undef,undef,undef,undef,undef,undef,undef,undef,undef,undef,undef,undef,undef,undef,undef,undef,undef,undef,undef,undef,undef,undef],defers:=[] })
  (fun x a' _ X Y row hs hg hr=>by obtain ⟨Bx,p0,p1,p2,p3,p4,p5,p6,p7,q0,q1,q2,q3,q4,q5,q6,q7,h1,h2,h3⟩:=hs;exact ⟨Bx,p0,p1,p2,p3,p4,p5,p6,p7,q0,q1,q2,q3,q4,q5,q6,q7,h1,h2.soft (B:=W0.heap.size) hg hr,h3⟩)
  ?assign ?body ?done ?stop
 case assign=>
  intro lr pre x W K' hI hKK
  obtain ⟨p,q',he,hp,hq⟩:=hen x
  rw [he]
  have hp:=hp.kept hI.1
  have hq:=hq.kept hI.1
  obtain ⟨s0,n0,x0,s1,n1,x1,s2,n2,x2,s3,n3,x3,rfl⟩:=hp.shape
  obtain ⟨s4,n4,x4,s5,n5,x5,s6,n6,x6,s7,n7,x7,rfl⟩:=hq.shape
  have hbl:=hI.1.size
  have hBl:=(Array.getElem?_eq_some_iff.1 hI.2.2.2.2.2).1
  have c1:=World.grownBy_alloc W (.cells #[.slice s0 n0 n0,.bool x0,.slice s1 n1 n1,.bool x1,.slice s2 n2 n2,.bool x2,.slice s3 n3 n3,.bool x3] 33) none
  have c2:=World.grownBy_alloc (W.alloc (.cells #[.slice s0 n0 n0,.bool x0,.slice s1 n1 n1,.bool x1,.slice s2 n2 n2,.bool x2,.slice s3 n3 n3,.bool x3] 33)) (.cells #[.slice s4 n4 n4,.bool x4,.slice s5 n5 n5,.bool x5,.slice s6 n6 n6,.bool x6,.slice s7 n7 n7,.bool x7] 33) none
  gi_wp2
  refine hKK _ _ (((KeepsOthers.alloc _ _).trans (KeepsOthers.alloc _ _)).from _) ⟨(A4 c1 c2).block _ (by have:=hbw x;omega) (by simp),(A4 c1 c2).block _ hBl (by simp)⟩ (hI.soft (B:=w.heap.size) (Nat.le_refl _) (A4 c1 c2) (fK _ _))
   ⟨W.heap.size,_,_,_,_,_,_,_,_,_,_,_,_,_,_,_,_, ?_,⟨A5 c2 (A9 W _ _ rfl),A9 _ _ _ (by simp),hp.kept (A4 c1 c2),hq.kept (A4 c1 c2)⟩,rfl⟩
  omega
 case body=>
  rintro lr pre x a' W hl'-hI ⟨Bx,p0,p1,p2,p3,p4,p5,p6,p7,q0,q1,q2,q3,q4,q5,q6,q7,hBx,⟨hBp,hBq,hPp,hPq⟩,rfl⟩ hlt
  obtain ⟨hw,⟨z0,z1,z2,z3,z4,z5,z6,z7,hM,hMz⟩,hF,hA,hT,hBs⟩:=hI
  have sa:=kO (ahd_b (upr m) m) l _ pre rfl
  have st:=kO (thr_b (upr m) m) l _ pre rfl
  have sp:=rG (upr m (pt0 l x)) (upr m (nxt l x))
  have ne01:w.heap.size+1+1≠w.heap.size+1+1+1:=by omega
  have ne02:w.heap.size+1+1≠Bx:=by omega
  have ne03:w.heap.size+1+1≠Bx+1:=by omega
  have ne04:w.heap.size+1+1≠w.heap.size:=by omega
  have ne05:w.heap.size+1+1≠w.heap.size+1:=by omega
  have ne06:w.heap.size+1+1≠w.heap.size+1+1+1+1:=by omega
  have ne12:w.heap.size+1+1+1≠Bx:=by omega
  have ne13:w.heap.size+1+1+1≠Bx+1:=by omega
  have ne14:w.heap.size+1+1+1≠w.heap.size:=by omega
  have ne15:w.heap.size+1+1+1≠w.heap.size+1:=by omega
  have ne16:w.heap.size+1+1+1≠w.heap.size+1+1+1+1:=by omega
  have ne23:Bx≠Bx+1:=by omega
  have ne24:Bx≠w.heap.size:=by omega
  have ne25:Bx≠w.heap.size+1:=by omega
  have ne26:Bx≠w.heap.size+1+1+1+1:=by omega
  have ne34:Bx+1≠w.heap.size:=by omega
  have ne35:Bx+1≠w.heap.size+1:=by omega
  have ne36:Bx+1≠w.heap.size+1+1+1+1:=by omega
  have ne45:w.heap.size≠w.heap.size+1:=by omega
  have ne46:w.heap.size≠w.heap.size+1+1+1+1:=by omega
  have ne56:w.heap.size+1≠w.heap.size+1+1+1+1:=by omega
  refine O3 (Fc.round lr _ Tryd.prog) B3 (prot:=M9) [uPt (pt0 l x),uPt (nxt l x),uPt m,uZ (N8 (ahd (upr m) m) l pre),uZ (N8 (thr (upr m) m) l pre),uX v hv,uZ (upr m (pt0 l x)),uZ (upr m (nxt l x)),uZ (pass (upr m (pt0 l x)) (upr m (nxt l x))),uB (decide (pass (upr m (pt0 l x)) (upr m (nxt l x))=0)),uZ (rsg (A3 (pt0 l x) (nxt l x) m)),uB (decide (rsg (A3 (pt0 l x) (nxt l x) m)=pass (upr m (pt0 l x)) (upr m (nxt l x)))),uZ (N8 (ahd (upr m) m) l pre+pass (upr m (pt0 l x)) (upr m (nxt l x))),uB (decide (rsg (A3 (pt0 l x) (nxt l x) m)=0)),uZ (N8 (thr (upr m) m) l pre+pass (upr m (pt0 l x)) (upr m (nxt l x)))] [] [] 41 6 [.any 0,.any 1,.any 2,.any 3,.v false [.ptr 4 0],.v false [.ptr 5 0],.v false [.ptr 0 0],.v false [.ptr 1 0],.v false [.ptr 2 0],.v false [.ptr 3 0],.any 10,.any 11,.any 12,.any 13,.any 14,.any 15,.any 16,.any 17,.any 18,.any 19,.any 20,.any 21,.any 22,.any 23,.any 24,.any 25,.any 26,.any 27,.any 28,.any 29,.any 30,.any 31,.any 32,.any 33,.any 34,.any 35,.any 36,.any 37,.any 38,.any 39,.any 40] [(3,[.an 3 0],true),(3,[.an 4 0],true),(33,[.an 0 0,.an 0 1,.an 0 2,.an 0 3,.an 0 4,.an 0 5,.an 0 6,.an 0 7],false),(33,[.an 1 0,.an 1 1,.an 1 2,.an 1 3,.an 1 4,.an 1 5,.an 1 6,.an 1 7],false),(33,[.an 2 0,.an 2 1,.an 2 2,.an 2 3,.an 2 4,.an 2 5,.an 2 6,.an 2 7],false),(87,[.lit (.func (.func 112) #[] #[.pointer (some ⟨q,0,none⟩)])],false),(40,[.an 5 0],false)] (rs:=[(cl 6 112 [ag 8 0,.v false [.lit (.pointer (some ⟨q,0,none⟩))]],[]),(cl 7 112 [ag 8 1,.v false [.lit (.pointer (some ⟨q,0,none⟩))]],[]),(cl 8 71 [on 6,on 7],[]),(co 9 (.binOp .eql 3 (.tmp 22) (.const (.int .i64 0)) 3) 4 [on 8,.v false [.lit (.int .i64 0)]] [0,1,2,3,4,5,6,7,8] [],[]),(cl 10 70 [ag 8 0,ag 8 1,ag 8 2],[(9,0,false)]),(co 11 (.binOp .eql 3 (.tmp 27) (.tmp 29) 3) 4 [on 10,on 8] [0,1,2,3,4,5,6,7,8,9,10] [],[(9,0,false)]),(co 12 (.binOp .add 3 (.tmp 31) (.tmp 32) 3) 3 [on 3,on 8] [0,1,2,3,4,5,6,7,8,9,10,11] [],[(11,0,true),(9,0,false)]),(co 13 (.binOp .eql 3 (.tmp 27) (.const (.int .i64 0)) 3) 4 [on 10,.v false [.lit (.int .i64 0)]] [0,1,2,3,4,5,6,7,8,9,10,11] [],[(11,0,false),(9,0,false)]),(co 14 (.binOp .add 3 (.tmp 36) (.tmp 37) 3) 3 [on 4,on 8] [0,1,2,3,4,5,6,7,8,9,10,11,13] [],[(13,0,true),(11,0,false),(9,0,false)])]) (js:=[.test 9 0 (List.range 10) [],.test 11 0 (List.range 12) [(9,0,false)],.test 13 0 [0,1,2,3,4,5,6,7,8,9,10,11,13] [(11,0,false),(9,0,false)]]) (outs:=[⟨.normal,(List.range 10),[(9,0,true)],[.any 0,.any 1,.any 2,.any 3,.v false [.ptr 4 0],.v false [.ptr 5 0],.v false [.ptr 0 0],.v false [.ptr 1 0],.v false [.ptr 2 0],.v false [.ptr 3 0],on 8,.any 11,.any 12,.any 13,.any 14,.v false [.lit (.func (.func 112) #[] #[.pointer (some ⟨q,0,none⟩)])],ag 8 0,on 6,.v false [.lit (.func (.func 112) #[] #[.pointer (some ⟨q,0,none⟩)])],ag 8 1,on 7,on 8,on 8,on 9,.any 24,.any 25,.any 26,.any 27,.any 28,.any 29,.any 30,.any 31,.any 32,.any 33,.any 34,.any 35,.any 36,.any 37,.any 38,.any 39,.any 40],[(0,3,[.an 3 0]),(1,3,[.an 4 0]),(2,33,[.an 0 0,.an 0 1,.an 0 2,.an 0 3,.an 0 4,.an 0 5,.an 0 6,.an 0 7]),(3,33,[.an 1 0,.an 1 1,.an 1 2,.an 1 3,.an 1 4,.an 1 5,.an 1 6,.an 1 7]),(4,33,[.an 2 0,.an 2 1,.an 2 2,.an 2 3,.an 2 4,.an 2 5,.an 2 6,.an 2 7]),(5,87,[.lit (.func (.func 112) #[] #[.pointer (some ⟨q,0,none⟩)])]),(6,40,[.an 5 0])],[0,1]⟩,⟨.normal,(List.range 13),[(11,0,true),(9,0,false)],[.any 0,.any 1,.any 2,.any 3,.v false [.ptr 4 0],.v false [.ptr 5 0],.v false [.ptr 0 0],.v false [.ptr 1 0],.v false [.ptr 2 0],.v false [.ptr 3 0],on 8,.any 11,.any 12,.any 13,.any 14,.v false [.lit (.func (.func 112) #[] #[.pointer (some ⟨q,0,none⟩)])],ag 8 0,on 6,.v false [.lit (.func (.func 112) #[] #[.pointer (some ⟨q,0,none⟩)])],ag 8 1,on 7,on 8,on 8,on 9,ag 8 0,ag 8 1,ag 8 2,on 10,on 11,on 8,on 11,on 3,on 8,on 12,.any 34,.any 35,.any 36,.any 37,.any 38,.any 39,.any 40],[(0,3,[.an 12 0]),(1,3,[.an 4 0]),(2,33,[.an 0 0,.an 0 1,.an 0 2,.an 0 3,.an 0 4,.an 0 5,.an 0 6,.an 0 7]),(3,33,[.an 1 0,.an 1 1,.an 1 2,.an 1 3,.an 1 4,.an 1 5,.an 1 6,.an 1 7]),(4,33,[.an 2 0,.an 2 1,.an 2 2,.an 2 3,.an 2 4,.an 2 5,.an 2 6,.an 2 7]),(5,87,[.lit (.func (.func 112) #[] #[.pointer (some ⟨q,0,none⟩)])]),(6,40,[.an 5 0])],[0,1]⟩,⟨.normal,[0,1,2,3,4,5,6,7,8,9,10,11,13,14],[(13,0,true),(11,0,false),(9,0,false)],[.any 0,.any 1,.any 2,.any 3,.v false [.ptr 4 0],.v false [.ptr 5 0],.v false [.ptr 0 0],.v false [.ptr 1 0],.v false [.ptr 2 0],.v false [.ptr 3 0],on 8,.any 11,.any 12,.any 13,.any 14,.v false [.lit (.func (.func 112) #[] #[.pointer (some ⟨q,0,none⟩)])],ag 8 0,on 6,.v false [.lit (.func (.func 112) #[] #[.pointer (some ⟨q,0,none⟩)])],ag 8 1,on 7,on 8,on 8,on 9,ag 8 0,ag 8 1,ag 8 2,on 10,on 11,on 8,on 11,.any 31,.any 32,.any 33,on 13,on 13,on 4,on 8,on 14,.any 39,.any 40],[(0,3,[.an 3 0]),(1,3,[.an 14 0]),(2,33,[.an 0 0,.an 0 1,.an 0 2,.an 0 3,.an 0 4,.an 0 5,.an 0 6,.an 0 7]),(3,33,[.an 1 0,.an 1 1,.an 1 2,.an 1 3,.an 1 4,.an 1 5,.an 1 6,.an 1 7]),(4,33,[.an 2 0,.an 2 1,.an 2 2,.an 2 3,.an 2 4,.an 2 5,.an 2 6,.an 2 7]),(5,87,[.lit (.func (.func 112) #[] #[.pointer (some ⟨q,0,none⟩)])]),(6,40,[.an 5 0])],[0,1]⟩,⟨.normal,[0,1,2,3,4,5,6,7,8,9,10,11,13],[(13,0,false),(11,0,false),(9,0,false)],[.any 0,.any 1,.any 2,.any 3,.v false [.ptr 4 0],.v false [.ptr 5 0],.v false [.ptr 0 0],.v false [.ptr 1 0],.v false [.ptr 2 0],.v false [.ptr 3 0],on 8,.any 11,.any 12,.any 13,.any 14,.v false [.lit (.func (.func 112) #[] #[.pointer (some ⟨q,0,none⟩)])],ag 8 0,on 6,.v false [.lit (.func (.func 112) #[] #[.pointer (some ⟨q,0,none⟩)])],ag 8 1,on 7,on 8,on 8,on 9,ag 8 0,ag 8 1,ag 8 2,on 10,on 11,on 8,on 11,.any 31,.any 32,.any 33,on 13,on 13,.any 36,.any 37,.any 38,.any 39,.any 40],[(0,3,[.an 3 0]),(1,3,[.an 4 0]),(2,33,[.an 0 0,.an 0 1,.an 0 2,.an 0 3,.an 0 4,.an 0 5,.an 0 6,.an 0 7]),(3,33,[.an 1 0,.an 1 1,.an 1 2,.an 1 3,.an 1 4,.an 1 5,.an 1 6,.an 1 7]),(4,33,[.an 2 0,.an 2 1,.an 2 2,.an 2 3,.an 2 4,.an 2 5,.an 2 6,.an 2 7]),(5,87,[.lit (.func (.func 112) #[] #[.pointer (some ⟨q,0,none⟩)])]),(6,40,[.an 5 0])],[0,1]⟩]) (nc:=15) (by kernel_rfl) hw
   ⟨fun n=>match n with | 0=>D7 [p0,p1,p2,p3,p4,p5,p6,p7] | 1=>D7 [q0,q1,q2,q3,q4,q5,q6,q7] | 2=>D7 [z0,z1,z2,z3,z4,z5,z6,z7] | 3=>D7 [.int .i64 (N8 (ahd (upr m) m) l pre)] | 4=>D7 [.int .i64 (N8 (thr (upr m) m) l pre)] | 5=>D7 [v] | _=>fun _ => .bool false,fun b=>match b with | 0=>w.heap.size+1+1 | 1=>w.heap.size+1+1+1 | 2=>Bx | 3=>Bx+1 | 4=>w.heap.size | 5=>w.heap.size+1 | 6=>w.heap.size+1+1+1+1 | _=>0,fun i=>(#[v,.agg #[.slice ms0 mn0 mn0,.bool mx0,.slice ms1 mn1 mn1,.bool mx1,.slice ms2 mn2 mn2,.bool mx2,.slice ms3 mn3 mn3,.bool mx3],.func (.func 112) #[] #[.pointer (some ⟨q,0,none⟩)],undef,.pointer (some ⟨w.heap.size,0,none⟩),.pointer (some ⟨w.heap.size+1,0,none⟩),.pointer (some ⟨w.heap.size+1+1,0,none⟩),.pointer (some ⟨w.heap.size+1+1+1,0,none⟩),.pointer (some ⟨Bx,0,none⟩),.pointer (some ⟨Bx+1,0,none⟩),undef,v,.func (.func 68) #[] #[.pointer (some ⟨w.heap.size+1+1+1+1,0,none⟩)],.agg #[p0,p1,p2,p3,p4,p5,p6,p7],.agg #[q0,q1,q2,q3,q4,q5,q6,q7],undef,undef,undef,undef,undef,undef,undef,undef,undef,undef,undef,undef,undef,undef,undef,undef,undef,undef,undef,undef,undef,undef,undef,undef,undef,undef]:Array Value).getD i undef⟩
   (fun n c=>match n with | 0=>B4 hPp.one c | 1=>B4 hPq.one c | 2=>B4 hMz.one c | 3=>B4 V6 c | 4=>B4 V6 c | 5=>B4 (by simp [hv]) c | _+6=>rfl) rfl (fun i=>match i with | 0=>rfl | 1=>rfl | 2=>rfl | 3=>rfl | 4=>rfl | 5=>rfl | 6=>rfl | 7=>rfl | 8=>rfl | 9=>rfl | 10=>rfl | 11=>rfl | 12=>rfl | 13=>rfl | 14=>rfl | 15=>rfl | 16=>rfl | 17=>rfl | 18=>rfl | 19=>rfl | 20=>rfl | 21=>rfl | 22=>rfl | 23=>rfl | 24=>rfl | 25=>rfl | 26=>rfl | 27=>rfl | 28=>rfl | 29=>rfl | 30=>rfl | 31=>rfl | 32=>rfl | 33=>rfl | 34=>rfl | 35=>rfl | 36=>rfl | 37=>rfl | 38=>rfl | 39=>rfl | 40=>rfl | _+41=>rfl)
   (fun b q hq=>match b,q,hq with
    | 0,_,rfl=>⟨hA,fun _=>(by omega:w.heap.size<=w.heap.size+1+1)⟩
    | 1,_,rfl=>⟨hT,fun _=>(by omega:w.heap.size<=w.heap.size+1+1+1)⟩
    | 2,_,rfl=>⟨hBp,fun e=>nomatch e⟩
    | 3,_,rfl=>⟨hBq,fun e=>nomatch e⟩
    | 4,_,rfl=>⟨hM,fun e=>nomatch e⟩
    | 5,_,rfl=>⟨hF,fun e=>nomatch e⟩
    | 6,_,rfl=>⟨hBs,fun e=>nomatch e⟩
    | _+7,_,hq=>nomatch hq)
   (fun b c hb hc hq=>match b,c,hb,hc with
    | 0,0,_,_=>rfl
    | 0,1,_,_=>absurd hq ne01
    | 0,2,_,_=>absurd hq ne02
    | 0,3,_,_=>absurd hq ne03
    | 0,4,_,_=>absurd hq ne04
    | 0,5,_,_=>absurd hq ne05
    | 0,6,_,_=>absurd hq ne06
    | 1,0,_,_=>absurd hq (Ne.symm ne01)
    | 1,1,_,_=>rfl
    | 1,2,_,_=>absurd hq ne12
    | 1,3,_,_=>absurd hq ne13
    | 1,4,_,_=>absurd hq ne14
    | 1,5,_,_=>absurd hq ne15
    | 1,6,_,_=>absurd hq ne16
    | 2,0,_,_=>absurd hq (Ne.symm ne02)
    | 2,1,_,_=>absurd hq (Ne.symm ne12)
    | 2,2,_,_=>rfl
    | 2,3,_,_=>absurd hq ne23
    | 2,4,_,_=>absurd hq ne24
    | 2,5,_,_=>absurd hq ne25
    | 2,6,_,_=>absurd hq ne26
    | 3,0,_,_=>absurd hq (Ne.symm ne03)
    | 3,1,_,_=>absurd hq (Ne.symm ne13)
    | 3,2,_,_=>absurd hq (Ne.symm ne23)
    | 3,3,_,_=>rfl
    | 3,4,_,_=>absurd hq ne34
    | 3,5,_,_=>absurd hq ne35
    | 3,6,_,_=>absurd hq ne36
    | 4,0,_,_=>absurd hq (Ne.symm ne04)
    | 4,1,_,_=>absurd hq (Ne.symm ne14)
    | 4,2,_,_=>absurd hq (Ne.symm ne24)
    | 4,3,_,_=>absurd hq (Ne.symm ne34)
    | 4,4,_,_=>rfl
    | 4,5,_,_=>absurd hq ne45
    | 4,6,_,_=>absurd hq ne46
    | 5,0,_,_=>absurd hq (Ne.symm ne05)
    | 5,1,_,_=>absurd hq (Ne.symm ne15)
    | 5,2,_,_=>absurd hq (Ne.symm ne25)
    | 5,3,_,_=>absurd hq (Ne.symm ne35)
    | 5,4,_,_=>absurd hq (Ne.symm ne45)
    | 5,5,_,_=>rfl
    | 5,6,_,_=>absurd hq ne56
    | 6,0,_,_=>absurd hq (Ne.symm ne06)
    | 6,1,_,_=>absurd hq (Ne.symm ne16)
    | 6,2,_,_=>absurd hq (Ne.symm ne26)
    | 6,3,_,_=>absurd hq (Ne.symm ne36)
    | 6,4,_,_=>absurd hq (Ne.symm ne46)
    | 6,5,_,_=>absurd hq (Ne.symm ne56)
    | 6,6,_,_=>rfl
    | _+7,_,hb,_=>absurd hb (by simp)
    | _,_+7,_,hc=>absurd hc (by simp))
   (fun jn hn=>match jn,hn with
    | 0,_=>hPp
    | 1,_=>hPq
    | 2,_=>hMz
    | 3,_=>rfl
    | 4,_=>rfl
    | 5,_=>rfl
    | _+6,hn=>absurd hn (by omega))
   (fun jn hn=>match jn,hn with
    | 0,_=>G9 rfl _ _ _ _
    | 1,_=>G9 rfl _ _ _ _
    | 2,_=>G9 rfl _ _ _ _
    | 3,_=>G9 rfl _ _ _ _
    | 4,_=>G9 rfl _ _ _ _
    | 5,_=>G9 rfl _ _ _ _
    | _+6,hn=>absurd hn (by omega))
   ⟨fun σ W g h hp hb=>toZ (W8 W _ q u0 u1 u2 u3 u4 u5 u6 u7 (pt0 l x) m K (h 0 rfl) ((g.block q hql (by simp)).trans hq0) (hqm.kept g) (by omega) (eY hbd x.2) bm) rfl,
   fun σ W g h hp hb=>toZ (W8 W _ q u0 u1 u2 u3 u4 u5 u6 u7 (nxt l x) m K (h 1 rfl) ((g.block q hql (by simp)).trans hq0) (hqm.kept g) (by omega) (iO hbd x.2) bm) rfl,
   fun σ W g h hp hb=>arg2 (h 6 rfl) (h 7 rfl) (toZ (qM W _ _) rfl),
   fun σ W g h hp hb=>fun ρ o ho _ hv=>⟨_,C8 _ ho ((A1 hv).1.trans (h 8 rfl)) (A1 hv).2 rfl,rfl⟩,
   fun σ W g h hp hb=>toZ (dA W _ _ _ (pt0 l x) (nxt l x) m K (h 0 rfl) (h 1 rfl) (h 2 rfl) (by omega) (eY hbd x.2) (iO hbd x.2) bm (hTab.kept g (by simp))) rfl,
   fun σ W g h hp hb=>fun ρ o ho _ hv=>⟨_,C8 _ ho ((A1 hv).1.trans (h 10 rfl)) ((A1 hv).2.trans (h 8 rfl)) rfl,rfl⟩,
   fun σ W g h hp hb=>fun ρ o ho _ hv=>⟨_,B7 ho ((A1 hv).1.trans (h 3 rfl)) ((A1 hv).2.trans (h 8 rfl)) (add_i (by omega) (by omega)),rfl⟩,
   fun σ W g h hp hb=>fun ρ o ho _ hv=>⟨_,C8 _ ho ((A1 hv).1.trans (h 10 rfl)) (A1 hv).2 rfl,rfl⟩,
   fun σ W g h hp hb=>fun ρ o ho _ hv=>⟨_,B7 ho ((A1 hv).1.trans (h 4 rfl)) ((A1 hv).2.trans (h 8 rfl)) (add_i (by omega) (by omega)),rfl⟩,
   trivial⟩
   ⟨fun σ W g h hp=>⟨_,h 9 rfl⟩,
   fun σ W g h hp=>⟨_,h 11 rfl⟩,
   fun σ W g h hp=>⟨_,h 13 rfl⟩,
   trivial⟩
   ⟨fun τ W' g hk h hp hb0 had how a' hts hdf=>by
    obtain ⟨hbx,hne⟩:=hb0
    have k0:=hbx _ (.head _)
    have k1:=hbx _ (.tail _ (.head _))
    have k4:=hbx _ (.tail _ (.tail _ (.tail _ (.tail _ (.head _)))))
    have k5:=hbx _ (.tail _ (.tail _ (.tail _ (.tail _ (.tail _ (.head _))))))
    have k6:=hbx _ (.tail _ (.tail _ (.tail _ (.tail _ (.tail _ (.tail _ (.head _)))))))
    unfold I8 at k0 k1 k4 k5 k6
    rw [had 0 (by simp)] at k0
    rw [had 1 (by simp)] at k1
    rw [had 4 (by simp)] at k4
    rw [had 5 (by simp)] at k5
    rw [had 6 (by simp)] at k6
    have e0 : τ.an 3 0=_:=h 3 rfl
    have e1 : τ.an 4 0=_:=h 4 rfl
    have e6 : τ.an 5 0=v:=h 5 rfl
    have k6':W'.heap[w.heap.size+1+1+1+1]?=some (.cells #[v] 40 (0,0)):=by rw [<- e6];exact k6
    have hz:=ahd_zero (m:=m) (of_decide_eq_true (vB' (h 9 rfl) (hp 9 0 true rfl)))
    refine ⟨hk.from _,⟨(g.block _ (hbw x) (by simp)).trans ((hw.block _ (hbw x) (by simp)).symm),k6'.trans hBs.symm⟩,g,⟨_,_,_,_,_,_,_,_,k4,h 2 rfl⟩,k5, ?_, ?_,k6'⟩
    · rw [E8,hz.1,Int.add_zero, <- e0];exact k0
    · rw [E8,hz.2,Int.add_zero, <- e1];exact k1,
   fun τ W' g hk h hp hb0 had how a' hts hdf=>by
    obtain ⟨hbx,hne⟩:=hb0
    have k0:=hbx _ (.head _)
    have k1:=hbx _ (.tail _ (.head _))
    have k4:=hbx _ (.tail _ (.tail _ (.tail _ (.tail _ (.head _)))))
    have k5:=hbx _ (.tail _ (.tail _ (.tail _ (.tail _ (.tail _ (.head _))))))
    have k6:=hbx _ (.tail _ (.tail _ (.tail _ (.tail _ (.tail _ (.tail _ (.head _)))))))
    unfold I8 at k0 k1 k4 k5 k6
    rw [had 0 (by simp)] at k0
    rw [had 1 (by simp)] at k1
    rw [had 4 (by simp)] at k4
    rw [had 5 (by simp)] at k5
    rw [had 6 (by simp)] at k6
    have e0 : τ.an 12 0=_:=h 12 rfl
    have e1 : τ.an 4 0=_:=h 4 rfl
    have e6 : τ.an 5 0=v:=h 5 rfl
    have k6':W'.heap[w.heap.size+1+1+1+1]?=some (.cells #[v] 40 (0,0)):=by rw [<- e6];exact k6
    have hz:=ahd_one (m:=m) (of_decide_eq_false (vB' (h 9 rfl) (hp 9 0 false rfl))) (of_decide_eq_true (vB' (h 11 rfl) (hp 11 0 true rfl)))
    refine ⟨hk.from _,⟨(g.block _ (hbw x) (by simp)).trans ((hw.block _ (hbw x) (by simp)).symm),k6'.trans hBs.symm⟩,g,⟨_,_,_,_,_,_,_,_,k4,h 2 rfl⟩,k5, ?_, ?_,k6'⟩
    · rw [E8,hz.1, <- e0];exact k0
    · rw [E8,hz.2,Int.add_zero, <- e1];exact k1,
   fun τ W' g hk h hp hb0 had how a' hts hdf=>by
    obtain ⟨hbx,hne⟩:=hb0
    have k0:=hbx _ (.head _)
    have k1:=hbx _ (.tail _ (.head _))
    have k4:=hbx _ (.tail _ (.tail _ (.tail _ (.tail _ (.head _)))))
    have k5:=hbx _ (.tail _ (.tail _ (.tail _ (.tail _ (.tail _ (.head _))))))
    have k6:=hbx _ (.tail _ (.tail _ (.tail _ (.tail _ (.tail _ (.tail _ (.head _)))))))
    unfold I8 at k0 k1 k4 k5 k6
    rw [had 0 (by simp)] at k0
    rw [had 1 (by simp)] at k1
    rw [had 4 (by simp)] at k4
    rw [had 5 (by simp)] at k5
    rw [had 6 (by simp)] at k6
    have e0 : τ.an 3 0=_:=h 3 rfl
    have e1 : τ.an 14 0=_:=h 14 rfl
    have e6 : τ.an 5 0=v:=h 5 rfl
    have k6':W'.heap[w.heap.size+1+1+1+1]?=some (.cells #[v] 40 (0,0)):=by rw [<- e6];exact k6
    have hz:=ahd_thr (m:=m) (of_decide_eq_false (vB' (h 11 rfl) (hp 11 0 false rfl))) (of_decide_eq_true (vB' (h 13 rfl) (hp 13 0 true rfl)))
    refine ⟨hk.from _,⟨(g.block _ (hbw x) (by simp)).trans ((hw.block _ (hbw x) (by simp)).symm),k6'.trans hBs.symm⟩,g,⟨_,_,_,_,_,_,_,_,k4,h 2 rfl⟩,k5, ?_, ?_,k6'⟩
    · rw [E8,hz.1,Int.add_zero, <- e0];exact k0
    · rw [E8,hz.2, <- e1];exact k1,
   fun τ W' g hk h hp hb0 had how a' hts hdf=>by
    obtain ⟨hbx,hne⟩:=hb0
    have k0:=hbx _ (.head _)
    have k1:=hbx _ (.tail _ (.head _))
    have k4:=hbx _ (.tail _ (.tail _ (.tail _ (.tail _ (.head _)))))
    have k5:=hbx _ (.tail _ (.tail _ (.tail _ (.tail _ (.tail _ (.head _))))))
    have k6:=hbx _ (.tail _ (.tail _ (.tail _ (.tail _ (.tail _ (.tail _ (.head _)))))))
    unfold I8 at k0 k1 k4 k5 k6
    rw [had 0 (by simp)] at k0
    rw [had 1 (by simp)] at k1
    rw [had 4 (by simp)] at k4
    rw [had 5 (by simp)] at k5
    rw [had 6 (by simp)] at k6
    have e0 : τ.an 3 0=_:=h 3 rfl
    have e1 : τ.an 4 0=_:=h 4 rfl
    have e6 : τ.an 5 0=v:=h 5 rfl
    have k6':W'.heap[w.heap.size+1+1+1+1]?=some (.cells #[v] 40 (0,0)):=by rw [<- e6];exact k6
    have hz:=ahd_none (m:=m) (of_decide_eq_false (vB' (h 11 rfl) (hp 11 0 false rfl))) (of_decide_eq_false (vB' (h 13 rfl) (hp 13 0 false rfl)))
    refine ⟨hk.from _,⟨(g.block _ (hbw x) (by simp)).trans ((hw.block _ (hbw x) (by simp)).symm),k6'.trans hBs.symm⟩,g,⟨_,_,_,_,_,_,_,_,k4,h 2 rfl⟩,k5, ?_, ?_,k6'⟩
    · rw [E8,hz.1,Int.add_zero, <- e0];exact k0
    · rw [E8,hz.2,Int.add_zero, <- e1];exact k1,
   trivial⟩
 case done=>
  intro D xs W hDB hxs hI hD
  refine hK9 _ _ ?_
  obtain ⟨hw,hM,hF,hA,hT,hBs⟩:=hI
  have ne01:w.heap.size+1+1≠w.heap.size+1+1+1:=by omega
  refine O3 (Fc.wide _ Tryd.prog) B3 (prot:=M9) [uZ (N8 (ahd (upr m) m) l xs),uZ (N8 (thr (upr m) m) l xs)] [] [] 41 2 [.any 0,.any 1,.any 2,.any 3,.any 4,.any 5,.v false [.ptr 0 0],.v false [.ptr 1 0],.any 8,.any 9,.any 10,.any 11,.any 12,.any 13,.any 14,.any 15,.any 16,.any 17,.any 18,.any 19,.any 20,.any 21,.any 22,.any 23,.any 24,.any 25,.any 26,.any 27,.any 28,.any 29,.any 30,.any 31,.any 32,.any 33,.any 34,.any 35,.any 36,.any 37,.any 38,.any 39,.any 40] [(3,[.an 0 0],true),(3,[.an 1 0],true)] (rs:=[]) (js:=[]) (outs:=[⟨.ret,(List.range 2),[],[.any 0,.any 1,.any 2,.any 3,.any 4,.any 5,.v false [.ptr 0 0],.v false [.ptr 1 0],.any 8,.any 9,.any 10,.any 11,.any 12,.any 13,.any 14,.any 15,.any 16,.any 17,.any 18,.any 19,.any 20,.any 21,.any 22,.any 23,.any 24,.any 25,.any 26,.any 27,.any 28,.any 29,.any 30,.any 31,.any 32,.any 33,.any 34,.any 35,.any 36,.any 37,.any 38,on 0,on 1],[(0,3,[.an 0 0]),(1,3,[.an 1 0])],[0,1]⟩]) (nc:=2) (by kernel_rfl) hw
   ⟨fun n=>match n with | 0=>D7 [.int .i64 (N8 (ahd (upr m) m) l xs)] | 1=>D7 [.int .i64 (N8 (thr (upr m) m) l xs)] | _=>fun _ => .bool false,fun b=>match b with | 0=>w.heap.size+1+1 | 1=>w.heap.size+1+1+1 | _=>0,fun i=>(#[v,.agg #[.slice ms0 mn0 mn0,.bool mx0,.slice ms1 mn1 mn1,.bool mx1,.slice ms2 mn2 mn2,.bool mx2,.slice ms3 mn3 mn3,.bool mx3],.func (.func 112) #[] #[.pointer (some ⟨q,0,none⟩)],undef,.pointer (some ⟨w.heap.size,0,none⟩),.pointer (some ⟨w.heap.size+1,0,none⟩),.pointer (some ⟨w.heap.size+1+1,0,none⟩),.pointer (some ⟨w.heap.size+1+1+1,0,none⟩),undef,undef,undef,v,.func (.func 68) #[] #[.pointer (some ⟨w.heap.size+1+1+1+1,0,none⟩)],undef,undef,undef,undef,undef,undef,undef,undef,undef,undef,undef,undef,undef,undef,undef,undef,undef,undef,undef,undef,undef,undef,undef,undef,undef,undef,undef,undef]:Array Value).getD i undef⟩
   (fun n c=>match n with | 0=>B4 V6 c | 1=>B4 V6 c | _+2=>rfl) rfl (fun i=>match i with | 0=>rfl | 1=>rfl | 2=>rfl | 3=>rfl | 4=>rfl | 5=>rfl | 6=>rfl | 7=>rfl | 8=>rfl | 9=>rfl | 10=>rfl | 11=>rfl | 12=>rfl | 13=>rfl | 14=>rfl | 15=>rfl | 16=>rfl | 17=>rfl | 18=>rfl | 19=>rfl | 20=>rfl | 21=>rfl | 22=>rfl | 23=>rfl | 24=>rfl | 25=>rfl | 26=>rfl | 27=>rfl | 28=>rfl | 29=>rfl | 30=>rfl | 31=>rfl | 32=>rfl | 33=>rfl | 34=>rfl | 35=>rfl | 36=>rfl | 37=>rfl | 38=>rfl | 39=>rfl | 40=>rfl | _+41=>rfl)
   (fun b q hq=>match b,q,hq with
    | 0,_,rfl=>⟨hA,fun _=>(by omega:w.heap.size<=w.heap.size+1+1)⟩
    | 1,_,rfl=>⟨hT,fun _=>(by omega:w.heap.size<=w.heap.size+1+1+1)⟩
    | _+2,_,hq=>nomatch hq)
   (fun b c hb hc hq=>match b,c,hb,hc with
    | 0,0,_,_=>rfl
    | 0,1,_,_=>absurd hq ne01
    | 1,0,_,_=>absurd hq (Ne.symm ne01)
    | 1,1,_,_=>rfl
    | _+2,_,hb,_=>absurd hb (by simp)
    | _,_+2,_,hc=>absurd hc (by simp))
   (fun jn hn=>match jn,hn with
    | 0,_=>rfl
    | 1,_=>rfl
    | _+2,hn=>absurd hn (by omega))
   (fun jn hn=>match jn,hn with
    | 0,_=>G9 rfl _ _ _ _
    | 1,_=>G9 rfl _ _ _ _
    | _+2,hn=>absurd hn (by omega))
   trivial
   trivial
   ⟨fun τ W' g hk h hp hb0 had how a' hts hdf=>by
    obtain ⟨hbx,hne⟩:=hb0
    have k0:=hbx _ (.head _)
    have k1:=hbx _ (.tail _ (.head _))
    unfold I8 at k0 k1
    rw [had 0 (by simp)] at k0
    rw [had 1 (by simp)] at k1
    have e0 : τ.an 0 0=_:=h 0 rfl
    have e1 : τ.an 1 0=_:=h 1 rfl
    have hD':=hk.same D _ hD rfl
    have hfar:M7 W0.heap.size W' (some D):=fun r e=>by cases e;exact ⟨hDB,_,hD',rfl⟩
    have hpo:=grownBy_putObj' W' D (.deferred none)
    have k0':=B6 hpo hfar k0
    have k1':=B6 hpo hfar k1
    show LeavesInM _ _ _ _ _ _ _ _ _
    rw [hdf]
    refine ⟨by simp,.inl ⟨_,_,rfl,run_takeDeferred hD', ?_⟩⟩
    refine ⟨_,eS rfl ?_ ?_ k0' k1' (by kernel_rfl) (by kernel_rfl), ?_,K9 (by omega) g hpo hfar⟩
    · rw [hts 6];show Value.pointer (some ⟨τ.ad 0,0,none⟩)=_;rw [had 0 (by simp)]
    · rw [hts 7];show Value.pointer (some ⟨τ.ad 1,0,none⟩)=_;rw [had 1 (by simp)]
    · show Ending.returned (.tuple #[τ.an 0 0, τ.an 1 0])=_;rw [e0,e1,eI _ l xs hxs,eI _ l xs hxs],
   trivial⟩
 case stop=>
  rintro D c pre W _ _ h _
  exact h.elim
end Go.Proofs.YtamdnbbgpacfkaaDoor
