/- What the laws lean on, part 15. -/
import Derived.Below
import Derived.BigCall
import Derived.BigQuiet
import Derived.BigRegion
import Derived.Deep.AppendLies
import Derived.Deep.CutBlock
import Derived.Deep.CutRange
import Derived.Deep.DeepCutAuto
import Derived.Deep.DeepHandedRow
import Derived.Deep.LoopGhost
import Derived.Deep.MidRow
import Derived.Deep.QuietTactic
import Derived.Deep.RegionHeld3
import Derived.Deep.RegionLaw
import Derived.Deep.WholeRow
import Derived.Laws.AppendOwn
import Derived.Laws.Concat
import Derived.Laws.CopyOwn
import Derived.Laws.Externs
import Derived.Laws.IdiomStrings
import Derived.Lib.BitFns
import Derived.Lib.Bytealg
import Derived.Lib.Hide
import Derived.Lib.Slices
import Derived.Lib.Small
import Derived.Lib.Strings
import Derived.Lib.Walk
import Derived.LoopIn
import Derived.LoopN
import Derived.LoopNIn
import Derived.Maps.AppendAt
import Derived.OpenShut
import Derived.OrdersHeld
import Derived.OrdersIn
import Derived.Outline
import Derived.OwnWalk
import Derived.OwnWalkIn
import Derived.ProofKit
import Derived.RangeFuncBound
import Derived.RangeFuncCalls
import Derived.RangeFuncLeaves
import Derived.RangeFuncNested
import Derived.RangeFuncOwn
import Derived.Shelf.Abstract
import Derived.Shelf.Bits.Mul64
import Derived.Shelf.RegionOpen
import Derived.Shelf.Spec.TrailingZeros
import Derived.StillTailTactics
import Derived.TacticsInMore
import Derived.WalkKit
import Derived.WalkLawsBesides
import Derived.WalkSpells
import Derived.Test.YtninnifpgpjfhaaGreatDoorProg
import Derived.Test.YtninnifpgpjfhaaGreatDoorRows
import Derived.Test.YtninnifpgpjfhaaGreatDoorMb14
set_option linter.unusedVariables false
set_option linter.unusedSimpArgs false
set_option maxRecDepth 100000
namespace Go.Proofs.YtninnifpgpjfhaaGreatDoor
open Go.RowKit Go.Shelf Mat Ex PM
attribute [local go_sem] Oper.semAt_some
theorem PAt.keepsU {W W':World} {cs:Array Value} {o:Nat} {p:Pq} (h:PAt W cs o p) (k:Keeps J8 W W'):PAt W' cs o p:=by
 obtain ⟨a,b,c,d,e,f,g,i,h1,h2,h3,h4,h5,h6,h7,h8,h9⟩:=h
 exact ⟨a,b,c,d,e,f,g,i,h1,h2,h3,h4,h5,h6,h7,h8,h9.keepsU k⟩
theorem PtsV.keepsU {W W':World} {v:Value} {l:List Pq} (h:PtsV W v l) (k:Keeps J8 W W') (hq:∀ q,fpS v q->W'.heap[q]?=W.heap[q]?):PtsV W' v l:=by
 obtain ⟨s,n,c,rfl,hl,hn,h⟩:=h
 refine ⟨s,n,c,rfl,hl,hn, ?_⟩
 by_cases h0:l=[]
 · exact .inl h0
 · obtain ⟨b,off,cs,rfl,hb,hc⟩:=h.resolve_left h0
   obtain ⟨m,rfl⟩:∃ m,n=m+1:=⟨n-1,by have:=List.length_pos_iff.2 h0;omega⟩
   exact .inr ⟨b,off,cs,rfl,by rw [hq b ⟨off,m,c,rfl⟩];exact hb,fun i hi=>(hc i hi).keepsU k⟩
theorem PtsV.blk {W:World} {v:Value} {l:List Pq} (h:PtsV W v l) (q:Nat) (hq:fpS v q):∃ cs t,W.heap[q]?=some (.cells cs t (0,0)):=by
 obtain ⟨s,n,c,rfl,hl,hn,h⟩:=h
 obtain ⟨off,m,c',e⟩:=hq
 cases e
 rcases h with h | ⟨b,off',cs,e,hb,_⟩
 · rw [h] at hl;simp at hl
 · cases e;exact ⟨_,_,hb⟩
theorem PtsV.soft {B:Nat} {X Y:World} {row:Option Nat} {v:Value} {l:List Pq} (h:PtsV X v l) (hg:X.grownBy Y row) (hr:K5 B X row):PtsV Y v l:=
 h.keeps (K4 hg hr) fun q hq=>by obtain ⟨cs,t,hb⟩:=h.blk q hq;rw [B3 hg hr hb,hb]
def uRow (w1:World) (vl:Value) (hv:vl.oneCell'=true) (l:List Pq) (b:Nat) (ob:Obj):Su where
 sh := .one
 F v W:=v=vl/\PtsV W vl l/\W.heap[b]?=some ob/\Keeps J8 w1 W
 fits v W h:=by obtain ⟨rfl,_⟩:=h;exact ⟨D2 [v],A9 (by simp [hv]),rfl⟩
 row:=true
 fp v _ q:=fpS vl q\/q=b
 lasts v W W' k hq h:=⟨⟨h.1,h.2.1.keepsU k fun q hf=>hq q (.inl hf),(hq b (.inr rfl)).trans h.2.2.1,fun g arr ty fr hp hb=>k g arr ty fr hp (h.2.2.2 g arr ty fr hp hb)⟩,fun _ h=>h⟩
 inb v W h q hq:=by
  rcases hq with hq | rfl
  · exact h.2.1.inb q hq
  · exact (Array.getElem?_eq_some_iff.1 h.2.2.1).1
 flat h:=by cases h
theorem RayV.keepsU {f:Nat} {W W':World} {v:Value} {m:Pq} (h:RayV f W v m) (k:Keeps J8 W W') (hq:∀ q,fpF v q->W'.heap[q]?=W.heap[q]?):RayV f W' v m:=by
 obtain ⟨q,u0,u1,u2,u3,u4,u5,u6,u7,rfl,h1,h2⟩:=h
 exact ⟨q,u0,u1,u2,u3,u4,u5,u6,u7,rfl,(hq q ⟨f,rfl⟩).trans h1,h2.keepsU k⟩
def uRay (f:Nat) (m:Pq):Su where
 sh := .one
 F v W:=RayV f W v m
 fits v W h:=by obtain ⟨q,u0,u1,u2,u3,u4,u5,u6,u7,rfl,_⟩:=h;exact ⟨fun _ => .func (.func f) #[] #[.pointer (some ⟨q,0,none⟩)],fun _=>rfl,rfl⟩
 row:=true
 fp v _ q:=fpF v q
 lasts v W W' k hq h:=⟨h.keepsU k hq,fun _ h=>h⟩
 inb v W h q hq:=h.inb q hq
 flat h:=by cases h
theorem toURay {P:Program} {f:FuncId} {n:Nat} {args:Array Value} {W:World} {m:Pq} {old:Nat->Prop} (h:Calls P f args W (X5 n W m)):Calls P f args W (RetS W (uRay n m) old):=
 h.mono fun _ _ ⟨q,u0,u1,u2,u3,u4,u5,u6,u7,a,h1,h2,h3,g⟩=>⟨_,a,⟨q,u0,u1,u2,u3,u4,u5,u6,u7,rfl,h1,h2⟩,g,fun q' hq => .inl (by obtain ⟨f',e⟩:=hq;cases e;exact h3)⟩
def uZZ (a b:Int):Su := .of (.tup [(none,0),(none,0)]) (fun v _=>v = .tuple #[.int .i64 a,.int .i64 b]) (fun v W h=>S4 (u := .bool true) (cs:=[.int .i64 a,.int .i64 b]) (by simp [Value.oneCell']) h) (fun _ _ _ _ h=>h)
theorem zz1 {a b:Int} {u v:Value} {W:World} : (uZZ a b).F (.tuple #[u,v]) W->u = .int .i64 a:=fun h=>by cases h;rfl
theorem toZZ {P:Program} {f:FuncId} {args:Array Value} {W:World} {a b:Int} (h:Calls P f args W (fun e w'=>e = .returned (.tuple #[.int .i64 a,.int .i64 b])/\W.grownBy w' none)):Calls P f args W (Ret W (uZZ a b).F):=h.mono fun _ _ ⟨a,g⟩=>⟨_,a,rfl,g⟩
theorem toUB {P:Program} {f:FuncId} {args:Array Value} {W:World} {b:Bool} (h:Calls P f args W (RetB W b)):Calls P f args W (Ret W (uB b).F):=h.mono fun _ _ ⟨a,g⟩=>⟨_,a,rfl,g⟩
def seen (l:List Pq) (m:Pq) (pre:List (Fin l.length)):Prop:=∃ x ∈ pre,InS (pt0 l x) (nxt l x) m
theorem seen_all {l:List Pq} {m:Pq} {xs:List (Fin l.length)} (h:xs.map Fin.val=List.range l.length) (hs:¬ seen l m xs):¬ OnR l m:=by
 rintro ⟨i,hi,hin⟩
 have:i ∈ xs.map Fin.val:=by rw [h];exact List.mem_range.2 hi
 obtain ⟨x,hx,rfl⟩:=List.mem_map.1 this
 exact hs ⟨x,hx,hin⟩
theorem seen_on {l:List Pq} {m:Pq} {pre:List (Fin l.length)} (hs:seen l m pre):OnR l m:=by obtain ⟨x,_,h⟩:=hs;exact ⟨x.val,x.2,h⟩
def AnI (w w1:World) (Bs b:Nat) (ob:Obj) (vl:Value) (m:Pq) (l:List Pq) (pre:List (Fin l.length)) (W:World):Prop:=
 w.grownBy W none/\(∃ z0 z1 z2 z3 z4 z5 z6 z7:Value,W.heap[w.heap.size]?=some (.cells #[z0,z1,z2,z3,z4,z5,z6,z7] 33 (0,0))/\PtV W (.agg #[z0,z1,z2,z3,z4,z5,z6,z7]) m)/\W.heap[w.heap.size+1]?=some (.cells #[.int .i64 0] 3 (0,0)) /\
 W.heap[w.heap.size+1+1]?=some (.cells #[.bool false] 4 (0,0))/\W.heap[Bs]?=some (.cells #[vl] 23 (0,0))/\W.heap[b]?=some ob/\PtsV W vl l/\Keeps J8 w1 W /\ ¬ seen l m pre
theorem AnI.soft {w w1:World} {Bs b B:Nat} {cs:Array Value} {t:TypeId} {vl:Value} {m:Pq} {l:List Pq} {pre:List (Fin l.length)} {X Y:World} {row:Option Nat} (hB:w.heap.size<=B) (h:AnI w w1 Bs b (.cells cs t (0,0)) vl m l pre X) (hg:X.grownBy Y row) (hr:K5 B X row):AnI w w1 Bs b (.cells cs t (0,0)) vl m l pre Y:=by
 obtain ⟨h1,⟨z0,z1,z2,z3,z4,z5,z6,z7,h2,h3⟩,h4,h5,h6,h7,h8,h9,h10⟩:=h
 exact ⟨J5 hB h1 hg hr,⟨z0,z1,z2,z3,z4,z5,z6,z7,B3 hg hr h2,h3.keeps (K4 hg hr)⟩,B3 hg hr h4,B3 hg hr h5,B3 hg hr h6,B3 hg hr h7,h8.soft hg hr,fun g arr ty fr hp hb=>B3 hg hr (h9 g arr ty fr hp hb),h10⟩
def AnX (w:World) (m:Pq) (l:List Pq) (c:Code) (pre:List (Fin l.length)) (W:World):Prop:=
 c = .ret/\seen l m pre/\w.grownBy W none/\W.heap[w.heap.size+1]?=some (.cells #[.int .i64 0] 3 (0,0))/\W.heap[w.heap.size+1+1]?=some (.cells #[.bool true] 4 (0,0))
theorem AnX.soft {w:World} {B:Nat} {m:Pq} {l:List Pq} {c:Code} {pre:List (Fin l.length)} {X Y:World} {row:Option Nat} (hB:w.heap.size<=B) (h:AnX w m l c pre X) (hg:X.grownBy Y row) (hr:K5 B X row):AnX w m l c pre Y:=
 ⟨h.1,h.2.1,J5 hB h.2.2.1 hg hr,B3 hg hr h.2.2.2.1,B3 hg hr h.2.2.2.2⟩
set_option maxHeartbeats 4000000 in
theorem Q7 (w:World) (va vp:Value) (lg:List G2) (m:Pq) (K:Nat) (Ha:GsV w.heap.size w va lg) (Hp:PtV w vp m) (hK : 1<=K/\K<=10000) (hn:lg.length<=200) (hL:∀ d ∈ lg,eK d) (bm:Bp K m) (hTab:Tab w) :
 Calls Tryz.prog 15 #[va,vp] w (fun e w'=>e = .returned (.tuple #[.int .i64 (arN (gl lg) m),.bool (dec (OnR (gl lg) m))])/\w.grownBy w' none):=by
 obtain ⟨ms0,mn0,mx0,ms1,mn1,mx1,ms2,mn2,mx2,ms3,mn3,mx3,rfl⟩:=Hp.shape
 obtain ⟨l,hl⟩:∃ l,gl lg=l:=⟨_,rfl⟩
 have hln:l.length=lg.length:=by rw [<- hl];simp [gl]
 have hbd:∀ p ∈ l,Bp K p:=by
  intro p hp
  rw [<- hl] at hp
  obtain ⟨d,hd,rfl⟩:=List.mem_map.1 hp
  have:=hL d hd
  exact (grid_b this.1.1 this.1.2 this.2.1 this.2.2).mono hK.1
 have HG:Hid (∀ W,w.grownBy W none->Calls Tryz.prog 19 #[va] W (RetPts W l)):=fun W gW=>by
  rw [<- hl]
  refine lG W va lg ?_ hn hL
  obtain ⟨s,n,c,rfl,h1,h2,h3⟩:=Ha.keeps fun q hq=>gW.block q (Ha.block hq).2 (by simp)
  refine ⟨s,n,c,rfl,h1,h2,h3.imp_right ?_⟩
  rintro ⟨b,off,e,hb,hd⟩
  exact ⟨b,off,e,Nat.lt_of_lt_of_le hb gW.size,hd⟩
 rw [hl]
 refine (callsIn_wide (n:=4)).1 ?_
 refine callsIn_of_wp_marks Tryz.func15 rfl trivial ?_ rfl
 simp only [Tryz.ntmps15,List.size_toArray,List.length_cons,List.length_nil,Nat.reduceAdd,Nat.reduceSub,Array.replicate_succ,Array.replicate_zero,List.push_toArray,List.append_toArray,List.nil_append,List.cons_append]
 have a0:=World.grownBy_alloc w (.cells #[.slice ms0 mn0 mn0,.bool mx0,.slice ms1 mn1 mn1,.bool mx1,.slice ms2 mn2 mn2,.bool mx2,.slice ms3 mn3 mn3,.bool mx3] 33) none
 have a1:=World.grownBy_alloc (w.alloc (.cells #[.slice ms0 mn0 mn0,.bool mx0,.slice ms1 mn1 mn1,.bool mx1,.slice ms2 mn2 mn2,.bool mx2,.slice ms3 mn3 mn3,.bool mx3] 33)) (.cells #[.int .i64 0] 3) none
 have a2:=World.grownBy_alloc ((w.alloc (.cells #[.slice ms0 mn0 mn0,.bool mx0,.slice ms1 mn1 mn1,.bool mx1,.slice ms2 mn2 mn2,.bool mx2,.slice ms3 mn3 mn3,.bool mx3] 33)).alloc (.cells #[.int .i64 0] 3)) (.cells #[.bool false] 4) none
 have r0:=A1 a2 (A1 a1 (A6 w (.cells #[.slice ms0 mn0 mn0,.bool mx0,.slice ms1 mn1 mn1,.bool mx1,.slice ms2 mn2 mn2,.bool mx2,.slice ms3 mn3 mn3,.bool mx3] 33) (w.heap.size) rfl))
 have r1:=A1 a2 (A6 (w.alloc (.cells #[.slice ms0 mn0 mn0,.bool mx0,.slice ms1 mn1 mn1,.bool mx1,.slice ms2 mn2 mn2,.bool mx2,.slice ms3 mn3 mn3,.bool mx3] 33)) (.cells #[.int .i64 0] 3) (w.heap.size+1) (by simp))
 have r2:=A6 ((w.alloc (.cells #[.slice ms0 mn0 mn0,.bool mx0,.slice ms1 mn1 mn1,.bool mx1,.slice ms2 mn2 mn2,.bool mx2,.slice ms3 mn3 mn3,.bool mx3] 33)).alloc (.cells #[.int .i64 0] 3)) (.cells #[.bool false] 4) (w.heap.size+1+1) (by simp)
 have g3:=A2 (A2 a0 a1) a2
 have e3:(((w.alloc (.cells #[.slice ms0 mn0 mn0,.bool mx0,.slice ms1 mn1 mn1,.bool mx1,.slice ms2 mn2 mn2,.bool mx2,.slice ms3 mn3 mn3,.bool mx3] 33)).alloc (.cells #[.int .i64 0] 3)).alloc (.cells #[.bool false] 4)).heap.size=w.heap.size+3:=by simp
 gi_wp2_with (refine ⟨trivial, ?_⟩;gi_at_call 19;refine (callsIn_wide.2 (HG.out _ g3)).mono ?_;rintro e w1 ⟨vl,rfl,hvp1,g1,hfr⟩)
 have hvl:vl.oneCell'=true:=hvp1.cell
 gi_wp2_with (refine ⟨trivial, ?_⟩;gi_at_call 49;refine (dK 3 vl _ hvl).mono ?_;rintro e w' ⟨rfl,rfl⟩)
 rename_i hK9
 have g4:=World.grownBy_alloc w1 (.cells #[vl] 23) none
 have r0:=A1 g4 (A1 g1 r0)
 have r1:=A1 g4 (A1 g1 r1)
 have r2:=A1 g4 (A1 g1 r2)
 have r4:=A6 w1 (.cells #[vl] 23) w1.heap.size rfl
 have g0:=A2 (A2 g3 g1) g4
 have hs1:w.heap.size+3<=w1.heap.size:=by have:=g1.size;omega
 obtain ⟨Bs,hBse⟩:∃ Bs,w1.heap.size=Bs:=⟨_,rfl⟩
 rw [hBse]
 have e5:(w1.alloc (.cells #[vl] 23)).heap.size=Bs+1:=by rw [<- hBse];simp
 obtain ⟨b,encs,hb0,hsz,hen,hbw,⟨hbb,cs,t,hbc⟩,hstop⟩:=V0 3 (by omega) Bs w1 (w1.alloc (.cells #[vl] 23)) g4 vl l (hBse ▸ r4) hvp1 (by omega)
 have hlo:w.heap.size+1+1<b /\ ∀ q,fpS vl q->w.heap.size+1+1<q:=by
  have hq:∀ q,fpS vl q->w.heap.size+1+1<q:=fun q hq=>by have:=hfr q hq;omega
  refine ⟨?_,hq⟩
  rcases hbb with rfl | h
  · omega
  · exact hq _ h
 have hvp4:=hvp1.keepsU (Keeps.grown g4) fun q hq=>g4.block q (hvp1.inb q hq) (by simp)
 have hbs4:=hBse ▸ r4
 have hk4:Keeps J8 w1 (w1.alloc (.cells #[vl] 23)):=Keeps.grown g4
 have hM0:PtV (w1.alloc (.cells #[vl] 23)) (.agg #[.slice ms0 mn0 mn0,.bool mx0,.slice ms1 mn1 mn1,.bool mx1,.slice ms2 mn2 mn2,.bool mx2,.slice ms3 mn3 mn3,.bool mx3]) m:=Hp.kept g0
 generalize w1.alloc (.cells #[vl] 23)=W0 at *
 refine wpIn_rangeFunc_ownH rfl (by omega) (gf:=91) (lb := #[.pointer (some ⟨Bs,0,none⟩)]) rfl trivial (enters_of Tryz.func91 (by kernel_rfl) rfl) hstop kpR_t (kpR_b hb0 (by omega)) (Below.refl _ _) (fun x=>hsz x)
  (fun pre W=>AnI w w1 Bs b (.cells cs t (0,0)) vl m l pre W) (fun c pre W=>AnX w m l c pre W)
  (fun s X Y row hs hg hr=>hs.soft (B:=W0.heap.size) (by omega) hg hr) (fun _ _ _ _ _ hs hg hr=>hs.soft (B:=W0.heap.size) (by omega) hg hr) ⟨g0,⟨_,_,_,_,_,_,_,_,r0,hM0⟩,r1,r2,hbs4,hbc,hvp4,hk4,by rintro ⟨y,hy,_⟩;exact nomatch hy⟩
  (fun x a' W=>∃ (Bx:Nat) (p0 p1 p2 p3 p4 p5 p6 p7 q0 q1 q2 q3 q4 q5 q6 q7:Value),W0.heap.size<=Bx/\PQs W Bx [p0,p1,p2,p3,p4,p5,p6,p7] [q0,q1,q2,q3,q4,q5,q6,q7] (pt0 l x) (nxt l x)/\a' = { tmps := #[va,.agg #[.slice ms0 mn0 mn0,.bool mx0,.slice ms1 mn1 mn1,.bool mx1,.slice ms2 mn2 mn2,.bool mx2,.slice ms3 mn3 mn3,.bool mx3],undef,.pointer (some ⟨w.heap.size,0,none⟩),.pointer (some ⟨w.heap.size+1,0,none⟩),.pointer (some ⟨w.heap.size+1+1,0,none⟩),vl,.pointer (some ⟨Bx,0,none⟩),.pointer (some ⟨Bx+1,0,none⟩),undef,undef,va,vl,vl,.func (.func 91) #[] #[.pointer (some ⟨Bs,0,none⟩)],.agg #[p0,p1,p2,p3,p4,p5,p6,p7],.agg #[q0,q1,q2,q3,q4,q5,q6,q7],undef,undef,undef,undef,undef,undef,undef,undef,undef,undef,undef,undef,undef,undef],defers:=[] })
  (fun x a' _ X Y row hs hg hr=>by obtain ⟨Bx,p0,p1,p2,p3,p4,p5,p6,p7,q0,q1,q2,q3,q4,q5,q6,q7,h1,h2,h3⟩:=hs;exact ⟨Bx,p0,p1,p2,p3,p4,p5,p6,p7,q0,q1,q2,q3,q4,q5,q6,q7,h1,h2.soft (B:=W0.heap.size) hg hr,h3⟩)
  ?assign ?body ?done ?stop
 case assign=>
  intro lr pre x W K' hI hKK
  obtain ⟨p,q',he,hp,hq⟩:=hen x
  rw [he]
  have hku:=hI.2.2.2.2.2.2.2.1
  have hp:=hp.keepsU hku
  have hq:=hq.keepsU hku
  obtain ⟨s0,n0,x0,s1,n1,x1,s2,n2,x2,s3,n3,x3,rfl⟩:=hp.shape
  obtain ⟨s4,n4,x4,s5,n5,x5,s6,n6,x6,s7,n7,x7,rfl⟩:=hq.shape
  have hbl:=(Array.getElem?_eq_some_iff.1 hI.2.2.2.2.2.1).1
  have hBl:=(Array.getElem?_eq_some_iff.1 hI.2.2.2.2.1).1
  have c1:=World.grownBy_alloc W (.cells #[.slice s0 n0 n0,.bool x0,.slice s1 n1 n1,.bool x1,.slice s2 n2 n2,.bool x2,.slice s3 n3 n3,.bool x3] 33) none
  have c2:=World.grownBy_alloc (W.alloc (.cells #[.slice s0 n0 n0,.bool x0,.slice s1 n1 n1,.bool x1,.slice s2 n2 n2,.bool x2,.slice s3 n3 n3,.bool x3] 33)) (.cells #[.slice s4 n4 n4,.bool x4,.slice s5 n5 n5,.bool x5,.slice s6 n6 n6,.bool x6,.slice s7 n7 n7,.bool x7] 33) none
  gi_wp2
  refine hKK _ _ (((KeepsOthers.alloc _ _).trans (KeepsOthers.alloc _ _)).from _) ⟨(A2 c1 c2).block _ hbl (by simp),(A2 c1 c2).block _ hBl (by simp)⟩ (hI.soft (B:=w.heap.size) (Nat.le_refl _) (A2 c1 c2) (gT _ _))
   ⟨W.heap.size,_,_,_,_,_,_,_,_,_,_,_,_,_,_,_,_, ?_,⟨A1 c2 (A6 W _ _ rfl),A6 _ _ _ (by simp),hp.kept (A2 c1 c2),hq.kept (A2 c1 c2)⟩,rfl⟩
  omega
 case body=>
  rintro lr pre x a' W hl'-hI ⟨Bx,p0,p1,p2,p3,p4,p5,p6,p7,q0,q1,q2,q3,q4,q5,q6,q7,hBx,⟨hBp,hBq,hPp,hPq⟩,rfl⟩ hlt
  obtain ⟨hw,⟨z0,z1,z2,z3,z4,z5,z6,z7,hM,hMz⟩,hA,hT,hBs,hob,hvp,hku,hns⟩:=hI
  have ne01:Bx≠Bx+1:=by omega
  have ne02:Bx≠w.heap.size:=by omega
  have ne03:Bx≠w.heap.size+1:=by omega
  have ne04:Bx≠w.heap.size+1+1:=by omega
  have ne05:Bx≠Bs:=by omega
  have ne12:Bx+1≠w.heap.size:=by omega
  have ne13:Bx+1≠w.heap.size+1:=by omega
  have ne14:Bx+1≠w.heap.size+1+1:=by omega
  have ne15:Bx+1≠Bs:=by omega
  have ne23:w.heap.size≠w.heap.size+1:=by omega
  have ne24:w.heap.size≠w.heap.size+1+1:=by omega
  have ne25:w.heap.size≠Bs:=by omega
  have ne34:w.heap.size+1≠w.heap.size+1+1:=by omega
  have ne35:w.heap.size+1≠Bs:=by omega
  have ne45:w.heap.size+1+1≠Bs:=by omega
  refine O2 (Fc.round lr _ Tryz.prog) B1 (prot:=J8) [uPt (pt0 l x),uPt (nxt l x),uPt m,uRow w1 vl hvl l b (.cells cs t (0,0)),uB (dec (InS (pt0 l x) (nxt l x) m))] [] [] 31 4 [.any 0,.any 1,.any 2,.v false [.ptr 2 0],.v false [.ptr 3 0],.v false [.ptr 4 0],.any 6,.v false [.ptr 0 0],.v false [.ptr 1 0],.any 9,.any 10,.any 11,.any 12,.any 13,.any 14,.any 15,.any 16,.any 17,.any 18,.any 19,.any 20,.any 21,.any 22,.any 23,.any 24,.any 25,.any 26,.any 27,.any 28,.any 29,.any 30] [(33,[.an 0 0,.an 0 1,.an 0 2,.an 0 3,.an 0 4,.an 0 5,.an 0 6,.an 0 7],false),(33,[.an 1 0,.an 1 1,.an 1 2,.an 1 3,.an 1 4,.an 1 5,.an 1 6,.an 1 7],false),(33,[.an 2 0,.an 2 1,.an 2 2,.an 2 3,.an 2 4,.an 2 5,.an 2 6,.an 2 7],false),(3,[.lit (.int .i64 0)],true),(4,[.lit (.bool false)],true),(23,[.an 3 0],false)] (rs:=[(cl 4 50 [.v true [.an 0 0,.an 0 1,.an 0 2,.an 0 3,.an 0 4,.an 0 5,.an 0 6,.an 0 7,.an 1 0,.an 1 1,.an 1 2,.an 1 3,.an 1 4,.an 1 5,.an 1 6,.an 1 7],ag 8 2],[])]) (js:=[.test 4 0 (List.range 5) []]) (outs:=[⟨.ret,(List.range 5),[(4,0,true)],[.any 0,.any 1,.any 2,.v false [.ptr 2 0],.v false [.ptr 3 0],.v false [.ptr 4 0],.any 6,.v false [.ptr 0 0],.v false [.ptr 1 0],.any 9,.any 10,.any 11,.any 12,.any 13,.any 14,.any 15,.any 16,ag 8 0,ag 8 1,.v true [.an 0 0,.an 0 1,.an 0 2,.an 0 3,.an 0 4,.an 0 5,.an 0 6,.an 0 7,.an 1 0,.an 1 1,.an 1 2,.an 1 3,.an 1 4,.an 1 5,.an 1 6,.an 1 7],ag 8 2,on 4,.any 22,.any 23,.any 24,.any 25,.any 26,.any 27,.any 28,.any 29,.any 30],[(0,33,[.an 0 0,.an 0 1,.an 0 2,.an 0 3,.an 0 4,.an 0 5,.an 0 6,.an 0 7]),(1,33,[.an 1 0,.an 1 1,.an 1 2,.an 1 3,.an 1 4,.an 1 5,.an 1 6,.an 1 7]),(2,33,[.an 2 0,.an 2 1,.an 2 2,.an 2 3,.an 2 4,.an 2 5,.an 2 6,.an 2 7]),(3,3,[.lit (.int .i64 0)]),(4,4,[.lit (.bool true)]),(5,23,[.an 3 0])],[3,4]⟩,⟨.normal,(List.range 5),[(4,0,false)],[.any 0,.any 1,.any 2,.v false [.ptr 2 0],.v false [.ptr 3 0],.v false [.ptr 4 0],.any 6,.v false [.ptr 0 0],.v false [.ptr 1 0],.any 9,.any 10,.any 11,.any 12,.any 13,.any 14,.any 15,.any 16,ag 8 0,ag 8 1,.v true [.an 0 0,.an 0 1,.an 0 2,.an 0 3,.an 0 4,.an 0 5,.an 0 6,.an 0 7,.an 1 0,.an 1 1,.an 1 2,.an 1 3,.an 1 4,.an 1 5,.an 1 6,.an 1 7],ag 8 2,on 4,.any 22,.any 23,.any 24,.any 25,.any 26,.any 27,.any 28,.any 29,.any 30],[(0,33,[.an 0 0,.an 0 1,.an 0 2,.an 0 3,.an 0 4,.an 0 5,.an 0 6,.an 0 7]),(1,33,[.an 1 0,.an 1 1,.an 1 2,.an 1 3,.an 1 4,.an 1 5,.an 1 6,.an 1 7]),(2,33,[.an 2 0,.an 2 1,.an 2 2,.an 2 3,.an 2 4,.an 2 5,.an 2 6,.an 2 7]),(3,3,[.lit (.int .i64 0)]),(4,4,[.lit (.bool false)]),(5,23,[.an 3 0])],[3,4]⟩]) (nc:=5) (by kernel_rfl) hw
   ⟨fun n=>match n with | 0=>D2 [p0,p1,p2,p3,p4,p5,p6,p7] | 1=>D2 [q0,q1,q2,q3,q4,q5,q6,q7] | 2=>D2 [z0,z1,z2,z3,z4,z5,z6,z7] | 3=>D2 [vl] | _=>fun _ => .bool false,fun b=>match b with | 0=>Bx | 1=>Bx+1 | 2=>w.heap.size | 3=>w.heap.size+1 | 4=>w.heap.size+1+1 | 5=>Bs | _=>0,fun i=>(#[va,.agg #[.slice ms0 mn0 mn0,.bool mx0,.slice ms1 mn1 mn1,.bool mx1,.slice ms2 mn2 mn2,.bool mx2,.slice ms3 mn3 mn3,.bool mx3],undef,.pointer (some ⟨w.heap.size,0,none⟩),.pointer (some ⟨w.heap.size+1,0,none⟩),.pointer (some ⟨w.heap.size+1+1,0,none⟩),vl,.pointer (some ⟨Bx,0,none⟩),.pointer (some ⟨Bx+1,0,none⟩),undef,undef,va,vl,vl,.func (.func 91) #[] #[.pointer (some ⟨Bs,0,none⟩)],.agg #[p0,p1,p2,p3,p4,p5,p6,p7],.agg #[q0,q1,q2,q3,q4,q5,q6,q7],undef,undef,undef,undef,undef,undef,undef,undef,undef,undef,undef,undef,undef,undef]:Array Value).getD i undef⟩
   (fun n c=>match n with | 0=>A9 hPp.one c | 1=>A9 hPq.one c | 2=>A9 hMz.one c | 3=>A9 (by simp [hvl]) c | _+4=>rfl) rfl (fun i=>match i with | 0=>rfl | 1=>rfl | 2=>rfl | 3=>rfl | 4=>rfl | 5=>rfl | 6=>rfl | 7=>rfl | 8=>rfl | 9=>rfl | 10=>rfl | 11=>rfl | 12=>rfl | 13=>rfl | 14=>rfl | 15=>rfl | 16=>rfl | 17=>rfl | 18=>rfl | 19=>rfl | 20=>rfl | 21=>rfl | 22=>rfl | 23=>rfl | 24=>rfl | 25=>rfl | 26=>rfl | 27=>rfl | 28=>rfl | 29=>rfl | 30=>rfl | _+31=>rfl)
   (fun b q hq=>match b,q,hq with
    | 0,_,rfl=>⟨hBp,fun e=>nomatch e⟩
    | 1,_,rfl=>⟨hBq,fun e=>nomatch e⟩
    | 2,_,rfl=>⟨hM,fun e=>nomatch e⟩
    | 3,_,rfl=>⟨hA,fun _=>(by omega:w.heap.size<=w.heap.size+1)⟩
    | 4,_,rfl=>⟨hT,fun _=>(by omega:w.heap.size<=w.heap.size+1+1)⟩
    | 5,_,rfl=>⟨hBs,fun e=>nomatch e⟩
    | _+6,_,hq=>nomatch hq)
   (fun b c hb hc hq=>match b,c,hb,hc with
    | 0,0,_,_=>rfl
    | 0,1,_,_=>absurd hq ne01
    | 0,2,_,_=>absurd hq ne02
    | 0,3,_,_=>absurd hq ne03
    | 0,4,_,_=>absurd hq ne04
    | 0,5,_,_=>absurd hq ne05
    | 1,0,_,_=>absurd hq (Ne.symm ne01)
    | 1,1,_,_=>rfl
    | 1,2,_,_=>absurd hq ne12
    | 1,3,_,_=>absurd hq ne13
    | 1,4,_,_=>absurd hq ne14
    | 1,5,_,_=>absurd hq ne15
    | 2,0,_,_=>absurd hq (Ne.symm ne02)
    | 2,1,_,_=>absurd hq (Ne.symm ne12)
    | 2,2,_,_=>rfl
    | 2,3,_,_=>absurd hq ne23
    | 2,4,_,_=>absurd hq ne24
    | 2,5,_,_=>absurd hq ne25
    | 3,0,_,_=>absurd hq (Ne.symm ne03)
    | 3,1,_,_=>absurd hq (Ne.symm ne13)
    | 3,2,_,_=>absurd hq (Ne.symm ne23)
    | 3,3,_,_=>rfl
    | 3,4,_,_=>absurd hq ne34
    | 3,5,_,_=>absurd hq ne35
    | 4,0,_,_=>absurd hq (Ne.symm ne04)
    | 4,1,_,_=>absurd hq (Ne.symm ne14)
    | 4,2,_,_=>absurd hq (Ne.symm ne24)
    | 4,3,_,_=>absurd hq (Ne.symm ne34)
    | 4,4,_,_=>rfl
    | 4,5,_,_=>absurd hq ne45
    | 5,0,_,_=>absurd hq (Ne.symm ne05)
    | 5,1,_,_=>absurd hq (Ne.symm ne15)
    | 5,2,_,_=>absurd hq (Ne.symm ne25)
    | 5,3,_,_=>absurd hq (Ne.symm ne35)
    | 5,4,_,_=>absurd hq (Ne.symm ne45)
    | 5,5,_,_=>rfl
    | _+6,_,hb,_=>absurd hb (by simp)
    | _,_+6,_,hc=>absurd hc (by simp))
   (fun jn hn=>match jn,hn with
    | 0,_=>hPp
    | 1,_=>hPq
    | 2,_=>hMz
    | 3,_=>⟨rfl,hvp,hob,hku⟩
    | _+4,hn=>absurd hn (by omega))
   (fun jn hn=>match jn,hn with
    | 0,_=>H7 rfl _ _ _ _
    | 1,_=>H7 rfl _ _ _ _
    | 2,_=>H7 rfl _ _ _ _
    | 3,_=>(fun b' p' hb' ho' hq=>by
      have hlow:w.heap.size+1+1<b /\ ∀ q,fpS vl q->w.heap.size+1+1<q:=hlo
      match b',p',hb',ho' with
      | 0,_,rfl,e=>cases e
      | 1,_,rfl,e=>cases e
      | 2,_,rfl,e=>cases e
      | 3,_,rfl,_=>
        have hq:fpS vl (w.heap.size+1)\/w.heap.size+1=b:=hq
        rcases hq with hq | hq
        · have:=hlow.2 _ hq;omega
        · omega
      | 4,_,rfl,_=>
        have hq:fpS vl (w.heap.size+1+1)\/w.heap.size+1+1=b:=hq
        rcases hq with hq | hq
        · have:=hlow.2 _ hq;omega
        · omega
      | 5,_,rfl,e=>cases e
      | _+6,_,e,_=>exact nomatch e)
    | _+4,hn=>absurd hn (by omega))
   ⟨fun σ W g h hp hb=>toUB (POn_any W _ _ (pt0 l x) (nxt l x) m K (mksg (h 0 rfl) (h 1 rfl)) (h 2 rfl) (by omega) (kC hbd x.2) (nxt_b hbd x.2) bm (hTab.kept g (by simp))),
   trivial⟩
   ⟨fun σ W g h hp=>⟨_,h 4 rfl⟩,
   trivial⟩
   ⟨fun τ W' g hk h hp hb0 had how a' hts hdf=>by
    obtain ⟨hbx,hne⟩:=hb0
    have k3:=hbx _ (.tail _ (.tail _ (.tail _ (.head _))))
    unfold G9 at k3
    rw [had 3 (by simp)] at k3
    have k4:=hbx _ (.tail _ (.tail _ (.tail _ (.tail _ (.head _)))))
    unfold G9 at k4
    rw [had 4 (by simp)] at k4
    exact ⟨hk.from _,rfl,⟨x,List.mem_append.2 (.inr (by simp)),decOf (vB' (h 4 rfl) (hp 4 0 true rfl))⟩,g,k3,k4⟩,
   fun τ W' g hk h hp hb0 had how a' hts hdf=>by
    obtain ⟨hbx,hne⟩:=hb0
    have k2:=hbx _ (.tail _ (.tail _ (.head _)))
    unfold G9 at k2
    rw [had 2 (by simp)] at k2
    have k3:=hbx _ (.tail _ (.tail _ (.tail _ (.head _))))
    unfold G9 at k3
    rw [had 3 (by simp)] at k3
    have k4:=hbx _ (.tail _ (.tail _ (.tail _ (.tail _ (.head _)))))
    unfold G9 at k4
    rw [had 4 (by simp)] at k4
    have k5:=hbx _ (.tail _ (.tail _ (.tail _ (.tail _ (.tail _ (.head _))))))
    unfold G9 at k5
    rw [had 5 (by simp)] at k5
    have hr3 : τ.an 3 0=vl/\PtsV W' vl l/\W'.heap[b]?=some (.cells cs t (0,0))/\Keeps J8 w1 W':=h 3 rfl
    have k5':W'.heap[Bs]?=some (.cells #[vl] 23 (0,0)):=by rw [<- hr3.1];exact k5
    refine ⟨hk.from _,⟨hr3.2.2.1.trans hob.symm,k5'.trans hBs.symm⟩,g,⟨_,_,_,_,_,_,_,_,k2,h 2 rfl⟩,k3,k4,k5',hr3.2.2.1,hr3.2.1,hr3.2.2.2, ?_⟩
    rintro ⟨y,hy,hyi⟩
    rcases List.mem_append.1 hy with hy | hy
    · exact hns ⟨y,hy,hyi⟩
    · obtain rfl:y=x:=by simpa using hy
      exact decNo (vB' (h 4 rfl) (hp 4 0 false rfl)) hyi,
   trivial⟩
 case done=>
  intro D xs W hDB hxs hI hD
  refine hK9 _ _ ?_
  obtain ⟨hw,⟨z0,z1,z2,z3,z4,z5,z6,z7,hM,hMz⟩,hA,hT,hBs,hob,hvp,hku,hns⟩:=hI
  have ne01:w.heap.size≠w.heap.size+1:=by omega
  have ne02:w.heap.size≠w.heap.size+1+1:=by omega
  have ne12:w.heap.size+1≠w.heap.size+1+1:=by omega
  refine O2 (Fc.wide _ Tryz.prog) B1 (prot:=J8) [uPt m,uRow w1 vl hvl l b (.cells cs t (0,0)),uRay 95 m,uZZ (cyL (ahd (lvl m) m) l) (cyL (thr (lvl m) m) l)] [] [] 31 2 [.any 0,.any 1,.any 2,.v false [.ptr 0 0],.v false [.ptr 1 0],.v false [.ptr 2 0],.v false [.an 1 0],.any 7,.any 8,.any 9,.any 10,.any 11,.any 12,.any 13,.any 14,.any 15,.any 16,.any 17,.any 18,.any 19,.any 20,.any 21,.any 22,.any 23,.any 24,.any 25,.any 26,.any 27,.any 28,.any 29,.any 30] [(33,[.an 0 0,.an 0 1,.an 0 2,.an 0 3,.an 0 4,.an 0 5,.an 0 6,.an 0 7],false),(3,[.lit (.int .i64 0)],true),(4,[.lit (.bool false)],true)] (rs:=[(cl 2 52 [ag 8 0],[]),(cl 3 51 [on 1,ag 8 0,on 2],[])]) (js:=[]) (outs:=[⟨.ret,(List.range 4),[],[.any 0,.any 1,.any 2,.v false [.ptr 0 0],.v false [.ptr 1 0],.v false [.ptr 2 0],on 1,.any 7,.any 8,on 3,.v false [.an 3 1],.any 11,.any 12,.any 13,.any 14,.any 15,.any 16,.any 17,.any 18,.any 19,.any 20,.any 21,.tup [(false,[.an 3 0]),(false,[.an 3 1])],on 1,ag 8 0,ag 8 0,on 2,.tup [(false,[.an 3 0]),(false,[.an 3 1])],on 3,.v false [.an 3 1],on 3],[(0,33,[.an 0 0,.an 0 1,.an 0 2,.an 0 3,.an 0 4,.an 0 5,.an 0 6,.an 0 7]),(1,3,[.an 3 0]),(2,4,[.lit (.bool false)])],[1,2]⟩]) (nc:=4) (by kernel_rfl) hw
   ⟨fun n=>match n with | 0=>D2 [z0,z1,z2,z3,z4,z5,z6,z7] | 1=>D2 [vl] | _=>fun _ => .bool false,fun b=>match b with | 0=>w.heap.size | 1=>w.heap.size+1 | 2=>w.heap.size+1+1 | _=>0,fun i=>(#[va,.agg #[.slice ms0 mn0 mn0,.bool mx0,.slice ms1 mn1 mn1,.bool mx1,.slice ms2 mn2 mn2,.bool mx2,.slice ms3 mn3 mn3,.bool mx3],undef,.pointer (some ⟨w.heap.size,0,none⟩),.pointer (some ⟨w.heap.size+1,0,none⟩),.pointer (some ⟨w.heap.size+1+1,0,none⟩),vl,undef,undef,undef,undef,va,vl,vl,.func (.func 91) #[] #[.pointer (some ⟨Bs,0,none⟩)],undef,undef,undef,undef,undef,undef,undef,undef,undef,undef,undef,undef,undef,undef,undef,undef]:Array Value).getD i undef⟩
   (fun n c=>match n with | 0=>A9 hMz.one c | 1=>A9 (by simp [hvl]) c | _+2=>rfl) rfl (fun i=>match i with | 0=>rfl | 1=>rfl | 2=>rfl | 3=>rfl | 4=>rfl | 5=>rfl | 6=>rfl | 7=>rfl | 8=>rfl | 9=>rfl | 10=>rfl | 11=>rfl | 12=>rfl | 13=>rfl | 14=>rfl | 15=>rfl | 16=>rfl | 17=>rfl | 18=>rfl | 19=>rfl | 20=>rfl | 21=>rfl | 22=>rfl | 23=>rfl | 24=>rfl | 25=>rfl | 26=>rfl | 27=>rfl | 28=>rfl | 29=>rfl | 30=>rfl | _+31=>rfl)
   (fun b q hq=>match b,q,hq with
    | 0,_,rfl=>⟨hM,fun e=>nomatch e⟩
    | 1,_,rfl=>⟨hA,fun _=>(by omega:w.heap.size<=w.heap.size+1)⟩
    | 2,_,rfl=>⟨hT,fun _=>(by omega:w.heap.size<=w.heap.size+1+1)⟩
    | _+3,_,hq=>nomatch hq)
   (fun b c hb hc hq=>match b,c,hb,hc with
    | 0,0,_,_=>rfl
    | 0,1,_,_=>absurd hq ne01
    | 0,2,_,_=>absurd hq ne02
    | 1,0,_,_=>absurd hq (Ne.symm ne01)
    | 1,1,_,_=>rfl
    | 1,2,_,_=>absurd hq ne12
    | 2,0,_,_=>absurd hq (Ne.symm ne02)
    | 2,1,_,_=>absurd hq (Ne.symm ne12)
    | 2,2,_,_=>rfl
    | _+3,_,hb,_=>absurd hb (by simp)
    | _,_+3,_,hc=>absurd hc (by simp))
   (fun jn hn=>match jn,hn with
    | 0,_=>hMz
    | 1,_=>⟨rfl,hvp,hob,hku⟩
    | _+2,hn=>absurd hn (by omega))
   (fun jn hn=>match jn,hn with
    | 0,_=>H7 rfl _ _ _ _
    | 1,_=>(fun b' p' hb' ho' hq=>by
      have hlow:w.heap.size+1+1<b /\ ∀ q,fpS vl q->w.heap.size+1+1<q:=hlo
      match b',p',hb',ho' with
      | 0,_,rfl,e=>cases e
      | 1,_,rfl,_=>
        have hq:fpS vl (w.heap.size+1)\/w.heap.size+1=b:=hq
        rcases hq with hq | hq
        · have:=hlow.2 _ hq;omega
        · omega
      | 2,_,rfl,_=>
        have hq:fpS vl (w.heap.size+1+1)\/w.heap.size+1+1=b:=hq
        rcases hq with hq | hq
        · have:=hlow.2 _ hq;omega
        · omega
      | _+3,_,e,_=>exact nomatch e)
    | _+2,hn=>absurd hn (by omega))
   ⟨fun σ W g h hp hb=>toURay (iQ W _ m (h 0 rfl)),
   fun σ W g h hp hb=>by
    obtain ⟨q,u0,u1,u2,u3,u4,u5,u6,u7,e1,e2,e3⟩:=h 2 rfl
    obtain ⟨e4,e5,e6,e7⟩:=h 1 rfl
    have e1 : σ.an 2 0=_:=e1
    have e4 : σ.an 1 0=vl:=e4
    show Calls _ _ #[σ.an 1 0,.agg #[σ.an 0 0, σ.an 0 1, σ.an 0 2, σ.an 0 3, σ.an 0 4, σ.an 0 5, σ.an 0 6, σ.an 0 7], σ.an 2 0] W _
    rw [e1,e4]
    exact toZZ (eB W vl q _ _ _ _ _ _ _ _ u0 u1 u2 u3 u4 u5 u6 u7 l m K e5 (h 0 rfl) e2 e3 (by omega) (by omega) hbd bm (hTab.kept g (by simp)) hvl),
   trivial⟩
   trivial
   ⟨fun τ W' g hk h hp hb0 had how a' hts hdf=>by
    obtain ⟨hbx,hne⟩:=hb0
    have k1:=hbx _ (.tail _ (.head _))
    unfold G9 at k1
    rw [had 1 (by simp)] at k1
    have k2:=hbx _ (.tail _ (.tail _ (.head _)))
    unfold G9 at k2
    rw [had 2 (by simp)] at k2
    have e0 : τ.an 3 0=_:=zz1 (h 3 rfl)
    have hD':=hk.same D _ hD rfl
    have hfar:K5 W0.heap.size W' (some D):=fun r e=>by cases e;exact ⟨hDB,_,hD',rfl⟩
    have hpo:=grownBy_putObj' W' D (.deferred none)
    have k1':=B3 hpo hfar k1
    have k2':=B3 hpo hfar k2
    show LeavesInM _ _ _ _ _ _ _ _ _
    rw [hdf]
    refine ⟨by simp,.inl ⟨_,_,rfl,run_takeDeferred hD', ?_⟩⟩
    refine ⟨_,bM rfl ?_ ?_ k1' k2' (by kernel_rfl) (by kernel_rfl), ?_,J5 (by omega) g hpo hfar⟩
    · rw [hts 4];show Value.pointer (some ⟨τ.ad 1,0,none⟩)=_;rw [had 1 (by simp)]
    · rw [hts 5];show Value.pointer (some ⟨τ.ad 2,0,none⟩)=_;rw [had 2 (by simp)]
    · show Ending.returned (.tuple #[τ.an 3 0,.bool false])=_
      have hno:=seen_all hxs hns
      rw [e0];unfold arN;rw [cD hno];rfl,
   trivial⟩
 case stop=>
  rintro D c pre W hDB _ ⟨rfl,hs,hg,hA,hT⟩ hD
  have hfar:K5 W0.heap.size W (some D):=fun r e=>by cases e;exact ⟨hDB,_,hD,rfl⟩
  have hpo:=grownBy_putObj' W D (.deferred none)
  have k1':=B3 hpo hfar hA
  have k2':=B3 hpo hfar hT
  refine wpIn_ret ?_
  show LeavesInM _ _ _ _ _ _ _ _ _
  refine ⟨by simp,.inl ⟨_,_,rfl,run_takeDeferred hD, ?_⟩⟩
  refine ⟨_,bM rfl rfl rfl k1' k2' (by kernel_rfl) (by kernel_rfl), ?_,J5 (by omega) hg hpo hfar⟩
  show Ending.returned (.tuple #[.int .i64 0,.bool true])=_
  have hon:=seen_on hs
  unfold arN
  rw [lA hon]
  rfl
end Go.Proofs.YtninnifpgpjfhaaGreatDoor
namespace Go.Proofs.YtninnifpgpjfhaaGreatDoor
open Go.RowKit Mat Ex PM
def sRf (f s0:Nat) (m:Pq):Sp where
 sh := .fnp f
 F v W:=RayV f W v m /\ ∀ q,fpF v q->s0<=q
 fits v W h:=by obtain ⟨⟨q,u0,u1,u2,u3,u4,u5,u6,u7,rfl,_⟩,_⟩:=h;exact ⟨fun _ => .pointer (some ⟨q,0,none⟩),fun _=>rfl,rfl⟩
 row:=true
 fp v _ q:=fpF v q
 lasts v W W' k hq h:=⟨⟨h.1.keeps k hq,h.2⟩,fun _ h=>h⟩
 inb v W h q hq:=h.1.inb q hq
 flat h:=by cases h
theorem toRf {P:Program} {f:FuncId} {n:Nat} {args:Array Value} {W:World} {m:Pq} {old:Nat->Prop} {s0:Nat} (hs:s0<=W.heap.size) (h:Calls P f args W (X5 n W m)):Calls P f args W (RetS W (sRf n s0 m) old):=
 h.mono fun _ _ ⟨q,u0,u1,u2,u3,u4,u5,u6,u7,a,h1,h2,h3,g⟩=>⟨_,a,⟨⟨q,u0,u1,u2,u3,u4,u5,u6,u7,rfl,h1,h2⟩,fun q' hq=>by obtain ⟨f',e⟩:=hq;cases e;omega⟩,g,fun q' hq => .inl (by obtain ⟨f',e⟩:=hq;cases e;exact h3)⟩
def sZZ (a b:Int):Sp := .of (.tup [(none,0),(none,0)]) (fun v _=>v = .tuple #[.int .i64 a,.int .i64 b]) (fun v W h=>S4 (u := .bool true) (cs:=[.int .i64 a,.int .i64 b]) (by simp [Value.oneCell']) h) (fun _ _ _ _ h=>h)
theorem szz1 {a b:Int} {u v:Value} {W:World} : (sZZ a b).F (.tuple #[u,v]) W->u = .int .i64 a:=fun h=>by cases h;rfl
theorem szz2 {a b:Int} {u v:Value} {W:World} : (sZZ a b).F (.tuple #[u,v]) W->v = .int .i64 b:=fun h=>by cases h;rfl
theorem toSZZ {P:Program} {f:FuncId} {args:Array Value} {W:World} {a b:Int} (h:Calls P f args W (fun e w'=>e = .returned (.tuple #[.int .i64 a,.int .i64 b])/\W.grownBy w' none)):Calls P f args W (Ret W (sZZ a b).F):=h.mono fun _ _ ⟨a,g⟩=>⟨_,a,rfl,g⟩
def besR (lf:Pq->Int) (m b:Pq) (l:List Pq):Int × Int:=if 0<lf b then (cyL (ahd lf m) l+cyL (thr lf m) l,cyL (ahd lf m) l) else (cyL (ahd lf m) l,cyL (ahd lf m) l+cyL (thr lf m) l)
def bes (l:List Pq) (a b:Pq):Int × Int:=if K9 a b=0 then (0,0) else if E1 a.2 b.2=0 then besR (upr (F5 a b)) (F5 a b) b l else besR (lvl (F5 a b)) (F5 a b) b l
theorem cy_b {f:Pq->Pq->Int} (hf:∀ a b, -1<=f a b/\f a b<=1) (l:List Pq) : -(l.length:Int)<=cyL f l/\cyL f l<=l.length:=by
 rw [<- upS_cy]
 have:∀ k:Nat, -(k:Int)<=upS f l k/\upS f l k<=k:=by
  intro k
  induction k with
  | zero=>exact ⟨Int.le_refl _,Int.le_refl _⟩
  | succ k ih=>
    have:=hf (pt0 l k) (nxt l k)
    show -((k+1:Nat):Int)<=upS f l k+f (pt0 l k) (nxt l k)/\upS f l k+f (pt0 l k) (nxt l k)<=((k+1:Nat):Int)
    omega
 exact this l.length
theorem vBy {v:Value} {a b:Bool} (h:v = .bool a) (h2:v = .bool b):a=b:=by rw [h] at h2;exact Value.bool.inj h2
theorem WBeside_any (w:World) (va vb:Value) (l:List Pq) (a b:Pq) (K:Nat) (Ha:PtsV w va l) (Hb:SgV w vb a b) (hK : 1<=K/\K<=2000) (hn:l.length<=200) (hbd:∀ p ∈ l,Bp K p) (ba:Bp K a) (bb:Bp K b) (hTab:Tab w) :
 Calls Tryz.prog 18 #[va,vb] w (fun e w'=>e = .returned (.tuple #[.int .i64 (bes l a b).1,.int .i64 (bes l a b).2])/\w.grownBy w' none):=by
 have bm:=ba.mid bb hK.1
 have hbd':∀ p ∈ l,Bp (4*K+2) p:=fun p hp=>(hbd p hp).mono (by omega)
 rcases (show K9 a b=0\/(K9 a b≠0/\E1 a.2 b.2=0)\/(K9 a b≠0/\E1 a.2 b.2≠0) by omega) with h0 | ⟨h0,h1⟩ | ⟨h0,h1⟩
 · skip
   unfold bes
   rw [if_pos h0]
   refine A4 B1 Tryz.func18 [sPts 0 l,sSg a b] [sZ (K9 a b),sV (.bool true)] (.cons ⟨Ha,fun _ _=>Nat.zero_le _⟩ (.cons Hb .nil)) (rs:=[cl 2 55 [ag 8 1,.v true [.an 1 8,.an 1 9,.an 1 10,.an 1 11,.an 1 12,.an 1 13,.an 1 14,.an 1 15]],co 3 (.binOp .eql 3 (.tmp 14) (.const (.int .i64 0)) 3) 4 [on 2,.v false [.lit (.int .i64 0)]] [0,1,2] []]) (out := .tup [(false,[.lit (.int .i64 0)]),(false,[.lit (.int .i64 0)])]) (nc:=4) (by kernel_rfl)
    ⟨fun σ W g h hb=>toZ (I5 W _ _ a b K (sg1 (h 1 rfl)) (sg2 (h 1 rfl)) (by omega) ba bb) rfl,
    fun σ W g h hb=>fun ρ o ho _ hv=>⟨_,F7 true ho ((A0 hv).1.trans (h 2 rfl)) (A0 hv).2 (decide_eq_true h0),rfl⟩,
    trivial⟩ fun τ W g h=>⟨rfl,g⟩
 · skip
   unfold bes
   rw [if_neg h0,if_pos h1]
   have b1:=cy_b (ahd_b (upr (F5 a b)) (F5 a b)) l
   have b2:=cy_b (thr_b (upr (F5 a b)) (F5 a b)) l
   refine W9 B1 Tryz.func18 [sPts 0 l,sSg a b] [sZ (K9 a b),sV (.bool false),sPt (F5 a b),sRf 128 0 (F5 a b),sZZ (cyL (ahd (upr (F5 a b)) (F5 a b)) l) (cyL (thr (upr (F5 a b)) (F5 a b)) l),sZ (upr (F5 a b) b),sC (.bool (decide (0<upr (F5 a b) b))) rfl,sZ (cyL (ahd (upr (F5 a b)) (F5 a b)) l+cyL (thr (upr (F5 a b)) (F5 a b)) l),sZ (cyL (ahd (upr (F5 a b)) (F5 a b)) l+cyL (thr (upr (F5 a b)) (F5 a b)) l)] [] [] (.cons ⟨Ha,fun _ _=>Nat.zero_le _⟩ (.cons Hb .nil)) (rs:=[(cl 2 55 [ag 8 1,.v true [.an 1 8,.an 1 9,.an 1 10,.an 1 11,.an 1 12,.an 1 13,.an 1 14,.an 1 15]],[]),(co 3 (.binOp .eql 3 (.tmp 14) (.const (.int .i64 0)) 3) 4 [on 2,.v false [.lit (.int .i64 0)]] [0,1,2] [],[]),(cl 4 56 [ag 16 1],[]),(cl 5 57 [ag 16 1,ag 8 4],[]),(cl 6 51 [on 0,ag 8 4,.fn 128 [.an 5 0]],[]),(cl 7 128 [.v true [.an 1 8,.an 1 9,.an 1 10,.an 1 11,.an 1 12,.an 1 13,.an 1 14,.an 1 15],on 5],[]),(co 8 (.binOp .gtr 3 (.tmp 31) (.const (.int .i64 0)) 3) 4 [on 7,.v false [.lit (.int .i64 0)]] [0,1,2,3,4,5,6,7] [],[]),(co 9 (.binOp .add 3 (.tmp 33) (.tmp 34) 3) 3 [on 6,.v false [.an 6 1]] [0,1,2,3,4,5,6,7,8] [],[(8,0,true)]),(co 10 (.binOp .add 3 (.tmp 38) (.tmp 39) 3) 3 [on 6,.v false [.an 6 1]] [0,1,2,3,4,5,6,7,8] [],[(8,0,false)])]) (js:=[.test 8 0 (List.range 9) []]) (outs:=[⟨.tup [(false,[.an 9 0]),(false,[.an 6 0])],(List.range 10),[(8,0,true)],[],[]⟩,⟨.tup [(false,[.an 6 0]),(false,[.an 10 0])],[0,1,2,3,4,5,6,7,8,10],[(8,0,false)],[],[]⟩]) (nc:=11) (by kernel_rfl)
    ⟨fun σ W g h hp hb=>toZ (I5 W _ _ a b K (sg1 (h 1 rfl)) (sg2 (h 1 rfl)) (by omega) ba bb) rfl,
    fun σ W g h hp hb=>fun ρ o ho _ hv=>⟨_,F7 false ho ((A0 hv).1.trans (h 2 rfl)) (A0 hv).2 (decide_eq_false h0),rfl⟩,
    fun σ W g h hp hb=>eA W _ a b K (h 1 rfl) (by omega) ba bb (hTab.kept g (by simp)),
    fun σ W g h hp hb=>toRf (Nat.zero_le _) (mT W _ _ a b _ K (h 1 rfl) (h 4 rfl) (by omega) ba bb h1),
    fun σ W g h hp hb=>by
     obtain ⟨⟨q,u0,u1,u2,u3,u4,u5,u6,u7,e1,e2,e3⟩,e9⟩:=h 5 rfl
     have e1:Value.func (.func 128) #[] #[σ.an 5 0]=_:=e1
     have e1 : σ.an 5 0 = .pointer (some ⟨q,0,none⟩):=by simpa using e1
     have e4:PtsV W (σ.an 0 0) l:=(h 0 rfl).1
     show Calls _ _ #[σ.an 0 0,.agg #[σ.an 4 0, σ.an 4 1, σ.an 4 2, σ.an 4 3, σ.an 4 4, σ.an 4 5, σ.an 4 6, σ.an 4 7],.func (.func 128) #[] #[σ.an 5 0]] W _
     rw [e1]
     exact toSZZ (WCrossU_any W _ q _ _ _ _ _ _ _ _ u0 u1 u2 u3 u4 u5 u6 u7 l (F5 a b) (4*K+2) e4 (h 4 rfl) e2 e3 (by omega) (by omega) hbd' bm (hTab.kept g (by simp)) (by obtain ⟨s,n,c,e,_⟩:=e4;rw [e];rfl)),
    fun σ W g h hp hb=>by
     obtain ⟨⟨q,u0,u1,u2,u3,u4,u5,u6,u7,e1,e2,e3⟩,e9⟩:=h 5 rfl
     have e1:Value.func (.func 128) #[] #[σ.an 5 0]=_:=e1
     have e1 : σ.an 5 0 = .pointer (some ⟨q,0,none⟩):=by simpa using e1
     show Calls _ _ #[_, σ.an 5 0] W _
     rw [e1]
     exact toZ (R2 W _ q u0 u1 u2 u3 u4 u5 u6 u7 b (F5 a b) (4*K+2) (sg2 (h 1 rfl)) e2 e3 (by omega) (bb.mono (by omega)) bm) rfl,
    fun σ W g h hp hb=>fun ρ o ho _ hv=>⟨_,G6 _ ho ((A0 hv).1.trans (h 7 rfl)) (A0 hv).2 rfl,rfl⟩,
    fun σ W g h hp hb=>fun ρ o ho _ hv=>⟨_,B8 ho ((A0 hv).1.trans (szz1 (h 6 rfl))) ((A0 hv).2.trans (szz2 (h 6 rfl))) (P8 (by omega) (by omega)),rfl⟩,
    fun σ W g h hp hb=>fun ρ o ho _ hv=>⟨_,B8 ho ((A0 hv).1.trans (szz1 (h 6 rfl))) ((A0 hv).2.trans (szz2 (h 6 rfl))) (P8 (by omega) (by omega)),rfl⟩,
    trivial⟩
    ⟨fun σ W g h hp=>⟨_,h 8 rfl⟩,
    trivial⟩
    ⟨fun τ W g h hp hb=>by
     have q:=of_decide_eq_true (vBy (h 8 rfl) (hp 8 0 true rfl))
     refine ⟨?_,g⟩
     unfold besR
     rw [if_pos q]
     have e1 : τ.an 9 0=_:=h 9 rfl
     have e2 : τ.an 6 0=_:=szz1 (h 6 rfl)
     show Ending.returned (.tuple #[τ.an 9 0, τ.an 6 0])=_
     rw [e1,e2],
    fun τ W g h hp hb=>by
     have q:=of_decide_eq_false (vBy (h 8 rfl) (hp 8 0 false rfl))
     refine ⟨?_,g⟩
     unfold besR
     rw [if_neg q]
     have e1 : τ.an 10 0=_:=h 10 rfl
     have e2 : τ.an 6 0=_:=szz1 (h 6 rfl)
     show Ending.returned (.tuple #[τ.an 6 0, τ.an 10 0])=_
     rw [e1,e2],
    trivial⟩
 · skip
   unfold bes
   rw [if_neg h0,if_neg h1]
   have b1:=cy_b (ahd_b (lvl (F5 a b)) (F5 a b)) l
   have b2:=cy_b (thr_b (lvl (F5 a b)) (F5 a b)) l
   refine W9 B1 Tryz.func18 [sPts 0 l,sSg a b] [sZ (K9 a b),sV (.bool false),sPt (F5 a b),sRf 95 0 (F5 a b),sZZ (cyL (ahd (lvl (F5 a b)) (F5 a b)) l) (cyL (thr (lvl (F5 a b)) (F5 a b)) l),sZ (lvl (F5 a b) b),sC (.bool (decide (0<lvl (F5 a b) b))) rfl,sZ (cyL (ahd (lvl (F5 a b)) (F5 a b)) l+cyL (thr (lvl (F5 a b)) (F5 a b)) l),sZ (cyL (ahd (lvl (F5 a b)) (F5 a b)) l+cyL (thr (lvl (F5 a b)) (F5 a b)) l)] [] [] (.cons ⟨Ha,fun _ _=>Nat.zero_le _⟩ (.cons Hb .nil)) (rs:=[(cl 2 55 [ag 8 1,.v true [.an 1 8,.an 1 9,.an 1 10,.an 1 11,.an 1 12,.an 1 13,.an 1 14,.an 1 15]],[]),(co 3 (.binOp .eql 3 (.tmp 14) (.const (.int .i64 0)) 3) 4 [on 2,.v false [.lit (.int .i64 0)]] [0,1,2] [],[]),(cl 4 56 [ag 16 1],[]),(cl 5 57 [ag 16 1,ag 8 4],[]),(cl 6 51 [on 0,ag 8 4,.fn 95 [.an 5 0]],[]),(cl 7 95 [.v true [.an 1 8,.an 1 9,.an 1 10,.an 1 11,.an 1 12,.an 1 13,.an 1 14,.an 1 15],on 5],[]),(co 8 (.binOp .gtr 3 (.tmp 31) (.const (.int .i64 0)) 3) 4 [on 7,.v false [.lit (.int .i64 0)]] [0,1,2,3,4,5,6,7] [],[]),(co 9 (.binOp .add 3 (.tmp 33) (.tmp 34) 3) 3 [on 6,.v false [.an 6 1]] [0,1,2,3,4,5,6,7,8] [],[(8,0,true)]),(co 10 (.binOp .add 3 (.tmp 38) (.tmp 39) 3) 3 [on 6,.v false [.an 6 1]] [0,1,2,3,4,5,6,7,8] [],[(8,0,false)])]) (js:=[.test 8 0 (List.range 9) []]) (outs:=[⟨.tup [(false,[.an 9 0]),(false,[.an 6 0])],(List.range 10),[(8,0,true)],[],[]⟩,⟨.tup [(false,[.an 6 0]),(false,[.an 10 0])],[0,1,2,3,4,5,6,7,8,10],[(8,0,false)],[],[]⟩]) (nc:=11) (by kernel_rfl)
    ⟨fun σ W g h hp hb=>toZ (I5 W _ _ a b K (sg1 (h 1 rfl)) (sg2 (h 1 rfl)) (by omega) ba bb) rfl,
    fun σ W g h hp hb=>fun ρ o ho _ hv=>⟨_,F7 false ho ((A0 hv).1.trans (h 2 rfl)) (A0 hv).2 (decide_eq_false h0),rfl⟩,
    fun σ W g h hp hb=>eA W _ a b K (h 1 rfl) (by omega) ba bb (hTab.kept g (by simp)),
    fun σ W g h hp hb=>toRf (Nat.zero_le _) (mU W _ _ a b _ K (h 1 rfl) (h 4 rfl) (by omega) ba bb h1),
    fun σ W g h hp hb=>by
     obtain ⟨⟨q,u0,u1,u2,u3,u4,u5,u6,u7,e1,e2,e3⟩,e9⟩:=h 5 rfl
     have e1:Value.func (.func 95) #[] #[σ.an 5 0]=_:=e1
     have e1 : σ.an 5 0 = .pointer (some ⟨q,0,none⟩):=by simpa using e1
     have e4:PtsV W (σ.an 0 0) l:=(h 0 rfl).1
     show Calls _ _ #[σ.an 0 0,.agg #[σ.an 4 0, σ.an 4 1, σ.an 4 2, σ.an 4 3, σ.an 4 4, σ.an 4 5, σ.an 4 6, σ.an 4 7],.func (.func 95) #[] #[σ.an 5 0]] W _
     rw [e1]
     exact toSZZ (eB W _ q _ _ _ _ _ _ _ _ u0 u1 u2 u3 u4 u5 u6 u7 l (F5 a b) (4*K+2) e4 (h 4 rfl) e2 e3 (by omega) (by omega) hbd' bm (hTab.kept g (by simp)) (by obtain ⟨s,n,c,e,_⟩:=e4;rw [e];rfl)),
    fun σ W g h hp hb=>by
     obtain ⟨⟨q,u0,u1,u2,u3,u4,u5,u6,u7,e1,e2,e3⟩,e9⟩:=h 5 rfl
     have e1:Value.func (.func 95) #[] #[σ.an 5 0]=_:=e1
     have e1 : σ.an 5 0 = .pointer (some ⟨q,0,none⟩):=by simpa using e1
     show Calls _ _ #[_, σ.an 5 0] W _
     rw [e1]
     exact toZ (X3 W _ q u0 u1 u2 u3 u4 u5 u6 u7 b (F5 a b) (4*K+2) (sg2 (h 1 rfl)) e2 e3 (by omega) (bb.mono (by omega)) bm) rfl,
    fun σ W g h hp hb=>fun ρ o ho _ hv=>⟨_,G6 _ ho ((A0 hv).1.trans (h 7 rfl)) (A0 hv).2 rfl,rfl⟩,
    fun σ W g h hp hb=>fun ρ o ho _ hv=>⟨_,B8 ho ((A0 hv).1.trans (szz1 (h 6 rfl))) ((A0 hv).2.trans (szz2 (h 6 rfl))) (P8 (by omega) (by omega)),rfl⟩,
    fun σ W g h hp hb=>fun ρ o ho _ hv=>⟨_,B8 ho ((A0 hv).1.trans (szz1 (h 6 rfl))) ((A0 hv).2.trans (szz2 (h 6 rfl))) (P8 (by omega) (by omega)),rfl⟩,
    trivial⟩
    ⟨fun σ W g h hp=>⟨_,h 8 rfl⟩,
    trivial⟩
    ⟨fun τ W g h hp hb=>by
     have q:=of_decide_eq_true (vBy (h 8 rfl) (hp 8 0 true rfl))
     refine ⟨?_,g⟩
     unfold besR
     rw [if_pos q]
     have e1 : τ.an 9 0=_:=h 9 rfl
     have e2 : τ.an 6 0=_:=szz1 (h 6 rfl)
     show Ending.returned (.tuple #[τ.an 9 0, τ.an 6 0])=_
     rw [e1,e2],
    fun τ W g h hp hb=>by
     have q:=of_decide_eq_false (vBy (h 8 rfl) (hp 8 0 false rfl))
     refine ⟨?_,g⟩
     unfold besR
     rw [if_neg q]
     have e1 : τ.an 10 0=_:=h 10 rfl
     have e2 : τ.an 6 0=_:=szz1 (h 6 rfl)
     show Ending.returned (.tuple #[τ.an 6 0, τ.an 10 0])=_
     rw [e1,e2],
    trivial⟩
def onB (l:List Pq) (p:Pq):Bool:=(List.range l.length).any fun i=>decide (B5 (pt0 l i) (nxt l i) p=0) && decide (fU p (pt0 l i) (nxt l i)<=0)
theorem lX (l:List Pq) (p:Pq):dec (OnR l p)=onB l p:=by
 have key:OnR l p ↔ onB l p=true:=by
  unfold OnR onB
  rw [List.any_eq_true]
  constructor
  · rintro ⟨i,hi,h⟩
    have:=ins_doc.1 h
    exact ⟨i,List.mem_range.2 hi,by rw [Bool.and_eq_true];exact ⟨decide_eq_true this.1,decide_eq_true this.2⟩⟩
  · rintro ⟨i,hi,h⟩
    rw [Bool.and_eq_true] at h
    exact ⟨i,List.mem_range.1 hi,ins_doc.2 ⟨of_decide_eq_true h.1,of_decide_eq_true h.2⟩⟩
 cases hb:onB l p with
 | true=>exact lA (key.2 hb)
 | false=>exact cD fun e=>by rw [key.1 e] at hb;cases hb
def arB (l:List Pq) (p:Pq):Int:=if onB l p=true then 0 else winds l p
theorem arB_is (l:List Pq) (p:Pq):arN l p=arB l p:=by unfold arN arB;rw [lX]
def rowK:List G2:=[(0,0),(4,0),(4,4),(0,4)]
theorem bO:∀ d ∈ rowK,eK d:=by
 intro d hd
 unfold eK
 simp [rowK] at hd
 rcases hd with rfl | rfl | rfl | rfl<;>refine ⟨⟨?_, ?_⟩, ?_, ?_⟩<;>decide
theorem bN:rowK.length<=200:=by decide
theorem glK_len:(gl rowK).length<=200:=by decide
theorem eN {W:World} {q:Nat} (hb:W.heap[q]?=some (.cells #[.int .i64 0,.int .i64 0,.int .i64 4,.int .i64 0,.int .i64 4,.int .i64 4,.int .i64 0,.int .i64 4] 60 (0,0))):GsV W.heap.size W (.slice (some ⟨q,0,none⟩) 4 4) rowK:=by
 refine ⟨_,_,_,rfl,rfl,by omega,.inr ⟨q,0,rfl,(Array.getElem?_eq_some_iff.1 hb).1,fun i hi=>?_⟩⟩
 match i,hi with
 | 0,_=>constructor<;>(unfold World.cell?;rw [hb];rfl)
 | 1,_=>constructor<;>(unfold World.cell?;rw [hb];rfl)
 | 2,_=>constructor<;>(unfold World.cell?;rw [hb];rfl)
 | 3,_=>constructor<;>(unfold World.cell?;rw [hb];rfl)
theorem kn1:arN (gl rowK) (G8 1 1)=1/\dec (OnR (gl rowK) (G8 1 1))=false:=by rw [arB_is,lX];constructor<;>decide +kernel
theorem kn2:arN (gl rowK) (G8 5 5)=0/\dec (OnR (gl rowK) (G8 5 5))=false:=by rw [arB_is,lX];constructor<;>decide +kernel
theorem kn3:arN (gl rowK) (G8 4 2)=0/\dec (OnR (gl rowK) (G8 4 2))=true:=by rw [arB_is,lX];constructor<;>decide +kernel
theorem kn4:(bes (gl rowK) (G8 0 0) (G8 4 0)).1=1/\(bes (gl rowK) (G8 0 0) (G8 4 0)).2=0:=by constructor<;>decide +kernel
theorem glK_b:∀ p ∈ gl rowK,Bp 1 p:=by
 intro p hp
 obtain ⟨d,hd,rfl⟩:=List.mem_map.1 hp
 have:=bO d hd
 exact grid_b this.1.1 this.1.2 this.2.1 this.2.2
theorem gk_b {x y:Int} (hx : 0<=x/\x<=5) (hy : 0<=y/\y<=5):Bp 1 (G8 x y):=grid_b (by omega) (by omega) (by omega) (by omega)
theorem known13_any (w:World) (hTab:Tab w) :
 Calls Tryz.prog 17 #[] w (fun e w'=>e = .returned (.bool true)/\w.grownBy w' none):=by
 refine W9 B1 Tryz.func17 [] [sPt (G8 1 1),sVV (.int .i64 1) (.bool false),sPt (G8 5 5),sVV (.int .i64 0) (.bool false),sPt (G8 4 2),sVV (.int .i64 0) (.bool true),sPts 0 (gl rowK),sPt (G8 0 0),sPt (G8 4 0),sVV (.int .i64 1) (.int .i64 0)] [] [] .nil (rs:=[(cl 0 25 [.v true [.lit (.int .i64 1),.lit (.int .i64 1)]],[]),(clb 1 15 [.v false [.row 0 0 4 4],ag 8 0] [0] [(0,60,[.lit (.int .i64 0),.lit (.int .i64 0),.lit (.int .i64 4),.lit (.int .i64 0),.lit (.int .i64 4),.lit (.int .i64 4),.lit (.int .i64 0),.lit (.int .i64 4)])],[]),(cl 2 25 [.v true [.lit (.int .i64 5),.lit (.int .i64 5)]],[]),(clb 3 15 [.v false [.row 0 0 4 4],ag 8 2] [0,1,2] [(0,60,[.lit (.int .i64 0),.lit (.int .i64 0),.lit (.int .i64 4),.lit (.int .i64 0),.lit (.int .i64 4),.lit (.int .i64 4),.lit (.int .i64 0),.lit (.int .i64 4)])],[]),(cl 4 25 [.v true [.lit (.int .i64 4),.lit (.int .i64 2)]],[]),(clb 5 15 [.v false [.row 0 0 4 4],ag 8 4] [0,1,2,3,4] [(0,60,[.lit (.int .i64 0),.lit (.int .i64 0),.lit (.int .i64 4),.lit (.int .i64 0),.lit (.int .i64 4),.lit (.int .i64 4),.lit (.int .i64 0),.lit (.int .i64 4)])],[]),(clb 6 19 [.v false [.row 0 0 4 4]] [0,1,2,3,4,5] [(0,60,[.lit (.int .i64 0),.lit (.int .i64 0),.lit (.int .i64 4),.lit (.int .i64 0),.lit (.int .i64 4),.lit (.int .i64 4),.lit (.int .i64 0),.lit (.int .i64 4)])],[]),(cl 7 25 [.v true [.lit (.int .i64 0),.lit (.int .i64 0)]],[]),(cl 8 25 [.v true [.lit (.int .i64 4),.lit (.int .i64 0)]],[]),(cl 9 18 [on 6,.v true [.an 7 0,.an 7 1,.an 7 2,.an 7 3,.an 7 4,.an 7 5,.an 7 6,.an 7 7,.an 8 0,.an 8 1,.an 8 2,.an 8 3,.an 8 4,.an 8 5,.an 8 6,.an 8 7]],[])]) (js:=[]) (outs:=[⟨.v false [.lit (.bool true)],(List.range 10),[],[],[]⟩]) (nc:=10) (by kernel_rfl)
  ⟨fun σ W g h hp hb=>O6 W 1 1 (by omega) (by omega) (by omega) (by omega),
  fun σ W g h hp hb=>toVV (Q7 W _ _ rowK (G8 1 1) 1 (eN (hb.1 _ (.head _))) (h 0 rfl) (by omega) bN bO (gk_b (by omega) (by omega)) (hTab.kept g (by simp))) (congrArg (Value.int .i64) kn1.1) (congrArg Value.bool kn1.2),
  fun σ W g h hp hb=>O6 W 5 5 (by omega) (by omega) (by omega) (by omega),
  fun σ W g h hp hb=>toVV (Q7 W _ _ rowK (G8 5 5) 1 (eN (hb.1 _ (.head _))) (h 2 rfl) (by omega) bN bO (gk_b (by omega) (by omega)) (hTab.kept g (by simp))) (congrArg (Value.int .i64) kn2.1) (congrArg Value.bool kn2.2),
  fun σ W g h hp hb=>O6 W 4 2 (by omega) (by omega) (by omega) (by omega),
  fun σ W g h hp hb=>toVV (Q7 W _ _ rowK (G8 4 2) 1 (eN (hb.1 _ (.head _))) (h 4 rfl) (by omega) bN bO (gk_b (by omega) (by omega)) (hTab.kept g (by simp))) (congrArg (Value.int .i64) kn3.1) (congrArg Value.bool kn3.2),
  fun σ W g h hp hb=>toPts (Nat.zero_le _) (lG W _ rowK (eN (hb.1 _ (.head _))) bN bO),
  fun σ W g h hp hb=>O6 W 0 0 (by omega) (by omega) (by omega) (by omega),
  fun σ W g h hp hb=>O6 W 4 0 (by omega) (by omega) (by omega) (by omega),
  fun σ W g h hp hb=>toVV (WBeside_any W _ _ (gl rowK) (G8 0 0) (G8 4 0) 1 (h 6 rfl).1 (mksg (h 7 rfl) (h 8 rfl)) (by omega) glK_len glK_b (gk_b (by omega) (by omega)) (gk_b (by omega) (by omega)) (hTab.kept g (by simp))) (congrArg (Value.int .i64) kn4.1) (congrArg (Value.int .i64) kn4.2),
  trivial⟩
  trivial
  ⟨fun τ W g h hp hb=>⟨rfl,g⟩,
  trivial⟩
def kG:bA G2:=⟨60,2,fun _ cs d=>cs=[.int .i64 d.1,.int .i64 d.2],fun h _=>h,by kernel_rfl⟩
def g2c:List G2->List Value
 | []=>[]
 | d :: l => .int .i64 d.1 :: .int .i64 d.2 :: g2c l
theorem g2c_len:∀ l:List G2,(g2c l).length=l.length*2
 | []=>rfl
 | d :: l=>by show (g2c l).length+1+1=(l.length+1)*2;rw [g2c_len l];omega
theorem g2c_one:∀ (l:List G2),∀ u ∈ g2c l,u.oneCell'=true
 | [],u,h=>nomatch h
 | d :: l,u,h=>by
   rcases List.mem_cons.1 h with rfl | h
   · rfl
   · rcases List.mem_cons.1 h with rfl | h
     · rfl
     · exact g2c_one l u h
theorem kT {W:World} {b:Nat} : ∀ (l:List G2) (o:Nat),(∀ i (h:i<l.length),GAt W b (o+2*i) l[i]) -> ∀ j u,(g2c l)[j]?=some u->W.cell? ⟨b,o+j,none⟩=some u
 | [],o,h,j,u,e=>by cases e
 | d :: l,o,h,j,u,e=>by
   have h0:=h 0 (by simp)
   match j,e with
   | 0,e=>cases e;exact h0.1
   | 1,e=>cases e;exact h0.2
   | j+2,e=>
     have:=kT l (o+2) (fun i hi=>by
      have:=h (i+1) (by simpa using hi)
      rw [show o+2*(i+1)=o+2+2*i by omega] at this
      exact this) j u e
     rw [show o+(j+2)=o+2+j by omega];exact this
theorem g2c_at:∀ (l:List G2) (i:Nat) (h:i<l.length),((g2c l).drop (2*i)).take 2=[.int .i64 l[i].1,.int .i64 l[i].2]
 | d :: l,0,h=>rfl
 | d :: l,i+1,h=>by
   rw [show 2*(i+1)=2*i+2 by omega]
   exact g2c_at l i (by simpa using h)
theorem own_g {w:World} {base:Nat} {v:Value} {l:List G2} (h:w.ownsRow base 60 2 v l.length (g2c l)):OwV kG base w v l:=⟨g2c l,h,fun i hi=>g2c_at l i hi⟩
theorem OwV.gs {base:Nat} {W:World} {v:Value} {l:List G2} (h:OwV kG base W v l):GsV W.heap.size W v l:=by
 obtain ⟨xs,⟨hl,h2⟩,hA⟩:=h
 rcases h2 with ⟨rfl,h0⟩ | ⟨g,cap,cur,rfl,hbg,hg,hnc,hcm,hcs,htk⟩
 · exact ⟨none,0,0,rfl,h0,Nat.le_refl _,.inl (List.eq_nil_of_length_eq_zero h0)⟩
 · refine ⟨_,_,_,rfl,rfl,hnc,.inr ⟨g,0,rfl,(Array.getElem?_eq_some_iff.1 hg).1,fun i hi=>?_⟩⟩
   have e:(xs.drop (2*i)).take 2=[.int .i64 l[i].1,.int .i64 l[i].2]:=hA i hi
   have hx:∀ r u,r<2->((xs.drop (2*i)).take 2)[r]?=some u->W.cell? ⟨g,0+2*i+r,none⟩=some u:=fun r u hr hu=>by
    rw [List.getElem?_take_of_lt hr,List.getElem?_drop] at hu
    have hlt : 2*i+r<l.length*2:=by omega
    have:cur[2*i+r]?=some u:=by
     rw [<- Array.getElem?_toList]
     have h3:(cur.toList.take (l.length*2))[2*i+r]?=some u:=by
      have htk':cur.toList.take (l.length*2)=xs:=htk
      rw [htk'];exact hu
     rwa [List.getElem?_take_of_lt hlt] at h3
    rw [Nat.zero_add]
    unfold World.cell?
    rw [hg]
    exact this
   exact ⟨hx 0 _ (by omega) (by rw [e];rfl),hx 1 _ (by omega) (by rw [e];rfl)⟩
theorem GsV.up {b B:Nat} {w:World} {v:Value} {l:List G2} (h:GsV b w v l) (hB:b<=B):GsV B w v l:=by
 obtain ⟨s,n,c,rfl,h1,h2,h3⟩:=h
 exact ⟨s,n,c,rfl,h1,h2,h3.imp_right fun ⟨q,off,e,hq,hd⟩=>⟨q,off,e,Nat.lt_of_lt_of_le hq hB,hd⟩⟩
theorem GsV.rebase {b B:Nat} {w:World} {v:Value} {l:List G2} (h:GsV b w v l) (hB:∀ q,fpS v q->q<B):GsV B w v l:=by
 obtain ⟨s,n,c,rfl,h1,h2,h3⟩:=h
 refine ⟨s,n,c,rfl,h1,h2, ?_⟩
 by_cases h0:l=[]
 · exact .inl h0
 · obtain ⟨q,off,rfl,hq,hd⟩:=h3.resolve_left h0
   obtain ⟨m,rfl⟩:∃ m,n=m+1:=⟨n-1,by have:=List.length_pos_iff.2 h0;omega⟩
   exact .inr ⟨q,off,rfl,hB q ⟨off,m,c,rfl⟩,hd⟩
theorem appG {specs:List Sp} {w W:World} {av:List Nat} {σ : Env} {n:Nat} {run:Value->World->Prop} (g:w.grownBy W none) (hF:∀ m,av.elem m=true->Fact (sp specs) σ W m)
 (hr:∃ v W',run v W'/\W.grownBy W' none/\(sp specs n).F v W' /\ ∀ q,(sp specs n).fp v W' q->W.heap.size<=q):AppS specs w av σ W n run:=by
 obtain ⟨v,W',hrun,hg,hv,hf⟩:=hr
 refine ⟨v,W',hrun,⟨A2 g hg,hg.size,fun q hq _=>hg.block q hq (fun e=>nomatch e),KeepsOthers.of_grownBy hg (fun j o e=>nomatch e)⟩,Keeps.grown hg,hv,fun q hq => .inl (hf q hq),fun m hm hr=>?_⟩
 exact (sp specs m).lasts _ W W' (Keeps.grown hg) (fun q hq=>hg.block q ((sp specs m).inb _ _ (hF m hm) q hq) fun e=>nomatch e) (hF m hm)
theorem run_empty {ρ : Operand->Value} {o:Oper} {base:Nat} {W:World} (hb:base<=W.heap.size) (ho:o.op = .buildSlice 53 0 #[]) :
 ∃ v W',(execOp ρ o).run Tryz.prog W = .ok (.value v) W'/\W.grownBy W' none/\OwV kG base W' v ([]:List G2) /\ ∀ q,v.ownBlock=some q->W.heap.size<=q:=by
 have hu:Tryz.prog.underlying 53=some (.slice 60):=by kernel_rfl
 have hz:I8 Tryz.prog 60=some 2:=by kernel_rfl
 refine ⟨.slice (some ⟨W.heap.size,0,none⟩) 0 0,W.alloc (.cells #[] 60), ?_,World.grownBy_alloc _ _ _, ?_,fun q e=>by cases e;exact Nat.le_refl _⟩
 · have hra:Array.range 0 = #[]:=by decide
   simp [hra,execOp,ho,Instr.buildSlice,Sem.run_bind,run_underlying hu W,Result.andThen_ok,C6 Tryz.prog hz W,Instr.fill,newRow,newObj]
   rfl
 · exact ⟨[],⟨rfl,.inr ⟨W.heap.size,0, #[],rfl,hb,A6 _ _ _ rfl,Nat.le_refl _,Nat.zero_le _,rfl,rfl⟩⟩,fun i hi=>absurd hi (by simp)⟩
theorem app_none {P:Program} (W:World) (t ty e:TypeId) (i:TypeInfo) (ht:P.underlying t=some (.slice e)) (hi:P.info? e=some i) (a:Option Addr) (n cap c:Nat) (s:Option Addr) (h:n<=cap) :
 (Builtin.append_ #[t,t] ty #[.slice a n cap,.slice s 0 c]).run P W = .ok (.slice a n cap) W:=by
 cases a<;>cases s<;>simp [Builtin.append_,run_underlying ht,sizeOf,typeInfo,hi,Builtin.lenOf,h,Builtin.firstCells,storeCells,loadCells,loadCellsFrom]
theorem run_copy {W:World} {base B:Nat} {v u:Value} {l:List G2} (h:OwV kG base W v ([]:List G2)) (hu:GsV B W u l) (hn:l.length<=1000) (hb:base<=W.heap.size) {ρ : Operand->Value} {o:Oper} {a b:Operand}
 (ho:o.op = .call ⟨.builtin .append, #[a,b], #[53,53]⟩) (ha : ρ a=v) (hbv : ρ b=u) :
 ∃ v' W',(execOp ρ o).run Tryz.prog W = .ok (.value v') W'/\OwV kG base W' v' l/\OwV kG base W' v ([]:List G2)/\AppW base v v' W W'/\Keeps F9 W W':=by
 obtain ⟨s,n,c,rfl,hl,hnc,hd⟩:=hu
 obtain ⟨i,z,i1,i2,i3,i4,i5⟩:=mE 60 2 (by kernel_rfl)
 have ht:Tryz.prog.underlying 53=some (.slice 60):=by kernel_rfl
 have hex:∀ (x:Value) (W':World),(Builtin.append_ #[53,53] o.type #[v,.slice s n c]).run Tryz.prog W = .ok x W'->(execOp ρ o).run Tryz.prog W = .ok (.value x) W':=fun x W' hr=>by
  simp only [execOp,ho,resolve,invoke,builtin,Sem.run_bind,Sem.run_pure,Result.andThen_ok,List.map_toArray,List.map_cons,List.map_nil,ha,hbv]
  rw [hr];rfl
 by_cases h0:l=[]
 · subst h0
   obtain ⟨s0,cap,rfl⟩:∃ s0 cap,v = .slice s0 0 cap:=by
    obtain ⟨xs,hown,_⟩:=h
    rcases hown.2 with ⟨rfl,_⟩ | ⟨g,cap,cur,rfl,_⟩
    · exact ⟨none,0,rfl⟩
    · exact ⟨_,cap,rfl⟩
   have hn0:n=0:=hl.symm
   subst hn0
   exact ⟨_,W,hex _ _ (app_none W _ _ _ i ht i1 s0 0 cap c s (Nat.zero_le _)),h,h,⟨⟨rfl,rfl,rfl,Nat.le_refl _,fun _ _ _=>rfl⟩,.inl rfl⟩,Keeps.refl W⟩
 · obtain ⟨q,off,rfl,hq,hc⟩:=hd.resolve_left h0
   obtain ⟨xs,hown,hA⟩:=h
   have hx:xs=[]:=List.eq_nil_of_length_eq_zero (by have:=hown.1;simpa using this)
   subst hx
   have hpos:=List.length_pos_iff.2 h0
   obtain ⟨v',W',hr,r1,r2,r3,r4⟩:=V8 (P:=Tryz.prog) W base 53 o.type 60 i z 2 i.bytes ht i1 i2 i3 rfl i5 (by omega) v 0 [] hown ⟨q,off,none⟩ n c (g2c l) (by rw [g2c_len,hl]) (fun j u hj=>by rw [Addr.add_mid];exact kT l off hc j u hj) (g2c_one l)
    (by unfold maxLen;omega) (by have:=Nat.mul_le_mul (show 0+n<=1000 by omega) i4;omega) hb (by omega)
   have r1:W'.ownsRow base 60 2 v' l.length (g2c l):=by rw [Nat.zero_add, <- hl] at r1;exact r1
   have ho0:OwV kG base W v ([]:List G2):=⟨[],hown,fun i hi=>absurd hi (by simp)⟩
   refine ⟨v',W',hex _ _ hr,own_g r1,⟨[],r2,fun i hi=>absurd hi (by simp)⟩,⟨r3,r4⟩,fun b arr ty fr hp hbb=>?_⟩
   refine (r3.block b (Array.getElem?_eq_some_iff.1 hbb).1 fun e=>?_).trans hbb
   obtain ⟨_,_,c',hc'⟩:=ho0.inb e.symm
   rw [hc'] at hbb;cases hbb
   exact absurd hp (by rw [kG.notLimb];decide)
theorem appL {α : Type} (kd:bA α) {specs:List Sp} {w W:World} {av:List Nat} {σ : Env} {n m0:Nat} {v:Value} {l l2:List α} {run:Value->World->Prop} (g:w.grownBy W none) (hm0:av.elem m0=true) (hs0:sp specs m0=sOw kd w.heap.size l)
 (hv0 : σ.an m0 0=v) (hsn:sp specs n=sOw kd w.heap.size l2) (h:OwV kd w.heap.size W v l)
 (hr:∃ v' W',run v' W'/\OwV kd w.heap.size W' v' l2/\OwV kd w.heap.size W' v l/\AppW w.heap.size v v' W W'/\Keeps F9 W W')
 (hrows:∀ m,av.elem m=true->m≠m0->(sp specs m).row=true->(sp specs m).F (((sp specs m).sh.sv m).den σ) W /\ ∀ q,(sp specs m).fp (((sp specs m).sh.sv m).den σ) W q->v.ownBlock≠some q) :
 AppS specs w av σ W n run:=by
 obtain ⟨v',W',hrun,o1,o2,⟨hg,hv'⟩,hkp⟩:=hr
 have hden:((sp specs m0).sh.sv m0).den σ=v:=by rw [hs0];exact hv0
 have hold:∀ q,v.ownBlock=some q->iY specs av σ W q:=fun q hq=>⟨m0,hm0,by rw [hs0];show (σ.an m0 0).ownBlock=some q;rw [hv0];exact hq⟩
 refine ⟨v',W',hrun,⟨⟨hg.os.trans g.os,hg.tape.trans g.tape,hg.output.trans g.output,Nat.le_trans g.size hg.size,fun i hi hne=>?_⟩,hg.size,fun q hq ho=>hg.block q hq fun e=>ho (hold q e.symm),KeepsOthers.of_grownBy hg fun j o e hj=>by obtain ⟨_,_,c,hc⟩:=h.inb e;rw [hc] at hj;cases hj;rfl⟩,hkp,by rw [hsn];exact o1,fun q hq=>?_,fun m hm hr=>?_⟩
 · rw [hg.block i (Nat.lt_of_lt_of_le hi g.size) fun e=>?_,g.block i hi hne]
   have:=(h.inb e.symm).2.1;omega
 · rw [hsn] at hq
   have hq:v'.ownBlock=some q:=hq
   rcases hv' with e | e
   · exact .inr (hold q (e ▸ hq))
   · rw [e] at hq;cases hq;exact .inl (Nat.le_refl _)
 · by_cases hm0':m=m0
   · subst hm0'
     refine ⟨by rw [hden,hs0];exact o2,fun q hq=>?_⟩
     rw [hden,hs0] at hq ⊢;exact hq
   · obtain ⟨hF,hne⟩:=hrows m hm hm0' hr
     refine (sp specs m).lasts _ W W' hkp (fun q hq=>hg.block q ((sp specs m).inb _ _ hF q hq) fun e=>hne q hq e.symm) hF
end Go.Proofs.YtninnifpgpjfhaaGreatDoor
