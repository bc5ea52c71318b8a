/- What the laws lean on, part 10. -/
import Derived.Below
import Derived.BigCall
import Derived.BigQuiet
import Derived.BigRegion
import Derived.ChangeOld
import Derived.Deep.AppendLies
import Derived.Deep.CutBlock
import Derived.Deep.CutRange
import Derived.Deep.DeepCutAuto
import Derived.Deep.DeepHandedRow
import Derived.Deep.LoopGhost
import Derived.Deep.MidRow
import Derived.Deep.QuietTactic
import Derived.Deep.RegionHeld3
import Derived.Deep.RegionLaw
import Derived.Deep.Slices
import Derived.Deep.Strs
import Derived.Deep.WholeRow
import Derived.Laws.AppendOwn
import Derived.Laws.Concat
import Derived.Laws.CopyOwn
import Derived.Laws.Externs
import Derived.Laws.IdiomStrings
import Derived.Lib.BitFns
import Derived.Lib.Bytealg
import Derived.Lib.Hide
import Derived.Lib.LaidTab
import Derived.Lib.Slices
import Derived.Lib.Small
import Derived.Lib.Strings
import Derived.Lib.Walk
import Derived.LoopIn
import Derived.LoopN
import Derived.LoopNIn
import Derived.Maps.AppendAt
import Derived.OpenShut
import Derived.OrdersHeld
import Derived.OrdersIn
import Derived.Outline
import Derived.OwnWalk
import Derived.OwnWalkIn
import Derived.ProofKit
import Derived.RangeFuncBound
import Derived.RangeFuncCalls
import Derived.RangeFuncLeaves
import Derived.RangeFuncNested
import Derived.RangeFuncOwn
import Derived.Shelf.Abstract
import Derived.Shelf.Bits.Mul64
import Derived.Shelf.RegionOpen
import Derived.Shelf.Spec.TrailingZeros
import Derived.StillTailTactics
import Derived.TacticsInMore
import Derived.WalkKit
import Derived.WalkLawsBesides
import Derived.WalkSpells
import Derived.WideKeyArgs
import Derived.Test.YtamdnbbgpacfkaaDoorCards
import Derived.Test.YtamdnbbgpacfkaaDoorProg
import Derived.Test.YtamdnbbgpacfkaaDoorRows
import Derived.Test.YtamdnbbgpacfkaaDoorTie
import Derived.Test.YtamdnbbgpacfkaaDoorMe9
set_option linter.unusedVariables false
set_option linter.unusedSimpArgs false
set_option maxRecDepth 100000
namespace Go.Proofs.YtamdnbbgpacfkaaDoor
open Go.RowKit Go.Shelf Mat Ex PM
attribute [local go_sem] Oper.semAt_some
section
variable {B:Nat} {X Y:World} {row:Option Nat}
def M7 (B:Nat) (X:World) (row:Option Nat):Prop:=∀ r,row=some r->B<=r /\ ∃ o:Obj,X.heap[r]?=some o/\o.isCells=false
theorem fK (B:Nat) (X:World):M7 B X none:=fun r e=>nomatch e
theorem B6 (hg:X.grownBy Y row) (hr:M7 B X row) {k:Nat} {cs:Array Value} {t:TypeId} {fr:Nat × Nat} (h:X.heap[k]?=some (.cells cs t fr)):Y.heap[k]?=some (.cells cs t fr):=by
 rw [hg.block k (Array.getElem?_eq_some_iff.1 h).1 (fun e=>?_)]; · exact h
 obtain ⟨_,o,ho,hc⟩:=hr k e.symm
 rw [h] at ho;cases ho;cases hc
theorem L9 (hg:X.grownBy Y row) (hr:M7 B X row):Keeps G0 X Y:=fun g arr ty fr hp hb=>B6 hg hr hb
theorem K9 {w:World} (hB:w.heap.size<=B) (hw:w.grownBy X none) (hg:X.grownBy Y row) (hr:M7 B X row):w.grownBy Y none:=
 ⟨hg.os.trans hw.os,hg.tape.trans hw.tape,hg.output.trans hw.output,Nat.le_trans hw.size hg.size,fun i hi _=>by
  rw [hg.block i (Nat.lt_of_lt_of_le hi hw.size) (fun e=>?_)]
  · exact hw.block i hi (by simp)
  · have:=(hr i e.symm).1;omega⟩
end
theorem PtV.shape {w:World} {v:Value} {p:Pq} (h:PtV w v p):∃ (s:Option Addr) (n:Nat) (x:Bool) (s':Option Addr) (n':Nat) (x':Bool) (t:Option Addr) (m:Nat) (y:Bool) (t':Option Addr) (m':Nat) (y':Bool),
 v = .agg #[.slice s n n,.bool x,.slice s' n' n',.bool x',.slice t m m,.bool y,.slice t' m' m',.bool y']:=by
 obtain ⟨a,b,c,d,e,f,g,i,rfl,h1,h2⟩:=h
 obtain ⟨s,xs,x,s',xs',x',q1,_⟩:=h1
 obtain ⟨t,ys,y,t',ys',y',q2,_⟩:=h2
 cases q1;cases q2
 exact ⟨_,_,_,_,_,_,_,_,_,_,_,_,rfl⟩
def jD (l:List Pq) (pre:List (Fin l.length)):Rat:=pre.foldl (fun s x=>s+pX (pt0 l x.val) (nxt l x.val)) 0
theorem eY {K:Nat} {l:List Pq} (hb:∀ p ∈ l,Bp K p) {i:Nat} (hi:i<l.length):Bp K (pt0 l i):=by
 have:pt0 l i=l[i]:=by unfold pt0;simp [hi]
 rw [this];exact hb _ (List.getElem_mem hi)
theorem iO {K:Nat} {l:List Pq} (hb:∀ p ∈ l,Bp K p) {i:Nat} (hi:i<l.length):Bp K (nxt l i):=eY hb (Nat.mod_lt _ (by omega))
def ArI (w:World) (R0 T Bs:Nat) (v:Value) (l:List Pq) (pre:List (Fin l.length)) (W:World):Prop:=
 w.grownBy W none/\(∃ a b c d,W.heap[T]?=some (.cells #[a,b,c,d] 31 (0,0))/\RatV W (.agg #[a,b,c,d]) (jD l pre)) /\
 W.heap[R0]?=some (.cells #[.slice none 0 0,.bool false,.slice none 0 0,.bool false] 31 (0,0))/\W.heap[Bs]?=some (.cells #[v] 40 (0,0))
theorem ArI.soft {w:World} {R0 T Bs B:Nat} {v:Value} {l:List Pq} {pre:List (Fin l.length)} {X Y:World} {row:Option Nat} (hB:w.heap.size<=B) (h:ArI w R0 T Bs v l pre X) (hg:X.grownBy Y row) (hr:M7 B X row):ArI w R0 T Bs v l pre Y:=by
 obtain ⟨h1,⟨a,b,c,d,h2,h3⟩,h4,h5⟩:=h
 exact ⟨K9 hB h1 hg hr,⟨a,b,c,d,B6 hg hr h2,h3.keeps (L9 hg hr)⟩,B6 hg hr h4,B6 hg hr h5⟩
def PQs (W:World) (Bp:Nat) (cp cq:List Value) (p q:Pq):Prop:=W.heap[Bp]?=some (.cells cp.toArray 33 (0,0))/\W.heap[Bp+1]?=some (.cells cq.toArray 33 (0,0))/\PtV W (.agg cp.toArray) p/\PtV W (.agg cq.toArray) q
theorem PQs.soft {B Bp:Nat} {X Y:World} {row:Option Nat} {cp cq:List Value} {p q:Pq} (h:PQs X Bp cp cq p q) (hg:X.grownBy Y row) (hr:M7 B X row):PQs Y Bp cp cq p q:=
 ⟨B6 hg hr h.1,B6 hg hr h.2.1,h.2.2.1.keeps (L9 hg hr),h.2.2.2.keeps (L9 hg hr)⟩
end Go.Proofs.YtamdnbbgpacfkaaDoor
namespace Go.Proofs.YtamdnbbgpacfkaaDoor
open Go.RowKit Mat Ex PM
def M9 (t:TypeId):Bool:=t == 52
abbrev Su:=Ex.Spec M9
def Sp.u (s:Sp) (h:∀ v W W',Keeps M9 W W'->s.F v W->s.F v W'):Su := .of s.sh s.F s.fits h
end Go.Proofs.YtamdnbbgpacfkaaDoor
namespace Go.Proofs.YtamdnbbgpacfkaaDoor.PM
def dcr (e m x:Pq):Rat:=e.1*(x.2-m.2)-e.2*(x.1-m.1)
def ld (e m x:Pq):Int:=rsg (dcr e m x)
def pos (i:Int):Int:=if 0<i then 1 else 0
end Go.Proofs.YtamdnbbgpacfkaaDoor.PM
namespace Go.Proofs.YtamdnbbgpacfkaaDoor
open Go.RowKit Mat Ex PM
def fpF (v:Value) (q:Nat):Prop:=∃ f,v = .func (.func f) #[] #[.pointer (some ⟨q,0,none⟩)]
def RayV (f:Nat) (W:World) (v:Value) (m:Pq):Prop:=∃ (q:Nat) (u0 u1 u2 u3 u4 u5 u6 u7:Value),v = .func (.func f) #[] #[.pointer (some ⟨q,0,none⟩)]/\W.heap[q]?=some (.cells #[u0,u1,u2,u3,u4,u5,u6,u7] 33 (0,0))/\PtV W (.agg #[u0,u1,u2,u3,u4,u5,u6,u7]) m
theorem RayV.keeps {f:Nat} {W W':World} {v:Value} {m:Pq} (h:RayV f W v m) (k:Keeps G0 W W') (hq:∀ q,fpF v q->W'.heap[q]?=W.heap[q]?):RayV f W' v m:=by
 obtain ⟨q,u0,u1,u2,u3,u4,u5,u6,u7,rfl,h1,h2⟩:=h
 exact ⟨q,u0,u1,u2,u3,u4,u5,u6,u7,rfl,(hq q ⟨f,rfl⟩).trans h1,h2.keeps k⟩
theorem RayV.inb {f:Nat} {W:World} {v:Value} {m:Pq} (h:RayV f W v m) (q:Nat) (hq:fpF v q):q<W.heap.size:=by
 obtain ⟨q',u0,u1,u2,u3,u4,u5,u6,u7,rfl,h1,h2⟩:=h
 obtain ⟨f',e⟩:=hq
 cases e;exact (Array.getElem?_eq_some_iff.1 h1).1
end Go.Proofs.YtamdnbbgpacfkaaDoor
namespace Go.Proofs.YtamdnbbgpacfkaaDoor
open Go.RowKit Go.Shelf Mat Ex PM
attribute [local go_sem] Oper.semAt_some
def N8 (f:Pq->Pq->Int) (l:List Pq) (pre:List (Fin l.length)):Int:=pre.foldl (fun s x=>s+f (pt0 l x.val) (nxt l x.val)) 0
def CrLI (w:World) (q:Nat) (v:Value) (m:Pq) (l:List Pq) (pre:List (Fin l.length)) (W:World):Prop:=
 w.grownBy W none/\(∃ z0 z1 z2 z3 z4 z5 z6 z7:Value,W.heap[w.heap.size]?=some (.cells #[z0,z1,z2,z3,z4,z5,z6,z7] 33 (0,0))/\PtV W (.agg #[z0,z1,z2,z3,z4,z5,z6,z7]) m)/\W.heap[w.heap.size+1]?=some (.cells #[.func (.func 72) #[] #[.pointer (some ⟨q,0,none⟩)]] 87 (0,0)) /\
 W.heap[w.heap.size+1+1]?=some (.cells #[.int .i64 (N8 (ahd (lvl m) m) l pre)] 3 (0,0))/\W.heap[w.heap.size+1+1+1]?=some (.cells #[.int .i64 (N8 (thr (lvl m) m) l pre)] 3 (0,0))/\W.heap[w.heap.size+1+1+1+1]?=some (.cells #[v] 40 (0,0))
theorem CrLI.soft {w:World} {q B:Nat} {v:Value} {m:Pq} {l:List Pq} {pre:List (Fin l.length)} {X Y:World} {row:Option Nat} (hB:w.heap.size<=B) (h:CrLI w q v m l pre X) (hg:X.grownBy Y row) (hr:M7 B X row):CrLI w q v m l pre Y:=
 ⟨K9 hB h.1 hg hr,by obtain ⟨z0,z1,z2,z3,z4,z5,z6,z7,h1,h2⟩:=h.2.1;exact ⟨z0,z1,z2,z3,z4,z5,z6,z7,B6 hg hr h1,h2.keeps (L9 hg hr)⟩,B6 hg hr h.2.2.1,B6 hg hr h.2.2.2.1,B6 hg hr h.2.2.2.2.1,B6 hg hr h.2.2.2.2.2⟩
def CrUI (w:World) (q:Nat) (v:Value) (m:Pq) (l:List Pq) (pre:List (Fin l.length)) (W:World):Prop:=
 w.grownBy W none/\(∃ z0 z1 z2 z3 z4 z5 z6 z7:Value,W.heap[w.heap.size]?=some (.cells #[z0,z1,z2,z3,z4,z5,z6,z7] 33 (0,0))/\PtV W (.agg #[z0,z1,z2,z3,z4,z5,z6,z7]) m)/\W.heap[w.heap.size+1]?=some (.cells #[.func (.func 112) #[] #[.pointer (some ⟨q,0,none⟩)]] 87 (0,0)) /\
 W.heap[w.heap.size+1+1]?=some (.cells #[.int .i64 (N8 (ahd (upr m) m) l pre)] 3 (0,0))/\W.heap[w.heap.size+1+1+1]?=some (.cells #[.int .i64 (N8 (thr (upr m) m) l pre)] 3 (0,0))/\W.heap[w.heap.size+1+1+1+1]?=some (.cells #[v] 40 (0,0))
theorem CrUI.soft {w:World} {q B:Nat} {v:Value} {m:Pq} {l:List Pq} {pre:List (Fin l.length)} {X Y:World} {row:Option Nat} (hB:w.heap.size<=B) (h:CrUI w q v m l pre X) (hg:X.grownBy Y row) (hr:M7 B X row):CrUI w q v m l pre Y:=
 ⟨K9 hB h.1 hg hr,by obtain ⟨z0,z1,z2,z3,z4,z5,z6,z7,h1,h2⟩:=h.2.1;exact ⟨z0,z1,z2,z3,z4,z5,z6,z7,B6 hg hr h1,h2.keeps (L9 hg hr)⟩,B6 hg hr h.2.2.1,B6 hg hr h.2.2.2.1,B6 hg hr h.2.2.2.2.1,B6 hg hr h.2.2.2.2.2⟩
end Go.Proofs.YtamdnbbgpacfkaaDoor
namespace Go.Proofs.YtamdnbbgpacfkaaDoor
open Go.RowKit Mat Ex PM
abbrev G2:=Int × Int
def GAt (w:World) (b o:Nat) (d:G2):Prop:=w.cell? ⟨b,o,none⟩=some (.int .i64 d.1)/\w.cell? ⟨b,o+1,none⟩=some (.int .i64 d.2)
theorem GAt.same {w w':World} {b o:Nat} {d:G2} (h:GAt w b o d) (hb:w'.heap[b]?=w.heap[b]?):GAt w' b o d:=⟨(Q5 hb).trans h.1,(Q5 hb).trans h.2⟩
def GsV (base:Nat) (w:World) (v:Value) (l:List G2):Prop:=∃ s n c,v = .slice s n c/\l.length=n/\n<=c/\(l=[] \/ ∃ b off,s=some ⟨b,off,none⟩/\b<base /\ ∀ i (h:i<l.length),GAt w b (off+2*i) l[i])
theorem GsV.block {base:Nat} {w:World} {v:Value} {l:List G2} (h:GsV base w v l) {q:Nat} (hq:fpS v q):q<base/\q<w.heap.size:=by
 obtain ⟨s,n,c,rfl,hl,hn,h⟩:=h
 obtain ⟨off,m,c',e⟩:=hq
 cases e
 rcases h with h | ⟨b,off',e,hb,hd⟩
 · rw [h] at hl;simp at hl
 · cases e;exact ⟨hb,W4 (hd 0 (by omega)).1⟩
theorem GsV.keeps {base:Nat} {W W':World} {v:Value} {l:List G2} (h:GsV base W v l) (hq:∀ q,fpS v q->W'.heap[q]?=W.heap[q]?):GsV base W' v l:=by
 obtain ⟨s,n,c,rfl,hl,hn,h⟩:=h
 refine ⟨s,n,c,rfl,hl,hn, ?_⟩
 by_cases h0:l=[]
 · exact .inl h0
 · obtain ⟨b,off,rfl,hb,hc⟩:=h.resolve_left h0
   obtain ⟨m,rfl⟩:∃ m,n=m+1:=⟨n-1,by have:=List.length_pos_iff.2 h0;omega⟩
   exact .inr ⟨b,off,rfl,hb,fun i hi=>(hc i hi).same (hq b ⟨off,m,c,rfl⟩)⟩
theorem GsV.cell {base:Nat} {w:World} {v:Value} {l:List G2} (h:GsV base w v l):v.oneCell'=true:=by obtain ⟨s,n,c,rfl,_⟩:=h;rfl
def GaV (base:Nat) (w:World) (v:Value) (d:G2):Prop:=∃ b off,v = .pointer (some ⟨b,off,none⟩)/\b<base/\GAt w b off d
theorem GaV.block {base:Nat} {w:World} {v:Value} {d:G2} (h:GaV base w v d) {q:Nat} (hq:fpP v q):q<base/\q<w.heap.size:=by
 obtain ⟨b,off,rfl,hb,hd⟩:=h
 obtain ⟨o,e⟩:=hq
 cases e;exact ⟨hb,W4 hd.1⟩
def gg (l:List G2) (k:Nat):G2:=l.getD k (0,0)
section
variable {P:Program} {ρ : Operand->Value} {o:Oper} {W:World}
end
theorem OwV.fresh {w:World} {W:World} {v:Value} {l:List Pq} (h:OwV kPt w.heap.size W v l) (q:Nat) (hq:fpS v q):w.heap.size<=q:=by
 obtain ⟨off,n,c,rfl⟩:=hq
 exact (h.inb (q:=q) rfl).2.1
def GfV (base:Nat) (w:World) (v:Value) (z:Int):Prop:=∃ b off,v = .pointer (some ⟨b,off,none⟩)/\b<base/\w.cell? ⟨b,off,none⟩=some (.int .i64 z)
theorem GfV.block {base:Nat} {w:World} {v:Value} {z:Int} (h:GfV base w v z) {q:Nat} (hq:fpP v q):q<base/\q<w.heap.size:=by
 obtain ⟨b,off,rfl,hb,hd⟩:=h
 obtain ⟨o,e⟩:=hq
 cases e;exact ⟨hb,W4 hd⟩
section
variable {ρ : Operand->Value} {o:Oper} {W:World}
end
theorem PtsV.cell {w:World} {v:Value} {l:List Pq} (h:PtsV w v l):v.oneCell'=true:=by obtain ⟨s,n,c,rfl,_⟩:=h;rfl
end Go.Proofs.YtamdnbbgpacfkaaDoor
namespace Go.Proofs.YtamdnbbgpacfkaaDoor
open Go.RowKit Go.Shelf Mat Ex PM
attribute [local go_sem] Oper.semAt_some
theorem PtsV.blk {W:World} {v:Value} {l:List Pq} (h:PtsV W v l) (q:Nat) (hq:fpS v q):∃ cs t,W.heap[q]?=some (.cells cs t (0,0)):=by
 obtain ⟨s,n,c,rfl,hl,hn,h⟩:=h
 obtain ⟨off,m,c',e⟩:=hq
 cases e
 rcases h with h | ⟨b,off',cs,e,hb,_⟩
 · rw [h] at hl;simp at hl
 · cases e;exact ⟨_,_,hb⟩
theorem PtsV.soft {B:Nat} {X Y:World} {row:Option Nat} {v:Value} {l:List Pq} (h:PtsV X v l) (hg:X.grownBy Y row) (hr:M7 B X row):PtsV Y v l:=
 h.keeps (L9 hg hr) fun q hq=>by obtain ⟨cs,t,hb⟩:=h.blk q hq;rw [B6 hg hr hb,hb]
def seen (l:List Pq) (m:Pq) (pre:List (Fin l.length)):Prop:=∃ x ∈ pre,InS (pt0 l x) (nxt l x) m
def AnI (w w1:World) (Bs b:Nat) (ob:Obj) (vl:Value) (m:Pq) (l:List Pq) (pre:List (Fin l.length)) (W:World):Prop:=
 w.grownBy W none/\(∃ z0 z1 z2 z3 z4 z5 z6 z7:Value,W.heap[w.heap.size]?=some (.cells #[z0,z1,z2,z3,z4,z5,z6,z7] 33 (0,0))/\PtV W (.agg #[z0,z1,z2,z3,z4,z5,z6,z7]) m)/\W.heap[w.heap.size+1]?=some (.cells #[.int .i64 0] 3 (0,0)) /\
 W.heap[w.heap.size+1+1]?=some (.cells #[.bool false] 4 (0,0))/\W.heap[Bs]?=some (.cells #[vl] 40 (0,0))/\W.heap[b]?=some ob/\PtsV W vl l/\Keeps M9 w1 W /\ ¬ seen l m pre
theorem AnI.soft {w w1:World} {Bs b B:Nat} {cs:Array Value} {t:TypeId} {vl:Value} {m:Pq} {l:List Pq} {pre:List (Fin l.length)} {X Y:World} {row:Option Nat} (hB:w.heap.size<=B) (h:AnI w w1 Bs b (.cells cs t (0,0)) vl m l pre X) (hg:X.grownBy Y row) (hr:M7 B X row):AnI w w1 Bs b (.cells cs t (0,0)) vl m l pre Y:=by
 obtain ⟨h1,⟨z0,z1,z2,z3,z4,z5,z6,z7,h2,h3⟩,h4,h5,h6,h7,h8,h9,h10⟩:=h
 exact ⟨K9 hB h1 hg hr,⟨z0,z1,z2,z3,z4,z5,z6,z7,B6 hg hr h2,h3.keeps (L9 hg hr)⟩,B6 hg hr h4,B6 hg hr h5,B6 hg hr h6,B6 hg hr h7,h8.soft hg hr,fun g arr ty fr hp hb=>B6 hg hr (h9 g arr ty fr hp hb),h10⟩
def AnX (w:World) (m:Pq) (l:List Pq) (c:Code) (pre:List (Fin l.length)) (W:World):Prop:=
 c = .ret/\seen l m pre/\w.grownBy W none/\W.heap[w.heap.size+1]?=some (.cells #[.int .i64 0] 3 (0,0))/\W.heap[w.heap.size+1+1]?=some (.cells #[.bool true] 4 (0,0))
theorem AnX.soft {w:World} {B:Nat} {m:Pq} {l:List Pq} {c:Code} {pre:List (Fin l.length)} {X Y:World} {row:Option Nat} (hB:w.heap.size<=B) (h:AnX w m l c pre X) (hg:X.grownBy Y row) (hr:M7 B X row):AnX w m l c pre Y:=
 ⟨h.1,h.2.1,K9 hB h.2.2.1 hg hr,B6 hg hr h.2.2.2.1,B6 hg hr h.2.2.2.2⟩
end Go.Proofs.YtamdnbbgpacfkaaDoor
namespace Go.Proofs.YtamdnbbgpacfkaaDoor
open Go.RowKit Mat Ex PM
def kG:N9 G2:=⟨48,2,fun _ cs d=>cs=[.int .i64 d.1,.int .i64 d.2],fun h _=>h,by kernel_rfl⟩
def g2c:List G2->List Value
 | []=>[]
 | d :: l => .int .i64 d.1 :: .int .i64 d.2 :: g2c l
theorem g2c_len:∀ l:List G2,(g2c l).length=l.length*2
 | []=>rfl
 | d :: l=>by show (g2c l).length+1+1=(l.length+1)*2;rw [g2c_len l];omega
theorem pR {W:World} {b:Nat} : ∀ (l:List G2) (o:Nat),(∀ i (h:i<l.length),GAt W b (o+2*i) l[i]) -> ∀ j u,(g2c l)[j]?=some u->W.cell? ⟨b,o+j,none⟩=some u
 | [],o,h,j,u,e=>by cases e
 | d :: l,o,h,j,u,e=>by
   have h0:=h 0 (by simp)
   match j,e with
   | 0,e=>cases e;exact h0.1
   | 1,e=>cases e;exact h0.2
   | j+2,e=>
     have:=pR l (o+2) (fun i hi=>by
      have:=h (i+1) (by simpa using hi)
      rw [show o+2*(i+1)=o+2+2*i by omega] at this
      exact this) j u e
     rw [show o+(j+2)=o+2+j by omega];exact this
theorem g2c_at:∀ (l:List G2) (i:Nat) (h:i<l.length),((g2c l).drop (2*i)).take 2=[.int .i64 l[i].1,.int .i64 l[i].2]
 | d :: l,0,h=>rfl
 | d :: l,i+1,h=>by
   rw [show 2*(i+1)=2*i+2 by omega]
   exact g2c_at l i (by simpa using h)
theorem OwV.gs {base:Nat} {W:World} {v:Value} {l:List G2} (h:OwV kG base W v l):GsV W.heap.size W v l:=by
 obtain ⟨xs,⟨hl,h2⟩,hA⟩:=h
 rcases h2 with ⟨rfl,h0⟩ | ⟨g,cap,cur,rfl,hbg,hg,hnc,hcm,hcs,htk⟩
 · exact ⟨none,0,0,rfl,h0,Nat.le_refl _,.inl (List.eq_nil_of_length_eq_zero h0)⟩
 · refine ⟨_,_,_,rfl,rfl,hnc,.inr ⟨g,0,rfl,(Array.getElem?_eq_some_iff.1 hg).1,fun i hi=>?_⟩⟩
   have e:(xs.drop (2*i)).take 2=[.int .i64 l[i].1,.int .i64 l[i].2]:=hA i hi
   have hx:∀ r u,r<2->((xs.drop (2*i)).take 2)[r]?=some u->W.cell? ⟨g,0+2*i+r,none⟩=some u:=fun r u hr hu=>by
    rw [List.getElem?_take_of_lt hr,List.getElem?_drop] at hu
    have hlt : 2*i+r<l.length*2:=by omega
    have:cur[2*i+r]?=some u:=by
     rw [<- Array.getElem?_toList]
     have h3:(cur.toList.take (l.length*2))[2*i+r]?=some u:=by
      have htk':cur.toList.take (l.length*2)=xs:=htk
      rw [htk'];exact hu
     rwa [List.getElem?_take_of_lt hlt] at h3
    rw [Nat.zero_add]
    unfold World.cell?
    rw [hg]
    exact this
   exact ⟨hx 0 _ (by omega) (by rw [e];rfl),hx 1 _ (by omega) (by rw [e];rfl)⟩
theorem app_none {P:Program} (W:World) (t ty e:TypeId) (i:TypeInfo) (ht:P.underlying t=some (.slice e)) (hi:P.info? e=some i) (a:Option Addr) (n cap c:Nat) (s:Option Addr) (h:n<=cap) :
 (Builtin.append_ #[t,t] ty #[.slice a n cap,.slice s 0 c]).run P W = .ok (.slice a n cap) W:=by
 cases a<;>cases s<;>simp [Builtin.append_,run_underlying ht,sizeOf,typeInfo,hi,Builtin.lenOf,h,Builtin.firstCells,storeCells,loadCells,loadCellsFrom]
def sOa {α : Type} (sh:Bool) (k:N9 α) (base:Nat) (A:Option Nat->Prop) (l:List α):Sp where
 sh:=match sh with | true => .rw | false => .one
 F v W:=OwV k base W v l/\A v.ownBlock
 fits v W h:=by
  obtain ⟨f,h1,h2⟩:=(sOw k base l).fits v W h.1
  cases sh<;>exact ⟨f,h1,h2⟩
 row:=true
 fp v _ q:=v.ownBlock=some q
 lasts v W W' kk hq h:=⟨⟨h.1.keeps kk hq,h.2⟩,fun _ h=>h⟩
 inb v W h q hq:=(h.1.inb hq).1
 flat h:=by cases h
theorem rA {α : Type} {sh:Bool} {k:N9 α} {base:Nat} {A:Option Nat->Prop} {l:List α} (σ : Env) (n:Nat):((sOa sh k base A l).sh.sv n).den σ=σ.an n 0:=by cases sh<;>rfl
def sOe {α : Type} (k:N9 α) (base:Nat) (A:Option Nat->Prop) (l:List α):Sp where
 sh := .one
 F v W:=OwV k base W v l/\A v.ownBlock /\ ∃ s,v = .slice s l.length l.length
 fits v W h:=(sOw k base l).fits v W h.1
 row:=true
 fp v _ q:=v.ownBlock=some q
 lasts v W W' kk hq h:=⟨⟨h.1.keeps kk hq,h.2⟩,fun _ h=>h⟩
 inb v W h q hq:=(h.1.inb hq).1
 flat h:=by cases h
theorem aV {α : Type} (kd:N9 α) {specs:List Sp} {w W:World} {av:List Nat} {σ : Env} {n m0:Nat} {v:Value} {l l2:List α} {run:Value->World->Prop} {b0:Bool} {A0 A2:Option Nat->Prop} (g:w.grownBy W none) (hm0:av.elem m0=true) (hs0:sp specs m0=sOa b0 kd w.heap.size A0 l)
 (hv0 : σ.an m0 0=v) (hsn:sp specs n=sOa false kd w.heap.size A2 l2) (h:OwV kd w.heap.size W v l/\A0 v.ownBlock) (hA:∀ o,o=v.ownBlock\/o=some W.heap.size->A2 o)
 (hr:∃ v' W',run v' W'/\OwV kd w.heap.size W' v' l2/\OwV kd w.heap.size W' v l/\AppW w.heap.size v v' W W'/\Keeps G0 W W'/\qQ kd w.heap.size W W' v l)
 (hrows:∀ m,av.elem m=true->m≠m0->(sp specs m).row=true->((sp specs m).F (((sp specs m).sh.sv m).den σ) W /\ ∀ q,(sp specs m).fp (((sp specs m).sh.sv m).den σ) W q->v.ownBlock≠some q)\/(∃ b' A' l',sp specs m=sOa b' kd w.heap.size A' l'/\l'.length<=l.length/\OwV kd w.heap.size W (σ.an m 0) l'/\A' (σ.an m 0).ownBlock)\/(∃ A' l',sp specs m=sOe kd w.heap.size A' l'/\l'.length<=l.length/\(sOe kd w.heap.size A' l').F (σ.an m 0) W)) :
 AppS specs w av σ W n run:=by
 obtain ⟨v',W',hrun,o1,o2,⟨hg,hv'⟩,hkp,hod⟩:=hr
 obtain ⟨h,hA0⟩:=h
 have hden:((sp specs m0).sh.sv m0).den σ=v:=by rw [hs0,rA];exact hv0
 have hold:∀ q,v.ownBlock=some q->dF specs av σ W q:=fun q hq=>⟨m0,hm0,by rw [hden,hs0];exact hq⟩
 refine ⟨v',W',hrun,⟨⟨hg.os.trans g.os,hg.tape.trans g.tape,hg.output.trans g.output,Nat.le_trans g.size hg.size,fun i hi hne=>?_⟩,hg.size,fun q hq ho=>hg.block q hq fun e=>ho (hold q e.symm),KeepsOthers.of_grownBy hg fun j o e hj=>by obtain ⟨_,_,c,hc⟩:=h.inb e;rw [hc] at hj;cases hj;rfl⟩,hkp,by rw [hsn];exact ⟨o1,hA _ hv'⟩,fun q hq=>?_,fun m hm hr=>?_⟩
 · rw [hg.block i (Nat.lt_of_lt_of_le hi g.size) fun e=>?_,g.block i hi hne]
   have:=(h.inb e.symm).2.1;omega
 · rw [hsn] at hq
   have hq:v'.ownBlock=some q:=hq
   rcases hv' with e | e
   · exact .inr (hold q (e ▸ hq))
   · rw [e] at hq;cases hq;exact .inl (Nat.le_refl _)
 · by_cases hm0':m=m0
   · subst hm0'
     rw [hden,hs0]
     exact ⟨⟨o2,hA0⟩,fun q hq=>hq⟩
   · rcases hrows m hm hm0' hr with ⟨hF,hne⟩ | ⟨b',A',l',hs',hl',ho',hA'⟩ | ⟨A',l',hs',hl',ho',hA'⟩
     · refine (sp specs m).lasts _ W W' hkp (fun q hq=>hg.block q ((sp specs m).inb _ _ hF q hq) fun e=>hne q hq e.symm) hF
     · by_cases hb:(σ.an m 0).ownBlock=v.ownBlock
       · rw [hs',rA]
         exact ⟨⟨hod _ _ ho' hl' hb,hA'⟩,fun q hq=>hq⟩
       · rw [hs',rA]
         refine (sOa b' kd w.heap.size A' l').lasts _ W W' hkp (fun q hq=>hg.block q (ho'.inb hq).1 fun e=>hb ?_) ⟨ho',hA'⟩
         have hq:(σ.an m 0).ownBlock=some q:=hq
         rw [hq];exact e.symm ▸ rfl
     · have hd':((sOe kd w.heap.size A' l').sh.sv m).den σ=σ.an m 0:=rfl
       by_cases hb:(σ.an m 0).ownBlock=v.ownBlock
       · rw [hs',hd']
         exact ⟨⟨hod _ _ ho' hl' hb,hA'⟩,fun q hq=>hq⟩
       · rw [hs',hd']
         refine (sOe kd w.heap.size A' l').lasts _ W W' hkp (fun q hq=>hg.block q (ho'.inb hq).1 fun e=>hb ?_) ⟨ho',hA'⟩
         have hq:(σ.an m 0).ownBlock=some q:=hq
         rw [hq];exact e.symm ▸ rfl
theorem aR {specs:List Sp} {av:List Nat} {σ : Env} {W:World} {n:Nat} {run:Value->World->Prop} (hr:∃ v W',run v W'/\W.grownBy W' none/\(sp specs n).F v W' /\ ∀ q,(sp specs n).fp v W' q->W.heap.size<=q) :
 ∃ v W',run v W'/\RetS W (sp specs n) (dF specs av σ W) (.returned v) W':=by
 obtain ⟨v,W',h1,h2,h3,h4⟩:=hr
 refine ⟨v,W',h1, ?_⟩
 unfold RetS
 cases hr:(sp specs n).row with
 | false=>exact ⟨v,rfl,h3,h2⟩
 | true=>exact ⟨v,rfl,h3,h2,fun q hq => .inl (h4 q hq)⟩
theorem eL:∀ (cs pre cells:List SC),cells.length=cs.length->S8 (pre++cells) pre.length cs=pre++cs
 | [],pre,cells,h=>by rw [List.eq_nil_of_length_eq_zero h];rfl
 | c :: r,pre,x :: cells,h=>by
   have:=eL r (pre++[c]) cells (by simpa using h)
   rw [S8]
   rw [show (pre++x :: cells).set pre.length c=pre++[c]++cells by simp,show pre.length+1=(pre++[c]).length by simp,this]
   simp
theorem kT {α : Type} (kd:N9 α) {t:TypeId} (ht:Tryd.prog.underlying t=some (.slice kd.T)) (hi:∃ i z,Tryd.prog.info? kd.T=some i/\i.zero=some z/\i.size=kd.z/\i.bytes<=1000000/\z.cells.size=kd.z) (hz:I3 Tryd.prog kd.T=some kd.z) (hsz : 0<kd.z) (hs:kd.z<=100)
 {W:World} {base:Nat} (hb:base<=W.heap.size) {ρ : Operand->Value} {o:Oper} {x:Operand} (ho:o.op = .buildSlice t 1 #[(0,x)]) {cs:List Value} {d : α} (hx : ρ x = .agg cs.toArray) (hc:cs.length=kd.z) (h1:∀ u ∈ cs,u.oneCell'=true) (hA:∀ W',Keeps G0 W W'->kd.A W' cs d) :
 ∃ v W',(execOp ρ o).run Tryd.prog W = .ok (.value v) W'/\W.grownBy W' none/\OwV kd base W' v [d]/\v.ownBlock=some W.heap.size:=by
 obtain ⟨i,z,i1,i2,i3,i4,i5⟩:=hi
 have hg:W.grownBy (W.alloc (.cells cs.toArray kd.T)) none:=World.grownBy_alloc _ _ _
 refine ⟨.slice (some ⟨W.heap.size,0,none⟩) 1 1,W.alloc (.cells cs.toArray kd.T), ?_,hg, ?_,rfl⟩
 · have h0:¬ 1*kd.z>2^24:=by omega
   have h00:¬ 1*kd.z=0:=by omega
   have hzv:(zeroValue kd.T).run Tryd.prog W = .ok z W:=by simp [zeroValue,typeInfo,i1,i2]
   have hfill:Instr.fill (fun i=>some (i*kd.z,kd.z)) ((Array.range (1*kd.z)).map (z.cells[· % z.cells.size]!)) [(0, ρ x)]=some cs.toArray:=by
    have hl:(((Array.range (1*kd.z)).map (z.cells[· % z.cells.size]!)).toList.map SC.lit).length=cs.length:=by simp [hc]
    have hf:=Y5 (σ:=⟨fun _ _ => .bool true,fun _=>0,fun _=>undef⟩) (fun _ _=>rfl) (place:=fun i=>some (i*kd.z,kd.z)) (l:=[(0,.v true (cs.map .lit))]) (cells:=((Array.range (1*kd.z)).map (z.cells[· % z.cells.size]!)).toList.map SC.lit) (out:=cs.map SC.lit) (by
     have hall:(cs.map SC.lit).all SC.ok=true:=by
      rw [List.all_eq_true]
      intro c hcm
      obtain ⟨u,hu,rfl⟩:=List.mem_map.1 hcm
      exact h1 u hu
     have hsp:=eL (cs.map SC.lit) [] (((Array.range (1*kd.z)).map (z.cells[· % z.cells.size]!)).toList.map SC.lit) (by rw [hl];simp)
     simp only [List.nil_append,List.length_nil] at hsp
     unfold Y6
     simp only [SV.cells,Nat.zero_mul]
     rw [if_pos ⟨by simp [hc],by rw [hl];simp,hall⟩,hsp]
     rfl)
    have hid:∀ l:List Value,(l.map SC.lit).map (SC.den ⟨fun _ _ => .bool true,fun _=>0,fun _=>undef⟩)=l:=fun l=>by
     rw [List.map_map,show (SC.den _ ∘ SC.lit)=id from rfl,List.map_id]
    rw [hid,hid] at hf
    have he:(SV.v true (cs.map SC.lit)).den ⟨fun _ _ => .bool true,fun _=>0,fun _=>undef⟩ = .agg cs.toArray:=by
     show Value.agg (((cs.map SC.lit).map (SC.den _)).toArray)=_
     rw [hid]
    simp only [List.map_cons,List.map_nil,he] at hf
    rw [hx];exact hf
   simp only [execOp,ho,Instr.buildSlice,Sem.run_bind,run_underlying ht W,Result.andThen_ok,C6 Tryd.prog hz W,h0,h00,if_false,hzv,Sem.run_pure]
   have hm:(#[((0:Nat),x)].map fun (i,x)=>(i, ρ x)).toList=[(0, ρ x)]:=by simp
   rw [hm,hfill]
   simp only [newRow,newObj]
   rfl
 · refine ⟨cs,⟨by simp [hc],.inr ⟨W.heap.size,1,cs.toArray,rfl,hb,A9 _ _ _ rfl,Nat.le_refl _,by unfold maxLen;omega,by simp [hc], ?_⟩⟩,fun j hj=>?_⟩
   · rw [List.length_singleton,Nat.one_mul, <- hc];exact List.take_length
   · have:j=0:=by simpa using hj
     subst this
     rw [Nat.mul_zero,List.drop_zero, <- hc,List.take_length]
     exact hA _ (Keeps.grown hg)
theorem mV {α : Type} {A:List Value->α->Prop} {z:Nat} {xs ys:List Value} {l m:List α} (hx:xs.length=l.length*z) (h1:∀ (i:Nat) (h:i<l.length),A ((xs.drop (z*i)).take z) l[i]) (h2:∀ (i:Nat) (h:i<m.length),A ((ys.drop (z*i)).take z) m[i]) :
 ∀ (i:Nat) (h:i<(l++m).length),A (((xs++ys).drop (z*i)).take z) (l++m)[i]:=by
 intro i h
 rcases Nat.lt_or_ge i l.length with hlt | hge
 · rw [List.getElem_append_left hlt]
   have hle:z*i+z<=xs.length:=by rw [hx, <- Nat.mul_succ,Nat.mul_comm];exact Nat.mul_le_mul_right _ hlt
   rw [List.drop_append_of_le_length (by omega),List.take_append_of_le_length (by simp;omega)]
   exact h1 i hlt
 · rw [List.getElem_append_right hge]
   have he:z*i=xs.length+z*(i-l.length):=by rw [hx,Nat.mul_comm l.length z, <- Nat.mul_add];congr 1;omega
   rw [he,List.drop_append]
   have:=h2 (i-l.length) (by simp at h;omega)
   rw [show xs.drop (xs.length+z*(i-l.length))=[] from List.drop_of_length_le (by omega),List.nil_append,show xs.length+z*(i-l.length)-xs.length=z*(i-l.length) by omega]
   exact this
def RwV {α : Type} (k:N9 α) (W:World) (v:Value) (l:List α):Prop:=∃ s n c,v = .slice s n c/\l.length=n/\n<=c/\(l=[] \/ ∃ (b off:Nat) (xs:List Value),s=some ⟨b,off,none⟩/\xs.length=l.length*k.z/\(∀ j u,xs[j]?=some u->W.cell? ⟨b,off+j,none⟩=some u) /\ ∀ (i:Nat) (h:i<l.length),k.A W ((xs.drop (k.z*i)).take k.z) l[i])
theorem OwV.rwV {α : Type} {k:N9 α} {base:Nat} {W:World} {v:Value} {l:List α} (h:OwV k base W v l):RwV k W v l:=by
 obtain ⟨xs,⟨hl,h2⟩,hA⟩:=h
 rcases h2 with ⟨rfl,h0⟩ | ⟨g,cap,cur,rfl,hbg,hg,hnc,hcm,hcs,htk⟩
 · exact ⟨none,0,0,rfl,h0,Nat.le_refl _,.inl (List.eq_nil_of_length_eq_zero h0)⟩
 · refine ⟨_,_,_,rfl,rfl,hnc,.inr ⟨g,0,xs,rfl,hl,fun j u hj=>?_,hA⟩⟩
   rw [Nat.zero_add]
   have hlt:j<l.length*k.z:=by rw [<- hl];exact (List.getElem?_eq_some_iff.1 hj).1
   have:cur[j]?=some u:=by
    rw [<- Array.getElem?_toList]
    have htk':cur.toList.take (l.length*k.z)=xs:=htk
    rw [<- htk',List.getElem?_take_of_lt hlt] at hj
    exact hj
   unfold World.cell?
   rw [hg];exact this
theorem GsV.rwV {B:Nat} {W:World} {v:Value} {l:List G2} (h:GsV B W v l):RwV kG W v l:=by
 obtain ⟨s,n,c,rfl,hl,hn,hd⟩:=h
 refine ⟨s,n,c,rfl,hl,hn, ?_⟩
 rcases hd with hd | ⟨b,off,rfl,hb,hc⟩
 · exact .inl hd
 · exact .inr ⟨b,off,g2c l,rfl,g2c_len l,fun j u hj=>pR l off hc j u hj,fun i hi=>g2c_at l i hi⟩
theorem mU {α : Type} {A:List Value->α->Prop} {z:Nat} (hz : 0<z) {xs:List Value} {l:List α} (hx:xs.length=l.length*z) (hone:∀ cs d,A cs d -> ∀ u ∈ cs,u.oneCell'=true) (h1:∀ (i:Nat) (h:i<l.length),A ((xs.drop (z*i)).take z) l[i]):∀ u ∈ xs,u.oneCell'=true:=by
 intro u hu
 obtain ⟨j,hj,rfl⟩:=List.mem_iff_getElem.1 hu
 have hi:j / z<l.length:=Nat.div_lt_of_lt_mul (by rw [Nat.mul_comm, <- hx];exact hj)
 have hdm:=Nat.div_add_mod j z
 have hmod:=Nat.mod_lt j hz
 refine hone _ _ (h1 _ hi) _ (List.mem_iff_getElem.2 ⟨j%z, ?_, ?_⟩)
 · simp only [List.length_take,List.length_drop]
   omega
 · rw [List.getElem_take,List.getElem_drop]
   congr 1
theorem J7 {α : Type} (kd:N9 α) {t:TypeId} (ht:Tryd.prog.underlying t=some (.slice kd.T)) (hi:∃ i z,Tryd.prog.info? kd.T=some i/\i.zero=some z/\i.size=kd.z/\i.bytes<=1000000/\z.cells.size=kd.z) (hsz : 0<kd.z)
 (hone:∀ W cs d,kd.A W cs d -> ∀ u ∈ cs,u.oneCell'=true) {W:World} {base:Nat} {v u:Value} {l0 l:List α} (h:OwV kd base W v l0) (hu:RwV kd W u l) (hn:l0.length+l.length<=1000000) (hb:base<=W.heap.size) {ρ : Operand->Value} {o:Oper} {a b:Operand}
 (ho:o.op = .call ⟨.builtin .append, #[a,b], #[t,t]⟩) (ha : ρ a=v) (hbv : ρ b=u) :
 ∃ v' W',(execOp ρ o).run Tryd.prog W = .ok (.value v') W'/\OwV kd base W' v' (l0++l)/\OwV kd base W' v l0/\AppW base v v' W W'/\Keeps G0 W W'/\qQ kd base W W' v l0:=by
 obtain ⟨s,n,c,rfl,hl,hnc,hd⟩:=hu
 obtain ⟨i,z,i1,i2,i3,i4,i5⟩:=hi
 have hex:∀ (x:Value) (W':World),(Builtin.append_ #[t,t] o.type #[v,.slice s n c]).run Tryd.prog W = .ok x W'->(execOp ρ o).run Tryd.prog W = .ok (.value x) W':=fun x W' hr=>by
  simp only [execOp,ho,resolve,invoke,builtin,Sem.run_bind,Sem.run_pure,Result.andThen_ok,List.map_toArray,List.map_cons,List.map_nil,ha,hbv]
  rw [hr];rfl
 by_cases h0:l=[]
 · subst h0
   obtain ⟨s0,m0,cap,rfl,hm0,hmc,_⟩:=h.rwV
   have hn0:n=0:=hl.symm
   subst hn0
   rw [List.append_nil]
   exact ⟨_,W,hex _ _ (app_none W _ _ _ i ht i1 s0 m0 cap c s hmc),h,h,⟨⟨rfl,rfl,rfl,Nat.le_refl _,fun _ _ _=>rfl⟩,.inl rfl⟩,Keeps.refl W,fun _ _ h _ _=>h⟩
 · obtain ⟨q,off,ys,rfl,hyl,hc,hyA⟩:=hd.resolve_left h0
   have hyA0:=hyA
   obtain ⟨xs,hown,hA⟩:=h
   have hpos:=List.length_pos_iff.2 h0
   obtain ⟨v',W',hr,r1,r2,r3,r4⟩:=bA (P:=Tryd.prog) W base t o.type kd.T i z kd.z i.bytes ht i1 i2 i3 rfl i5 hsz v l0.length xs hown ⟨q,off,none⟩ n c ys (by rw [hyl,hl]) (fun j u hj=>by rw [Addr.add_mid];exact hc j u hj) (mU hsz hyl (hone W) hyA)
    (by unfold maxLen;omega) (by have:=Nat.mul_le_mul (show l0.length+n<=1000000 by omega) i4;omega) hb (by omega)
   have hkp:Keeps G0 W W':=fun b arr ty fr hp hbb=>by
    refine (r3.block b (Array.getElem?_eq_some_iff.1 hbb).1 fun e=>?_).trans hbb
    obtain ⟨_,_,c',hc'⟩:=OwV.inb (k:=kd) ⟨xs,hown,hA⟩ e.symm
    rw [hc'] at hbb;cases hbb
    exact absurd hp (by rw [kd.notLimb];decide)
   have r1:W'.ownsRow base kd.T kd.z v' (l0++l).length (xs++ys):=by rw [List.length_append,hl];exact r1
   refine ⟨v',W',hex _ _ hr,⟨_,r1,mV hown.1 (fun i hi=>kd.keeps (hA i hi) hkp) fun i hi=>kd.keeps (hyA0 i hi) hkp⟩,⟨xs,r2,fun i hi=>kd.keeps (hA i hi) hkp⟩,⟨r3,r4⟩,hkp,older_of hown r2 hkp⟩
theorem bounds_run {P:Program} {W:World} {n c i k:Nat} {lo hi:Option Value} (hlo:lo=some (.int .i64 i)\/lo=none/\i=0) (hhi:hi=some (.int .i64 k)\/hi=none/\k=n) (hik:i<=k) (hk:k<=n) (hn:n<=c) :
 (Instr.sliceBounds true n c lo hi none).run P W = .ok (i,k,c) W:=by
 have h3:k<=c:=by omega
 rcases hlo with rfl | ⟨rfl,rfl⟩<;>rcases hhi with rfl | ⟨rfl,rfl⟩<;>simp [Instr.sliceBounds,Instr.sliceBound,asIntOf,Sem.run_bind,Sem.run_pure,Result.andThen_ok,hik,h3]
section
variable {ρ : Operand->Value} {o:Oper} {W:World}
end
theorem RwV.keeps {α : Type} {k:N9 α} {W W':World} {v:Value} {l:List α} (h:RwV k W v l) (hk:Keeps G0 W W') (hq:∀ q,fpS v q->W'.heap[q]?=W.heap[q]?):RwV k W' v l:=by
 obtain ⟨s,n,c,rfl,hl,hnc,hd⟩:=h
 refine ⟨s,n,c,rfl,hl,hnc, ?_⟩
 by_cases h0:l=[]
 · exact .inl h0
 · obtain ⟨b,off,xs,rfl,hx,hc,hA⟩:=hd.resolve_left h0
   obtain ⟨m,rfl⟩:∃ m,n=m+1:=⟨n-1,by have:=List.length_pos_iff.2 h0;omega⟩
   exact .inr ⟨b,off,xs,rfl,hx,fun j u hj=>(Q5 (hq b ⟨off,m,c,rfl⟩)).trans (hc j u hj),fun i hi=>k.keeps (hA i hi) hk⟩
section
variable {ρ : Operand->Value} {o:Oper} {W:World}
end
end Go.Proofs.YtamdnbbgpacfkaaDoor
namespace Go.Proofs.YtamdnbbgpacfkaaDoor
open Go.ChangeShapes Go.WideShapes Go.ChangeAt Go.RowKit Go.ChangeMaps
theorem I4 {W W':World} (h:W.grownBy W' none) {p:MemPlace} (hp:p.block<W.heap.size):W.sameAt W' p:=by
 cases p with
 | cell b o=>exact World.cell?_of_block (w:=W) (h.block b hp (by simp))
 | map b=>exact h.block b hp (by simp)
theorem rP {W W':World} (h:W.grownBy W' none) {b off:Nat} (hp:b<W.heap.size):W'.frozen? ⟨b,off,none⟩=W.frozen? ⟨b,off,none⟩:=by
 unfold World.frozen?
 rw [h.block b hp (by simp)]
theorem bC {H:Type} {enc:TypeId × Value->H} {P:Program} {f:Func} {s:ChangeSpec} {apart fresh handsOn again:Bool} {W W':World} {args:Array Value} {v:Value} {ds gs:List (DataW H)} {before:List MemPlace}
 (hW:DataW.Whole enc P f.params.toList s.vars apart W args.toList ds gs before)
 (hlt:∀ p ∈ before,p.block<W.heap.size)
 (hres:∀ (b:Nat) (sp:Nat->Bool) (hd:Bool),DataW.TrodAll enc P W' b sp hd f.resultTypes.toList (v.resultList f.resultTypes.size) (s.fn H (ds++gs)).results [])
 (hargs:∀ sp:Nat->Bool,(∀ p ∈ before,sp p.block=true)->DataW.TrodAll enc P W' 0 sp true f.params.toList args.toList (s.fn H (ds++gs)).args before)
 (hvars:∀ sp:Nat->Bool,DataW.TrodVars enc P W' sp s.vars (s.fn H (ds++gs)).vars [])
 (hg:W.grownBy W' none)
 (hok:∀ (j:Nat) (t:TypeId) (r:Value),f.resultTypes[j]?=some t->(v.resultList f.resultTypes.size)[j]?=some r->Value.okWide P W' .any 0 t r) :
 s.post enc P f apart fresh handsOn again W args v W':=by
 have hW2:=hW
 obtain ⟨_,_,_,_,_,hfz,hnd⟩:=hW2
 have hA:=hargs (fun b=>decide (b<W.heap.size)) (fun p hp=>decide_eq_true (hlt p hp))
 refine ⟨ds,gs,before,[],before,[],hW,hres _ _ _,hA,hvars _,World.keptBut_mono (fun p hp=>hp.elim) (oG hg),fun _=>?_⟩
 refine ⟨hok,_,_,before,⟨before,[],trodAll_append (hargs (fun _=>true) (fun _ _=>rfl)) (hres _ _ _),hvars _,(List.append_nil _).symm, ?_,hnd⟩,fun p hp _=>hp⟩
 intro b off hp
 rw [rP hg (show b<W.heap.size from hlt _ hp)]
 exact hfz b off hp
end Go.Proofs.YtamdnbbgpacfkaaDoor
namespace Go.Proofs.YtamdnbbgpacfkaaDoor
open Go.ChangeShapes Go.WideShapes Go.ChangeAt Go.RowKit Go.ChangeMaps Mat
theorem oP : Tryd.prog.globalNamed "math/bits.deBruijn64tab" = some 0 := by kernel_rfl
theorem tab_typed:(Tryd.prog.globals[0]?).map (·.type)=some 153:=by kernel_rfl
theorem tab_cells:Tryd.prog.cellsOf 153=64:=by kernel_rfl
theorem u8_cells:Tryd.prog.cellsOf 5=1:=by kernel_rfl
theorem tab_of {W : World} (h : laidMetH Tryd.prog [("math/bits.deBruijn64tab", Rows.laid_math_bits_deBruijn64tab)] W) : Tab W := by
 have h1 : Lib.TabIs Tryd.prog W "math/bits.deBruijn64tab" .u8 (Lib.deBruijn64tab.map fun n : Nat => (n : Int)) := Lib.tabIs_of_head (rest := []) oP tab_typed Tryd.underlying153 Tryd.underlying5 u8_cells tab_cells h
 intro j hj
 rw [h1.cell oP j (by simpa using hj)]
 simp [List.getD_eq_getElem?_getD,List.getElem?_map,List.getElem?_eq_getElem hj]
noncomputable def M4 (os:Os):World:=
 { World.holding Tryd.prog os ⟨#[], #[],[]⟩ with heap:=(World.holding Tryd.prog os ⟨#[], #[],[]⟩).heap.modify 0 fun
  | .cells _ t frozen => .cells (Lib.deBruijn64tab.map fun z:Nat=>Value.int .u8 (z:Int)).toArray t frozen
  | o=>o }
end Go.Proofs.YtamdnbbgpacfkaaDoor
namespace Go.Proofs.YtamdnbbgpacfkaaDoor
open Go.ChangeShapes Go.WideShapes Go.ChangeAt Go.RowKit Go.ChangeMaps
section
variable {H:Type} {enc:TypeId × Value->H} {W:World} {sp:Nat->Bool}
theorem U6 {n:Int} (h:(Lit.int .i64 n).wf=true) : -9223372036854775808<=n/\n<=9223372036854775807:=by
 simp [Lit.wf,IntKind.min,IntKind.max,IntKind.signed,IntKind.bits] at h
 omega
theorem gT:Tryd.prog.cellsOf 3=1:=by kernel_rfl
theorem pY:Tryd.prog.cellsOf 23=3:=by kernel_rfl
theorem mH:∃ f0 f1 f2:Field,Tryd.prog.underlying 23=some (.struct #[f0,f1,f2])/\f0.offset=0/\f1.offset=1/\f2.offset=2/\f0.type=3/\f1.type=3/\f2.type=3:=⟨_,_,_,Tryd.underlying23,rfl,rfl,rfl,rfl,rfl,rfl⟩
theorem X4 {b0:Nat} {r:Reach} {v:Value} {d:DataW H} {p:List MemPlace} (hval:Value.okWide Tryd.prog W r b0 23 v) (h:DataW.Trod enc Tryd.prog W 0 sp true 23 v d p) :
 ∃ x y z:Int,v = .agg #[.int .i64 x,.int .i64 y,.int .i64 z]/\(-9223372036854775808<=x/\x<=9223372036854775807)/\(-9223372036854775808<=y/\y<=9223372036854775807)/\(-9223372036854775808<=z/\z<=9223372036854775807):=by
 obtain ⟨cs,rfl,hcs⟩:=okWide_struct Tryd.underlying23 hval
 rw [pY] at hcs
 obtain ⟨n,hn⟩:=h
 obtain ⟨f0,f1,f2,he,o0,o1,o2,t0,t1,t2⟩:=mH
 obtain ⟨xs,k',_,_,_,hxl,hf⟩:=DataW.trod_struct he hn
 obtain ⟨l0,rfl⟩:∃ l0:List Value,cs=l0.toArray:=⟨cs.toList,by simp⟩
 have hl0:l0.length=3:=by simpa using hcs
 match xs,hxl,l0,hl0 with
 | [y0,y1,y2],_,[v0,v1,v2],_=>
   have g0:=hf 0 f0 rfl
   have g1:=hf 1 f1 rfl
   have g2:=hf 2 f2 rfl
   simp [o0,o1,o2,t0,t1,t2,gT,Value.cells] at g0 g1 g2
   obtain ⟨x0,hx0,_,w0⟩:=DataW.trod_int Tryd.underlying3 g0
   obtain ⟨x1,hx1,_,w1⟩:=DataW.trod_int Tryd.underlying3 g1
   obtain ⟨x2,hx2,_,w2⟩:=DataW.trod_int Tryd.underlying3 g2
   simp at hx0 hx1 hx2
   subst hx0;subst hx1;subst hx2
   exact ⟨x0,x1,x2,rfl,U6 w0,U6 w1,U6 w2⟩
end
end Go.Proofs.YtamdnbbgpacfkaaDoor
namespace Go.Proofs.YtamdnbbgpacfkaaDoor
open Go.ChangeShapes Go.WideShapes Go.ChangeAt Go.RowKit Go.ChangeMaps Go.Deep
section
variable {H:Type} {enc:TypeId × Value->H} {W:World} {sp:Nat->Bool}
theorem qG {w:World} {a:Addr} {v:Value} (h:w.cell? a=some v):a.spot=none:=by
 unfold World.cell? at h
 cases hs:a.spot with
 | none=>rfl
 | some x=>rw [hs] at h;revert h;cases w.heap[a.block]? with
   | none=>intro h;cases h
   | some o=>cases o<;>simp
end
end Go.Proofs.YtamdnbbgpacfkaaDoor
