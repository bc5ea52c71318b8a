/- What the laws lean on, part 9. -/
import Derived.Below
import Derived.BigCall
import Derived.BigQuiet
import Derived.BigRegion
import Derived.Deep.AppendLies
import Derived.Deep.CutBlock
import Derived.Deep.CutRange
import Derived.Deep.DeepCutAuto
import Derived.Deep.DeepHandedRow
import Derived.Deep.LoopGhost
import Derived.Deep.MidRow
import Derived.Deep.QuietTactic
import Derived.Deep.RegionHeld3
import Derived.Deep.RegionLaw
import Derived.Deep.WholeRow
import Derived.Laws.AppendOwn
import Derived.Laws.Concat
import Derived.Laws.CopyOwn
import Derived.Laws.Externs
import Derived.Laws.IdiomStrings
import Derived.Lib.BitFns
import Derived.Lib.Bytealg
import Derived.Lib.Hide
import Derived.Lib.Slices
import Derived.Lib.Small
import Derived.Lib.Strings
import Derived.Lib.Walk
import Derived.LoopIn
import Derived.LoopN
import Derived.LoopNIn
import Derived.Maps.AppendAt
import Derived.OpenShut
import Derived.OrdersHeld
import Derived.OrdersIn
import Derived.Outline
import Derived.OwnWalk
import Derived.OwnWalkIn
import Derived.ProofKit
import Derived.RangeFuncBound
import Derived.RangeFuncCalls
import Derived.RangeFuncLeaves
import Derived.RangeFuncNested
import Derived.RangeFuncOwn
import Derived.Shelf.Abstract
import Derived.Shelf.Bits.Mul64
import Derived.Shelf.RegionOpen
import Derived.Shelf.Spec.TrailingZeros
import Derived.StillTailTactics
import Derived.TacticsInMore
import Derived.WalkKit
import Derived.WalkLawsBesides
import Derived.WalkSpells
import Derived.Test.YtamdnbbgpacfkaaDoorProg
import Derived.Test.YtamdnbbgpacfkaaDoorRows
import Derived.Test.YtamdnbbgpacfkaaDoorMe6
import Derived.Test.YtamdnbbgpacfkaaDoorMe8
set_option linter.unusedVariables false
set_option linter.unusedSimpArgs false
set_option maxRecDepth 100000
namespace Go.Proofs.YtamdnbbgpacfkaaDoor
open Go.RowKit Mat Ex PM
def Bn (K:Nat) (r:Rat):Prop:=r.num.natAbs<B^K/\r.den<B^K
theorem bwd {a K M:Nat} (h:a<B^K) (hK:K<=M):a<B^M:=Nat.lt_of_lt_of_le h (Nat.pow_le_pow_right E5 hK)
theorem Bn.mono {K M:Nat} {r:Rat} (h:Bn K r) (hK:K<=M):Bn M r:=⟨bwd h.1 hK,bwd h.2 hK⟩
theorem Bn.neg {K:Nat} {r:Rat} (h:Bn K r):Bn K (-r):=⟨by rw [Rat.neg_num,Int.natAbs_neg];exact h.1,by rw [Rat.neg_den];exact h.2⟩
theorem Bn.add {K:Nat} {r t:Rat} (h:Bn K r) (h':Bn K t):Bn (K+K+1) (r+t):=by
 constructor
 · rw [Rat.num_add]
   exact Nat.lt_of_le_of_lt (Int.natAbs_ediv_le_natAbs _ _) (rT (N6 h.1 (ldi h'.2)) (N6 h'.1 (ldi h.2)))
 · rw [Rat.den_add]
   refine Nat.lt_of_le_of_lt (Nat.div_le_self _ _) (bwd (K:=K+K) ?_ (by omega))
   rw [Nat.pow_add];exact Nat.mul_lt_mul'' h.2 h'.2
theorem Bn.sub {K:Nat} {r t:Rat} (h:Bn K r) (h':Bn K t):Bn (K+K+1) (r-t):=by rw [Rat.sub_eq_add_neg];exact h.add h'.neg
theorem Bn.mul {K:Nat} {r t:Rat} (h:Bn K r) (h':Bn K t):Bn (K+K) (r*t):=by
 constructor
 · rw [kZ,Int.natAbs_mul,Nat.pow_add]
   exact Nat.mul_lt_mul'' (Nat.lt_of_le_of_lt (Int.natAbs_ediv_le_natAbs _ _) h.1) (Nat.lt_of_le_of_lt (Int.natAbs_ediv_le_natAbs _ _) h'.1)
 · rw [lA,Nat.pow_add]
   exact Nat.mul_lt_mul'' (Nat.lt_of_le_of_lt (Nat.div_le_self _ _) h.2) (Nat.lt_of_le_of_lt (Nat.div_le_self _ _) h'.2)
theorem Bn.zero {K:Nat} (hK : 1<=K):Bn K (0:Rat):=⟨Nat.pow_pos E5,Nat.one_lt_pow (by omega) (by unfold B;omega)⟩
def Bp (K:Nat) (p:Pq):Prop:=Bn K p.1/\Bn K p.2
theorem Bp.mono {K M:Nat} {p:Pq} (h:Bp K p) (hK:K<=M):Bp M p:=⟨h.1.mono hK,h.2.mono hK⟩
theorem Bp.cross {K:Nat} {a b c:Pq} (ha:Bp K a) (hb:Bp K b) (hc:Bp K c):Bn (8*K+5) (A3 a b c):=by
 unfold A3
 exact (((hb.1.sub ha.1).mul (hc.2.sub ha.2)).sub ((hb.2.sub ha.2).mul (hc.1.sub ha.1))).mono (by omega)
def PtV (w:World) (v:Value) (p:Pq):Prop:=∃ a b c d e f g h:Value,v = .agg #[a,b,c,d,e,f,g,h]/\RatV w (.agg #[a,b,c,d]) p.1/\RatV w (.agg #[e,f,g,h]) p.2
theorem PtV.kept {w w':World} {v:Value} {p:Pq} (h:PtV w v p) (hg:w.grownBy w' none):PtV w' v p:=by
 obtain ⟨a,b,c,d,e,f,g,i,e1,h1,h2⟩:=h
 exact ⟨a,b,c,d,e,f,g,i,e1,h1.kept hg,h2.kept hg⟩
theorem PtV.keeps {W W':World} {v:Value} {p:Pq} (h:PtV W v p) (k:Keeps G0 W W'):PtV W' v p:=by
 obtain ⟨a,b,c,d,e,f,g,i,e1,h1,h2⟩:=h
 exact ⟨a,b,c,d,e,f,g,i,e1,h1.keeps k,h2.keeps k⟩
theorem RatV.one {w:World} {a b c d:Value} {r:Rat} (h:RatV w (.agg #[a,b,c,d]) r):a.oneCell'=true/\b.oneCell'=true/\c.oneCell'=true/\d.oneCell'=true:=by
 obtain ⟨s,xs,f,s',xs',f',e,_⟩:=h
 cases e;exact ⟨rfl,rfl,rfl,rfl⟩
theorem PtV.one {w:World} {a b c d e f g h:Value} {p:Pq} (hp:PtV w (.agg #[a,b,c,d,e,f,g,h]) p):∀ x ∈ [a,b,c,d,e,f,g,h],x.oneCell'=true:=by
 obtain ⟨a',b',c',d',e',f',g',h',q,h1,h2⟩:=hp
 cases q
 obtain ⟨i1,i2,i3,i4⟩:=h1.one
 obtain ⟨i5,i6,i7,i8⟩:=h2.one
 simp [i1,i2,i3,i4,i5,i6,i7,i8]
def sPt (p:Pq):Sp := .of (.agg 8) (fun v W=>PtV W v p) (fun v W h=>by
 have h0:=h
 obtain ⟨a,b,c,d,e,f,g,i,rfl,h1,h2⟩:=h
 exact ⟨D7 [a,b,c,d,e,f,g,i],B4 h0.one,rfl⟩) (fun v W W' k h=>h.keeps k)
theorem pt1 {W:World} {a b c d e f g h:Value} {p:Pq} : PtV W (.agg #[a,b,c,d,e,f,g,h]) p->RatV W (.agg #[a,b,c,d]) p.1:=by
 rintro ⟨a',b',c',d',e',f',g',h',q,h1,h2⟩;cases q;exact h1
theorem pt2 {W:World} {a b c d e f g h:Value} {p:Pq} : PtV W (.agg #[a,b,c,d,e,f,g,h]) p->RatV W (.agg #[e,f,g,h]) p.2:=by
 rintro ⟨a',b',c',d',e',f',g',h',q,h1,h2⟩;cases q;exact h2
theorem oE {W:World} {a b c d e f g h:Value} {p:Pq} (h1:RatV W (.agg #[a,b,c,d]) p.1) (h2:RatV W (.agg #[e,f,g,h]) p.2):PtV W (.agg #[a,b,c,d,e,f,g,h]) p:=⟨a,b,c,d,e,f,g,h,rfl,h1,h2⟩
def jA (w:World) (p:Pq) (e:Ending) (w':World):Prop:=∃ v,e = .returned v/\PtV w' v p/\w.grownBy w' none
theorem PtV.nil (w:World):PtV w (.agg #[.slice none 0 0,.bool false,.slice none 0 0,.bool false,.slice none 0 0,.bool false,.slice none 0 0,.bool false]) (0,0):=oE (RatV.zero w) (RatV.zero w)
def SgV (w:World) (v:Value) (p q:Pq):Prop:=∃ a b c d e f g h a' b' c' d' e' f' g' h':Value,v = .agg #[a,b,c,d,e,f,g,h,a',b',c',d',e',f',g',h']/\PtV w (.agg #[a,b,c,d,e,f,g,h]) p/\PtV w (.agg #[a',b',c',d',e',f',g',h']) q
theorem SgV.keeps {W W':World} {v:Value} {p q:Pq} (h:SgV W v p q) (k:Keeps G0 W W'):SgV W' v p q:=by
 obtain ⟨a,b,c,d,e,f,g,i,a',b',c',d',e',f',g',i',e1,h1,h2⟩:=h
 exact ⟨a,b,c,d,e,f,g,i,a',b',c',d',e',f',g',i',e1,h1.keeps k,h2.keeps k⟩
theorem SgV.kept {w w':World} {v:Value} {p q:Pq} (h:SgV w v p q) (hg:w.grownBy w' none):SgV w' v p q:=by
 obtain ⟨a,b,c,d,e,f,g,i,a',b',c',d',e',f',g',i',e1,h1,h2⟩:=h
 exact ⟨a,b,c,d,e,f,g,i,a',b',c',d',e',f',g',i',e1,h1.kept hg,h2.kept hg⟩
def sSg (p q:Pq):Sp := .of (.agg 16) (fun v W=>SgV W v p q) (fun v W h=>by
 obtain ⟨a,b,c,d,e,f,g,i,a',b',c',d',e',f',g',i',rfl,h1,h2⟩:=h
 refine ⟨D7 [a,b,c,d,e,f,g,i,a',b',c',d',e',f',g',i'],B4 (fun x hx=>?_),rfl⟩
 rcases List.mem_append.1 (show x ∈ [a,b,c,d,e,f,g,i]++[a',b',c',d',e',f',g',i'] from hx) with hx | hx
 · exact h1.one x hx
 · exact h2.one x hx) (fun v W W' k h=>h.keeps k)
theorem sg1 {W:World} {a b c d e f g h a' b' c' d' e' f' g' h':Value} {p q:Pq} : SgV W (.agg #[a,b,c,d,e,f,g,h,a',b',c',d',e',f',g',h']) p q->PtV W (.agg #[a,b,c,d,e,f,g,h]) p:=by
 rintro ⟨_,_,_,_,_,_,_,_,_,_,_,_,_,_,_,_,e,h1,h2⟩;cases e;exact h1
theorem sg2 {W:World} {a b c d e f g h a' b' c' d' e' f' g' h':Value} {p q:Pq} : SgV W (.agg #[a,b,c,d,e,f,g,h,a',b',c',d',e',f',g',h']) p q->PtV W (.agg #[a',b',c',d',e',f',g',h']) q:=by
 rintro ⟨_,_,_,_,_,_,_,_,_,_,_,_,_,_,_,_,e,h1,h2⟩;cases e;exact h2
theorem mksg {W:World} {a b c d e f g h a' b' c' d' e' f' g' h':Value} {p q:Pq} (h1:PtV W (.agg #[a,b,c,d,e,f,g,h]) p) (h2:PtV W (.agg #[a',b',c',d',e',f',g',h']) q):SgV W (.agg #[a,b,c,d,e,f,g,h,a',b',c',d',e',f',g',h']) p q:=
 ⟨_,_,_,_,_,_,_,_,_,_,_,_,_,_,_,_,rfl,h1,h2⟩
def sPP (p q:Pq):Sp := .of (.tup [(none,9),(none,9)]) (fun v W=>∃ u t,v = .tuple #[u,t]/\PtV W u p/\PtV W t q) (fun v W h=>by
 obtain ⟨u,t,rfl,h1,h2⟩:=h
 have i1:=h1;have i2:=h2
 obtain ⟨a,b,c,d,e,f,g,i,rfl,_⟩:=h1
 obtain ⟨a',b',c',d',e',f',g',i',rfl,_⟩:=h2
 refine Y4 (u := .bool true) (cs:=[a,b,c,d,e,f,g,i,a',b',c',d',e',f',g',i']) (fun x hx=>?_) rfl
 rcases List.mem_append.1 (show x ∈ [a,b,c,d,e,f,g,i]++[a',b',c',d',e',f',g',i'] from hx) with hx | hx
 · exact i1.one x hx
 · exact i2.one x hx) (fun v W W' k h=>by obtain ⟨u,t,e,h,h'⟩:=h;exact ⟨u,t,e,h.keeps k,h'.keeps k⟩)
theorem pp1 {p q:Pq} {a b:Value} {W:World} : (sPP p q).F (.tuple #[a,b]) W->PtV W a p:=by rintro ⟨u,t,e,h,_⟩;cases e;exact h
theorem pp2 {p q:Pq} {a b:Value} {W:World} : (sPP p q).F (.tuple #[a,b]) W->PtV W b q:=by rintro ⟨u,t,e,_,h⟩;cases e;exact h
def RetPP (w:World) (p q:Pq) (e:Ending) (w':World):Prop:=∃ v u,e = .returned (.tuple #[v,u])/\PtV w' v p/\PtV w' u q/\w.grownBy w' none
section
variable {P:Program} {f:FuncId} {args:Array Value} {W:World}
theorem aQ {p q:Pq} (h:Calls P f args W (RetPP W p q)):Calls P f args W (Ret W (sPP p q).F):=h.mono fun _ _ ⟨v,u,a,h,h',g⟩=>⟨_,a,⟨v,u,rfl,h,h'⟩,g⟩
end
def PAt (w:World) (cs:Array Value) (o:Nat) (p:Pq):Prop:=∃ a b c d e f g h:Value,cs[o]?=some a/\cs[o+1]?=some b/\cs[o+2]?=some c/\cs[o+3]?=some d/\cs[o+4]?=some e/\cs[o+5]?=some f/\cs[o+6]?=some g/\cs[o+7]?=some h/\PtV w (.agg #[a,b,c,d,e,f,g,h]) p
def PtsV (w:World) (v:Value) (l:List Pq):Prop:=∃ s n c,v = .slice s n c/\l.length=n/\n<=c/\(l=[] \/ ∃ b off cs,s=some ⟨b,off,none⟩/\w.heap[b]?=some (.cells cs 33 (0,0)) /\ ∀ i (h:i<l.length),PAt w cs (off+8*i) l[i])
def fpS (v:Value) (q:Nat):Prop:=∃ off n c,v = .slice (some ⟨q,off,none⟩) (n+1) c
def fpP (v:Value) (q:Nat):Prop:=∃ off,v = .pointer (some ⟨q,off,none⟩)
theorem PAt.keeps {W W':World} {cs:Array Value} {o:Nat} {p:Pq} (h:PAt W cs o p) (k:Keeps G0 W W'):PAt W' cs o p:=by
 obtain ⟨a,b,c,d,e,f,g,i,h1,h2,h3,h4,h5,h6,h7,h8,h9⟩:=h
 exact ⟨a,b,c,d,e,f,g,i,h1,h2,h3,h4,h5,h6,h7,h8,h9.keeps k⟩
theorem PtsV.keeps {W W':World} {v:Value} {l:List Pq} (h:PtsV W v l) (k:Keeps G0 W W') (hq:∀ q,fpS v q->W'.heap[q]?=W.heap[q]?):PtsV W' v l:=by
 obtain ⟨s,n,c,rfl,hl,hn,h⟩:=h
 refine ⟨s,n,c,rfl,hl,hn, ?_⟩
 by_cases h0:l=[]
 · exact .inl h0
 · obtain ⟨b,off,cs,rfl,hb,hc⟩:=h.resolve_left h0
   obtain ⟨m,rfl⟩:∃ m,n=m+1:=⟨n-1,by have:=List.length_pos_iff.2 h0;omega⟩
   exact .inr ⟨b,off,cs,rfl,by rw [hq b ⟨off,m,c,rfl⟩];exact hb,fun i hi=>(hc i hi).keeps k⟩
theorem PtsV.inb {W:World} {v:Value} {l:List Pq} (h:PtsV W v l) (q:Nat) (hq:fpS v q):q<W.heap.size:=by
 obtain ⟨s,n,c,rfl,hl,hn,h⟩:=h
 obtain ⟨off,m,c',e⟩:=hq
 cases e
 rcases h with h | ⟨b,off',cs,e,hb,_⟩
 · rw [h] at hl;simp at hl
 · cases e;exact (Array.getElem?_eq_some_iff.1 hb).1
def eR (s0:Nat) (l:List Pq):Sp where
 sh := .one
 F v W:=PtsV W v l /\ ∀ q,fpS v q->s0<=q
 fits v W h:=by obtain ⟨⟨s,n,c,rfl,_⟩,_⟩:=h;exact ⟨fun _ => .slice s n c,fun _=>rfl,rfl⟩
 row:=true
 fp v _ q:=fpS v q
 lasts v W W' k hq h:=⟨⟨h.1.keeps k hq,h.2⟩,fun _ h=>h⟩
 inb v W h q hq:=h.1.inb q hq
 flat h:=by cases h
def iE (w:World) (l:List Pq) (e:Ending) (w':World):Prop:=∃ v,e = .returned v/\PtsV w' v l/\w.grownBy w' none /\ ∀ q,fpS v q->w.heap.size<=q
theorem dI {P:Program} {f:FuncId} {args:Array Value} {W:World} {l:List Pq} {old:Nat->Prop} {s0:Nat} (hs:s0<=W.heap.size) (h:Calls P f args W (iE W l)):Calls P f args W (RetS W (eR s0 l) old):=
 h.mono fun _ _ ⟨v,a,h,g,hq⟩=>⟨v,a,⟨h,fun q hf=>Nat.le_trans hs (hq q hf)⟩,g,fun q hf => .inl (hq q hf)⟩
section
variable {P:Program} {ρ : Operand->Value} {o:Oper} {W:World}
end
end Go.Proofs.YtamdnbbgpacfkaaDoor
namespace Go.Proofs.YtamdnbbgpacfkaaDoor.PM
def H5 (f:Pq->Pq->Int):List Pq->Int
 | []=>0
 | [_]=>0
 | a :: b :: l=>f a b+H5 f (b :: l)
def cyL (f:Pq->Pq->Int):List Pq->Int
 | []=>0
 | a :: l=>H5 f (a :: l++[a])
theorem R2 (f:Pq->Pq->Int) (x:Pq) (m:List Pq):∀ l,H5 f (l++x :: m)=H5 f (l++[x])+H5 f (x :: m)
 | []=>by show H5 f (x :: m)=0+_;omega
 | [a]=>by show f a x+H5 f (x :: m)=f a x+0+_;omega
 | a :: b :: l=>by
   show f a b+H5 f (b :: l++x :: m)=f a b+H5 f (b :: l++[x])+_
   rw [R2 f x m (b :: l)];omega
theorem lF (f:Pq->Pq->Int) (x y:Pq) (l:List Pq):H5 f (l++[x,y])=H5 f (l++[x])+f x y:=by
 rw [R2 f x [y] l];show _+(f x y+0)=_;omega
def pt0 (l:List Pq) (i:Nat):Pq:=l.getD i (0,0)
def nxt (l:List Pq) (i:Nat):Pq:=pt0 l ((i+1)%l.length)
def pass (i k:Int):Int:=if i<=0/\0<k then 1 else if 0<i/\k<=0 then -1 else 0
theorem pass_swap (i k:Int):pass k i = - pass i k:=by unfold pass;split<;>split<;>(try split)<;>omega
def ahd (lf:Pq->Int) (m a b:Pq):Int:=if rsg (A3 a b m)=pass (lf a) (lf b) then pass (lf a) (lf b) else 0
def thr (lf:Pq->Int) (m a b:Pq):Int:=if rsg (A3 a b m)=0 then pass (lf a) (lf b) else 0
def lvl (m p:Pq):Int:=G4 p.2 m.2
def upr (m p:Pq):Int:=G4 m.1 p.1
theorem kX (a b m:Pq):rsg (A3 b a m) = - rsg (A3 a b m):=by rw [mQ,rsg_neg]
theorem nE (lf:Pq->Int) (m a b:Pq):ahd lf m b a = - ahd lf m a b:=by
 unfold ahd;rw [pass_swap (lf a) (lf b),kX];split<;>split<;>omega
def qtr (p q:Pq):Int:=
 if 0<G4 q.1 p.1/\0<=G4 q.2 p.2 then 0 else if G4 q.1 p.1<=0/\0<G4 q.2 p.2 then 1 else if G4 q.1 p.1<0/\G4 q.2 p.2<=0 then 2 else 3
def gq (p x:Pq):Int:=if G4 x.1 p.1=1/\G4 x.2 p.2=0 then 4 else qtr p x
def three:List Int:=[-1,0,1]
def S3 (l:List Pq) (p:Pq):Int:=cyL (ahd (lvl p) p) l
end Go.Proofs.YtamdnbbgpacfkaaDoor.PM
namespace Go.Proofs.YtamdnbbgpacfkaaDoor
open Go.RowKit Go.Shelf Mat Ex PM
attribute [local go_sem] Oper.semAt_some
def gc (cs:Array Value) (k:Nat):Value:=(cs[k]?).getD undef
def pv (cs:Array Value) (o:Nat):Value := .agg #[gc cs o,gc cs (o+1),gc cs (o+2),gc cs (o+3),gc cs (o+4),gc cs (o+5),gc cs (o+6),gc cs (o+7)]
theorem gc_get {cs:Array Value} {k:Nat} (h:k<cs.size):cs[k]?=some (gc cs k):=by unfold gc;simp [h]
theorem C4 {W:World} {b:Nat} {cs:Array Value} {t:TypeId} (h:W.heap[b]?=some (.cells cs t (0,0))) {k:Nat} (hk:k<cs.size):W.cell? ⟨b,k,none⟩=some (gc cs k):=by
 unfold World.cell?;rw [h];exact gc_get hk
def Sh8 (cs:Array Value) (o:Nat):Prop:=∃ (s:Option Addr) (n:Nat) (x:Bool) (s':Option Addr) (n':Nat) (x':Bool) (t:Option Addr) (m:Nat) (y:Bool) (t':Option Addr) (m':Nat) (y':Bool),
 gc cs o = .slice s n n/\gc cs (o+1) = .bool x/\gc cs (o+2) = .slice s' n' n'/\gc cs (o+3) = .bool x'/\gc cs (o+4) = .slice t m m/\gc cs (o+5) = .bool y/\gc cs (o+6) = .slice t' m' m'/\gc cs (o+7) = .bool y'
theorem two_ways {e:Ending} {A B:Prop} (h:(e = .returned (.bool true)/\A)\/(e = .returned (.bool false)/\B)):∃ b,e = .returned (.bool b)/\Hid ((b=true/\A)\/(b=false/\B)):=by
 rcases h with ⟨e,h⟩ | ⟨e,h⟩
 · exact ⟨true,e,Lib.hid (.inl ⟨rfl,h⟩)⟩
 · exact ⟨false,e,Lib.hid (.inr ⟨rfl,h⟩)⟩
def KpR (b Bs:Nat) (W W':World):Prop:=W'.heap[b]?=W.heap[b]?/\W'.heap[Bs]?=W.heap[Bs]?
theorem kpR_t {b Bs:Nat} {A B C:World} (h:KpR b Bs A B) (k:KpR b Bs B C):KpR b Bs A C:=⟨k.1.trans h.1,k.2.trans h.2⟩
theorem kpR_b {b Bs:Nat} {w:World} (h1:b<w.heap.size) (h2:Bs<w.heap.size) (W:World) (l:Nat) (o o':Obj) (hl:w.heap.size<=l) (h:W.heap[l]?=some o) (_:o.isCells=false) (_:o.isWalk=false):KpR b Bs W (W.putObj l o'):=
 ⟨World.putObj_heap_other (by omega),World.putObj_heap_other (by omega)⟩
end Go.Proofs.YtamdnbbgpacfkaaDoor
namespace Go.Proofs.YtamdnbbgpacfkaaDoor
open Go.RowKit Mat Ex
section
variable {P:Program} (w:World)
theorem bA (base:Nat) (t ty e:TypeId) (i:TypeInfo) (z:Value) (size bytes:Nat) (ht:P.underlying t=some (.slice e)) (hi:P.info? e=some i) (hz:i.zero=some z)
 (hsize:i.size=size) (hby:i.bytes=bytes) (hzs:z.cells.size=size) (hsz : 0<size)
 (v:Value) (n:Nat) (xs:List Value) (hown:w.ownsRow base e size v n xs)
 (a:Addr) (m c:Nat) (news:List Value) (hl:news.length=m*size) (hnews:∀ j u,news[j]?=some u->w.cell? (a.add j)=some u) (h1:∀ u ∈ news,u.oneCell'=true)
 (h63:n+m<=maxLen) (hbytes:(n+m)*bytes<=140737488355328) (hbase:base<=w.heap.size) (hm : 0<m) :
 ∃ v' w',(Builtin.append_ #[t,t] ty #[v,.slice (some a) m c]).run P w = .ok v' w'/\w'.ownsRow base e size v' (n+m) (xs++news)/\w'.ownsRow base e size v n xs/\w.grownBy w' v.ownBlock /\
   (v'.ownBlock=v.ownBlock\/v'.ownBlock=some w.heap.size):=by
 subst hsize
 subst hby
 have hsmall:n+m<=9223372036854775807:=by simp only [maxLen] at h63;omega
 have hlen:(xs++news).length=(n+m)*i.size:=by rw [List.length_append,hown.1,hl,Nat.add_mul]
 have grown:∀ (old:Nat),old<n+m -> ∀ (row:Option Nat),
  (w.drew.alloc (.cells (xs.toArray++news.toArray++Builtin.zeroCells z.cells (grownCap w (n+m) old e-(n+m))) e)).ownsRow base e i.size
   (.slice (some ⟨w.heap.size,0,none⟩) (n+m) (grownCap w (n+m) old e)) (n+m) (xs++news) /\
  w.grownBy (w.drew.alloc (.cells (xs.toArray++news.toArray++Builtin.zeroCells z.cells (grownCap w (n+m) old e-(n+m))) e)) row:=by
  intro old ho row
  have hge:=grownCap_ge w (n+m) old e
  have hcm:grownCap w (n+m) old e<=maxLen:=grownCap_le_maxLen w (n+m) old e h63
  refine ⟨⟨hlen,.inr ⟨w.heap.size,_,_,rfl,hbase,heap_alloc_new w.drew _,hge,hcm, ?_, ?_⟩⟩,⟨rfl,rfl,rfl,by simp,fun k hk _=>_root_.Go.heap_alloc_old w.drew _ hk⟩⟩
  · simp only [Array.size_append,List.size_toArray,size_zeroCells,hzs,hown.1,hl, <- Nat.add_mul]
    congr 1
    omega
  · simp only [Array.toList_append,List.append_assoc]
    rw [<- List.append_assoc, <- hlen]
    exact List.take_left
 have hown0:=hown
 rcases hown.2 with ⟨rfl,rfl⟩ | ⟨g,cap,cur,rfl,hbg,hg,hnc,hcm,hcs,htake⟩
 · have hx:xs=[]:=List.eq_nil_of_length_eq_zero (by simpa using hown.1)
   subst hx
   have hr:=run_append_nil (P:=P) w t ty e i z ht hi hz a m c news hl hnews (by omega) (by omega) (by have hb:=hbytes;simp only [Nat.zero_add] at hb;omega)
   have hgr:=grown 0 (by omega) (Value.ownBlock (.slice none 0 0))
   simp only [Nat.zero_add,List.nil_append,Array.empty_append] at hgr ⊢
   exact ⟨_,_,hr,hgr.1,World.ownsRow_nil _ base e i.size,hgr.2,Or.inr rfl⟩
 · by_cases hroom:n+m<=cap
   · have hfit:n*i.size+news.length<=cur.size:=by rw [hl,hcs, <- Nat.add_mul];exact Nat.mul_le_mul_right _ hroom
     have hr:=run_append_room (P:=P) w t ty e i ht hi g n cap cur hg a m c news hl hnews h1 hroom hfit
     have hlx:(cur.toList.take (n*i.size)).length=n*i.size:=by rw [htake];exact hown.1
     refine ⟨_,_,hr,⟨hlen,.inr ⟨g,cap,_,rfl,hbg,setRow_heap w g cur _ e _ hg,hroom,hcm, ?_, ?_⟩⟩,⟨hown.1,.inr ⟨g,cap,_,rfl,hbg,setRow_heap w g cur _ e _ hg,hnc,hcm, ?_, ?_⟩⟩,⟨rfl,rfl,rfl,by simp,fun k _ hk=>setRow_other w g k _ (fun e=>hk (by simp [Value.ownBlock,e]))⟩,Or.inl rfl⟩
     · simp only [List.size_toArray,List.length_append,List.length_take,List.length_drop,Array.length_toList]
       omega
     · rw [htake, <- hlen]
       exact List.take_left
     · simp only [List.size_toArray,List.length_append,List.length_take,List.length_drop,Array.length_toList]
       omega
     · rw [htake,List.append_assoc, <- hown.1]
       exact List.take_left
   · have holds:∀ j u,xs[j]?=some u->w.cell? ((⟨g,0,none⟩:Addr).add j)=some u:=hown.cells (g:=g) rfl
     have hr:=run_append_grow (P:=P) w t ty e i z ht hi hz ⟨g,0,none⟩ n cap xs hown.1 holds a m c news hl hnews (by omega) (by omega) (growslice_fits (by omega) hbytes)
     have hgr:=grown cap (by omega) (Value.ownBlock (.slice (some ⟨g,0,none⟩) n cap))
     refine ⟨_,_,hr,hgr.1,⟨hown.1,.inr ⟨g,cap,cur,rfl,hbg, ?_,hnc,hcm,hcs,htake⟩⟩,hgr.2,Or.inr rfl⟩
     rw [_root_.Go.heap_alloc_old w.drew _ (Array.getElem?_eq_some_iff.1 hg).1];exact hg
end
structure N9 (α : Type) where
 T:TypeId
 z:Nat
 A:World->List Value->α->Prop
 keeps:∀ {W W':World} {cs:List Value} {x : α},A W cs x->Keeps G0 W W'->A W' cs x
 notLimb:G0 T=false
def OwV {α : Type} (k:N9 α) (base:Nat) (w:World) (v:Value) (l:List α):Prop:=∃ xs,w.ownsRow base k.T k.z v l.length xs /\ ∀ i (h:i<l.length),k.A w ((xs.drop (k.z*i)).take k.z) l[i]
theorem oD {w w':World} {base:Nat} {e:TypeId} {size:Nat} {v:Value} {n:Nat} {xs:List Value} (h:w.ownsRow base e size v n xs) (hb:∀ q,v.ownBlock=some q->w'.heap[q]?=w.heap[q]?):w'.ownsRow base e size v n xs:=by
 refine ⟨h.1, ?_⟩
 rcases h.2 with h2 | ⟨g,cap,cur,rfl,hbg,hg,h3⟩
 · exact .inl h2
 · exact .inr ⟨g,cap,cur,rfl,hbg,(hb g rfl).trans hg,h3⟩
theorem OwV.keeps {α : Type} {k:N9 α} {base:Nat} {W W':World} {v:Value} {l:List α} (h:OwV k base W v l) (hk:Keeps G0 W W') (hb:∀ q,v.ownBlock=some q->W'.heap[q]?=W.heap[q]?):OwV k base W' v l:=by
 obtain ⟨xs,h1,h2⟩:=h
 exact ⟨xs,oD h1 hb,fun i hi=>k.keeps (h2 i hi) hk⟩
theorem OwV.nil {α : Type} (k:N9 α) (base:Nat) (w:World):OwV k base w (.slice none 0 0) ([]:List α):=⟨[],World.ownsRow_nil w base k.T k.z,fun i h=>absurd h (by simp)⟩
theorem OwV.inb {α : Type} {k:N9 α} {base:Nat} {W:World} {v:Value} {l:List α} (h:OwV k base W v l) {q:Nat} (hq:v.ownBlock=some q):q<W.heap.size/\base<=q /\ ∃ cur,W.heap[q]?=some (.cells cur k.T (0,0)):=by
 obtain ⟨xs,h1,_⟩:=h
 rcases h1.2 with ⟨rfl,_⟩ | ⟨g,cap,cur,rfl,hbg,hg,_⟩
 · cases hq
 · cases hq;exact ⟨(Array.getElem?_eq_some_iff.1 hg).1,hbg,cur,hg⟩
def sOw {α : Type} (k:N9 α) (base:Nat) (l:List α):Sp where
 sh := .one
 F v W:=OwV k base W v l
 fits v W h:=by
  obtain ⟨xs,h1,_⟩:=h
  rcases h1.2 with ⟨rfl,_⟩ | ⟨g,cap,cur,rfl,_⟩
  · exact ⟨fun _ => .slice none 0 0,fun _=>rfl,rfl⟩
  · exact ⟨fun _ => .slice (some ⟨g,0,none⟩) l.length cap,fun _=>rfl,rfl⟩
 row:=true
 fp v _ q:=v.ownBlock=some q
 lasts v W W' k hq h:=⟨h.keeps k hq,fun _ h=>h⟩
 inb v W h q hq:=(h.inb hq).1
 flat h:=by cases h
def AppW (base:Nat) (v v':Value) (W W':World):Prop:=W.grownBy W' v.ownBlock/\(v'.ownBlock=v.ownBlock\/v'.ownBlock=some W.heap.size)
def qQ {α : Type} (k:N9 α) (base:Nat) (W W':World) (v:Value) (l:List α):Prop:=∀ u l',OwV k base W u l'->l'.length<=l.length->u.ownBlock=v.ownBlock->OwV k base W' u l'
theorem older_of {α : Type} {k:N9 α} {base:Nat} {W W':World} {v:Value} {l:List α} {xs:List Value} (hown:W.ownsRow base k.T k.z v l.length xs) (h3:W'.ownsRow base k.T k.z v l.length xs) (hkp:Keeps G0 W W'):qQ k base W W' v l:=by
 rintro u l' ⟨ys,hu,hB⟩ hle hb
 refine ⟨ys,⟨hu.1, ?_⟩,fun j hj=>k.keeps (hB j hj) hkp⟩
 rcases hu.2 with h0 | ⟨g,cap,cur,rfl,hbg,hg,hnc,hcm,hcs,htk⟩
 · exact .inl h0
 · rcases hown.2 with ⟨rfl,_⟩ | ⟨g2,cap2,cur2,rfl,_,hg2,_,_,hcs2,htk2⟩
   · cases hb
   · cases hb
     rcases h3.2 with ⟨e3,_⟩ | ⟨g3,cap3,cur3,e3,_,hg3,_,_,hcs3,htk3⟩
     · cases e3
     · cases e3
       rw [hg] at hg2;cases hg2
       refine .inr ⟨g,cap,cur3,rfl,hbg,hg3,hnc,hcm,by rw [hcs3, <- hcs2,hcs], ?_⟩
       have hmul:l'.length*k.z<=l.length*k.z:=Nat.mul_le_mul_right _ hle
       rw [<- htk, <- Nat.min_eq_left hmul, <- List.take_take, <- List.take_take,htk3,htk2]
theorem oB {α : Type} {P:Program} (k:N9 α) {t:TypeId} {i:TypeInfo} {z:Value} {bytes:Nat} (ht:P.underlying t=some (.slice k.T)) (hi:P.info? k.T=some i) (hz:i.zero=some z) (hsize:i.size=k.z) (hby:i.bytes=bytes)
 (hzs:z.cells.size=k.z) (hsz : 0<k.z) {W:World} {base:Nat} {v:Value} {l:List α} (h:OwV k base W v l) {x : α} {q c:Nat} {cs:List Value} (hc:cs.length=k.z) (hq:W.heap[q]?=some (.cells cs.toArray k.T (0,0))) (hx:k.A W cs x)
 (h1:∀ u ∈ cs,u.oneCell'=true) (hn:l.length+1<=1000000) (hb:bytes<=1000000) (hbase:base<=W.heap.size) {ρ : Operand->Value} {o:Oper} {a b:Operand} (ho:o.op = .call ⟨.builtin .append, #[a,b], #[t,t]⟩) (ha : ρ a=v) (hbv : ρ b = .slice (some ⟨q,0,none⟩) 1 c) :
 ∃ v' W',(execOp ρ o).run P W = .ok (.value v') W'/\OwV k base W' v' (l++[x])/\OwV k base W' v l/\AppW base v v' W W'/\Keeps G0 W W'/\qQ k base W W' v l:=by
 obtain ⟨xs,hown,hA⟩:=h
 have hlen:xs.length=l.length*k.z:=hown.1
 obtain ⟨v',W',hr,h2,h3,h4,h5⟩:=bA (P:=P) W base t o.type k.T i z k.z bytes ht hi hz hsize hby hzs hsz v l.length xs hown ⟨q,0,none⟩ 1 c cs (by rw [hc,Nat.one_mul])
  (fun j u hj=>by rw [Addr.add_lit];simp [World.cell?,hq,hj]) h1 (by simp only [maxLen];omega) (by have:=Nat.mul_le_mul hn hb;omega) hbase (by omega)
 have hkp:Keeps G0 W W':=fun g arr ty fr hp hg=>by
  rw [h4.block g (Array.getElem?_eq_some_iff.1 hg).1 fun e=>?_]; · exact hg
  obtain ⟨_,_,cur,h6⟩:=OwV.inb (k:=k) ⟨xs,hown,hA⟩ e.symm
  rw [hg] at h6;cases h6
  rw [k.notLimb] at hp;cases hp
 refine ⟨v',W', ?_,⟨xs++cs,by simpa using h2,fun j hj=>?_⟩,⟨xs,h3,fun j hj=>k.keeps (hA j hj) hkp⟩,⟨h4,h5⟩,hkp,older_of hown h3 hkp⟩
 · unfold execOp
   simp only [ho,resolve,invoke,builtin,Sem.run_bind,Sem.run_pure,Result.andThen_ok,List.map_toArray,List.map_cons,List.map_nil,ha,hbv,hr]
 · have hj:j<l.length+1:=by simpa using hj
   rcases Nat.lt_or_ge j l.length with hlt | hge
   · have:=k.keeps (hA j hlt) hkp
     rw [List.getElem_append_left hlt]
     have hle:k.z*j+k.z<=xs.length:=by
      rw [hlen, <- Nat.mul_succ,Nat.mul_comm];exact Nat.mul_le_mul_right _ hlt
     rw [List.drop_append_of_le_length (by omega),List.take_append_of_le_length (by simp;omega)]
     exact this
   · obtain rfl:j=l.length:=by omega
     rw [show k.z*l.length=xs.length by rw [hlen,Nat.mul_comm],List.drop_left,List.take_of_length_le (by omega)]
     simpa using k.keeps hx hkp
theorem lW (t:TypeId) (n:Nat) (h:(Tryd.prog.info? t).any (fun i=>decide (i.size=n) && decide (i.bytes<=1000000) && match i.zero with | some z=>decide (z.cells.size=n) | none=>false)=true) :
 ∃ i z,Tryd.prog.info? t=some i/\i.zero=some z/\i.size=n/\i.bytes<=1000000/\z.cells.size=n:=by
 cases hi:Tryd.prog.info? t with
 | none=>rw [hi] at h;cases h
 | some i=>
   rw [hi] at h
   simp only [Option.any_some,Bool.and_eq_true,decide_eq_true_eq] at h
   cases hz:i.zero with
   | none=>rw [hz] at h;exact absurd h.2 (by simp)
   | some z=>rw [hz] at h;exact ⟨i,z,rfl,hz,h.1.1,h.1.2,by simpa using h.2⟩
theorem R8 {α : Type} (kd:N9 α) {t:TypeId} (ht:Tryd.prog.underlying t=some (.slice kd.T)) (hi:∃ i z,Tryd.prog.info? kd.T=some i/\i.zero=some z/\i.size=kd.z/\i.bytes<=1000000/\z.cells.size=kd.z) (hsz : 0<kd.z)
 {W:World} {base:Nat} {v:Value} {l:List α} (h:OwV kd base W v l) {x : α} {q c:Nat} {cs:List Value} (hc:cs.length=kd.z) (hq:W.heap[q]?=some (.cells cs.toArray kd.T (0,0))) (hx:kd.A W cs x)
 (h1:∀ u ∈ cs,u.oneCell'=true) (hn:l.length+1<=1000000) (hbase:base<=W.heap.size) {ρ : Operand->Value} {o:Oper} {a b:Operand} (ho:o.op = .call ⟨.builtin .append, #[a,b], #[t,t]⟩) (ha : ρ a=v) (hbv : ρ b = .slice (some ⟨q,0,none⟩) 1 c) :
 ∃ v' W',(execOp ρ o).run Tryd.prog W = .ok (.value v') W'/\OwV kd base W' v' (l++[x])/\OwV kd base W' v l/\AppW base v v' W W'/\Keeps G0 W W'/\qQ kd base W W' v l:=by
 obtain ⟨i,z,i1,i2,i3,i4,i5⟩:=hi
 exact oB kd ht i1 i2 i3 rfl i5 hsz h hc hq hx h1 hn i4 hbase ho ha hbv
theorem C0 {α : Type} {k:N9 α} {base:Nat} {W:World} {v:Value} {l:List α} (h:OwV k base W v l) {q:Nat} (hq:q<base/\q<W.heap.size):v.ownBlock≠some q:=fun e=>by have:=(h.inb e).2.1;omega
end Go.Proofs.YtamdnbbgpacfkaaDoor
namespace Go.Proofs.YtamdnbbgpacfkaaDoor
open Go.RowKit Mat Ex PM
theorem E9 {P:Program} {ρ : Operand->Value} {o:Oper} {t t':TypeId} {x y:Operand} {a:Int} {W:World} (b:Bool) (ho:o.op = .binOp .gtr t x y t') (hx : ρ x = .int .i64 a) (hy : ρ y = .int .i64 0) (h:decide (0<a)=b):(execOp ρ o).run P W = .ok (.value (.bool b)) W:=
 B7 ho hx hy (by rw [<- h];rfl)
theorem C8 {P:Program} {ρ : Operand->Value} {o:Oper} {t t':TypeId} {x y:Operand} {a c:Int} {W:World} (b:Bool) (ho:o.op = .binOp .eql t x y t') (hx : ρ x = .int .i64 a) (hy : ρ y = .int .i64 c) (h:decide (a=c)=b):(execOp ρ o).run P W = .ok (.value (.bool b)) W:=
 B7 ho hx hy (by rw [<- h,show decide (a=c)=(a == c) from (Bool.beq_eq_decide_eq a c).symm];rfl)
theorem P0 {P:Program} {ρ : Operand->Value} {o:Oper} {t t':TypeId} {x y:Operand} {a c:Int} {W:World} (b:Bool) (ho:o.op = .binOp .neq t x y t') (hx : ρ x = .int .i64 a) (hy : ρ y = .int .i64 c) (h:decide (a=c) = !b):(execOp ρ o).run P W = .ok (.value (.bool b)) W:=
 B7 ho hx hy (by rw [show b = !decide (a=c) by rw [h,Bool.not_not],show decide (a=c)=(a == c) from (Bool.beq_eq_decide_eq a c).symm];rfl)
theorem iU {n:Int} (h1 : -9223372036854775808<=n) (h2:n<=9223372036854775807):n.natAbs<B^1:=by
 have:(18446744073709551616:Nat)=B^1:=by unfold B;decide
 omega
def sPI (x y:Int):Sp := .of (.agg 2) (fun v _=>v = .agg #[.int .i64 x,.int .i64 y]) (fun v W h=>⟨D7 [.int .i64 x,.int .i64 y],B4 (by simp [Value.oneCell']),h⟩) (fun _ _ _ _ h=>h)
theorem pi1 {x y:Int} {a b:Value} {W:World} : (sPI x y).F (.agg #[a,b]) W->a = .int .i64 x:=fun h=>by cases h;rfl
theorem pi2 {x y:Int} {a b:Value} {W:World} : (sPI x y).F (.agg #[a,b]) W->b = .int .i64 y:=fun h=>by cases h;rfl
def B0 (x y:Int):Pq:=((x:Rat),(y:Rat))
theorem dZ (w:World) (n:Int) (h1 : -9223372036854775808<=n) (h2:n<=9223372036854775807) :
 Calls Tryd.prog 35 #[.int .i64 n] w (S2 w (n:Rat)):=by
 refine A6 B3 Tryd.func35 [sZ n] [sI n,sQ (n:Rat)] (.cons rfl .nil) (rs:=[cl 1 44 [on 0],cl 2 66 [ag 2 1]]) (out:=ag 4 2) (nc:=3) (by kernel_rfl)
  ⟨fun σ W g h hb=>arg1 (h 0 rfl) (cX W n h1 h2),
  fun σ W g h hb=>sU W _ n 1 (h 1 rfl) (by omega) (iU h1 h2),
  trivial⟩ fun τ W g h=>⟨_,rfl,h 2 rfl,g⟩
theorem O4 (w:World) (x y:Int) (h1 : -9223372036854775808<=x) (h2:x<=9223372036854775807) (h3 : -9223372036854775808<=y) (h4:y<=9223372036854775807) :
 Calls Tryd.prog 21 #[.agg #[.int .i64 x,.int .i64 y]] w (jA w (B0 x y)):=by
 refine A6 B3 Tryd.func21 [sPI x y] [sQ (x:Rat),sQ (y:Rat)] (.cons rfl .nil) (rs:=[cl 1 35 [on 0],cl 2 35 [.v false [.an 0 1]]]) (out := .v true [.an 1 0,.an 1 1,.an 1 2,.an 1 3,.an 2 0,.an 2 1,.an 2 2,.an 2 3]) (nc:=3) (by kernel_rfl)
  ⟨fun σ W g h hb=>arg1 (pi1 (h 0 rfl)) (dZ W x h1 h2),
  fun σ W g h hb=>arg1 (pi2 (h 0 rfl)) (dZ W y h3 h4),
  trivial⟩ fun τ W g h=>⟨_,rfl,oE (h 1 rfl) (h 2 rfl),g⟩
theorem eA (w:World) (va vb:Value) (p q:Pq) (K:Nat) (Ha:PtV w va p) (Hb:PtV w vb q) (hK:K<=100000) (ba:Bp K p) (bb:Bp K q) (hTab:Tab w) :
 Calls Tryd.prog 19 #[va,vb] w (jA w (p.1-q.1,p.2-q.2)):=by
 refine A6 B3 Tryd.func19 [sPt p,sPt q] [sQ (p.1-q.1),sQ (p.2-q.2)] (.cons Ha (.cons Hb .nil)) (rs:=[cl 2 46 [ag 4 0,ag 4 1],cl 3 46 [.v true [.an 0 4,.an 0 5,.an 0 6,.an 0 7],.v true [.an 1 4,.an 1 5,.an 1 6,.an 1 7]]]) (out := .v true [.an 2 0,.an 2 1,.an 2 2,.an 2 3,.an 3 0,.an 3 1,.an 3 2,.an 3 3]) (nc:=4) (by kernel_rfl)
  ⟨fun σ W g h hb=>fU W _ _ p.1 q.1 K (pt1 (h 0 rfl)) (pt1 (h 1 rfl)) (by omega) ba.1.1 ba.1.2 bb.1.1 bb.1.2 (hTab.kept g (by simp)),
  fun σ W g h hb=>fU W _ _ p.2 q.2 K (pt2 (h 0 rfl)) (pt2 (h 1 rfl)) (by omega) ba.2.1 ba.2.2 bb.2.1 bb.2.2 (hTab.kept g (by simp)),
  trivial⟩ fun τ W g h=>⟨_,rfl,oE (h 2 rfl) (h 3 rfl),g⟩
theorem Bp.nil {K:Nat} (hK : 1<=K):Bp K ((0:Rat),(0:Rat)):=⟨.zero hK,.zero hK⟩
theorem nO (w:World) (va vb:Value) (p q:Pq) (K:Nat) (Ha:PtV w va p) (Hb:PtV w vb q) (hK:K<=100000) (ba:Bp K p) (bb:Bp K q) (hTab:Tab w) :
 Calls Tryd.prog 18 #[va,vb] w (S2 w (p.1*q.2-p.2*q.1)):=by
 refine A6 B3 Tryd.func18 [sPt p,sPt q] [sQ (p.1*q.2),sQ (p.2*q.1),sQ (p.1*q.2-p.2*q.1)] (.cons Ha (.cons Hb .nil)) (rs:=[cl 2 45 [ag 4 0,.v true [.an 1 4,.an 1 5,.an 1 6,.an 1 7]],cl 3 45 [.v true [.an 0 4,.an 0 5,.an 0 6,.an 0 7],ag 4 1],cl 4 46 [ag 4 2,ag 4 3]]) (out:=ag 4 4) (nc:=5) (by kernel_rfl)
  ⟨fun σ W g h hb=>Z4 W _ _ (p.1) (q.2) K (pt1 (h 0 rfl)) (pt2 (h 1 rfl)) (by omega) ba.1.1 ba.1.2 bb.2.1 bb.2.2 (hTab.kept g (by simp)),
  fun σ W g h hb=>Z4 W _ _ (p.2) (q.1) K (pt2 (h 0 rfl)) (pt1 (h 1 rfl)) (by omega) ba.2.1 ba.2.2 bb.1.1 bb.1.2 (hTab.kept g (by simp)),
  fun σ W g h hb=>fU W _ _ (p.1*q.2) (p.2*q.1) (K+K) (h 2 rfl) (h 3 rfl) (by omega) (ba.1.mul bb.2).1 (ba.1.mul bb.2).2 (ba.2.mul bb.1).1 (ba.2.mul bb.1).2 (hTab.kept g (by simp)),
  trivial⟩ fun τ W g h=>⟨_,rfl,h 4 rfl,g⟩
theorem Bp.sub {K:Nat} {p q:Pq} (h:Bp K p) (h':Bp K q):Bp (K+K+1) (p.1-q.1,p.2-q.2):=⟨h.1.sub h'.1,h.2.sub h'.2⟩
theorem F2 (w:World) (va vb vc:Value) (a b c:Pq) (K:Nat) (Ha:PtV w va a) (Hb:PtV w vb b) (Hc:PtV w vc c) (hK:K<=10000) (ba:Bp K a) (bb:Bp K b) (bc:Bp K c) (hTab:Tab w) :
 Calls Tryd.prog 7 #[va,vb,vc] w (S2 w (A3 a b c)):=by
 refine A6 B3 Tryd.func7 [sPt a,sPt b,sPt c] [sPt (b.1-a.1,b.2-a.2),sPt (c.1-a.1,c.2-a.2),sQ (A3 a b c)] (.cons Ha (.cons Hb (.cons Hc .nil))) (rs:=[cl 3 19 [ag 8 1,ag 8 0],cl 4 19 [ag 8 2,ag 8 0],cl 5 18 [ag 8 3,ag 8 4]]) (out:=ag 4 5) (nc:=6) (by kernel_rfl)
  ⟨fun σ W g h hb=>eA W _ _ b a K (h 1 rfl) (h 0 rfl) (by omega) bb ba (hTab.kept g (by simp)),
  fun σ W g h hb=>eA W _ _ c a K (h 2 rfl) (h 0 rfl) (by omega) bc ba (hTab.kept g (by simp)),
  fun σ W g h hb=>nO W _ _ _ _ (K+K+1) (h 3 rfl) (h 4 rfl) (by omega) (bb.sub ba) (bc.sub ba) (hTab.kept g (by simp)),
  trivial⟩ fun τ W g h=>⟨_,rfl,h 5 rfl,g⟩
theorem PFirst_any (w:World) (p:Nat) (i j:Int) (Bq:w.heap[p]?=some (.cells #[.int .i64 i,.int .i64 j] 3 (0,0))) :
 Calls Tryd.prog 77 #[.slice (some ⟨p,0,none⟩) 2 2] w (fun e w'=>e = .returned (.int .i64 (if i=0 then j else i))/\w.grownBy w' none):=by
 rcases (show i≠0\/(i=0/\j≠0)\/(i=0/\j=0) by omega) with h1 | ⟨h1,h2⟩ | ⟨h1,h2⟩
 · rw [if_neg h1]
   exact K1 B3 Tryd.func77 [sZ i,sZ j,sV (.bool true)] 2 [.v false [.row 0 0 2 2]] [(3,[.an 0 0,.an 1 0])] (rs:=[co 2 (.binOp .neq 3 (.tmp 11) (.const (.int .i64 0)) 3) 4 [on 0,.v false [.lit (.int .i64 0)]] [0,1] []]) (out:=on 0) (nc:=3) (by kernel_rfl) w
    ⟨fun n=>match n with | 0=>D7 [.int .i64 i] | 1=>D7 [.int .i64 j] | _=>fun _ => .bool false,fun b=>match b with | 0=>p | _=>0,fun _=>undef⟩
    (fun n c=>match n with
     | 0=>B4 (by simp [Value.oneCell']) c
     | 1=>B4 (by simp [Value.oneCell']) c
     | _+2=>rfl)
    (fun b q hq=>match b,q,hq with
     | 0,_,rfl=>Bq
     | _+1,_,hq=>nomatch hq)
    (fun b c hb hc hq=>match b,c,hb,hc with
     | 0,0,_,_=>rfl
     | _+1,_,hb,_=>absurd hb (by simp)
     | _,_+1,_,hc=>absurd hc (by simp))
    (fun jn hn=>match jn,hn with
     | 0,_=>rfl
     | 1,_=>rfl
     | _+2,hn=>absurd hn (by omega))
    ⟨fun σ W g h hb=>fun ρ o ho _ hv=>⟨_,P0 true ho ((A1 hv).1.trans (h 0 rfl)) (A1 hv).2 (decide_eq_false h1),rfl⟩,
    trivial⟩ _ fun τ W g h=>⟨congrArg Ending.returned (h 0 rfl),g⟩
 · rw [if_pos h1]
   exact K1 B3 Tryd.func77 [sZ i,sZ j,sV (.bool false),sV (.bool true)] 2 [.v false [.row 0 0 2 2]] [(3,[.an 0 0,.an 1 0])] (rs:=[co 2 (.binOp .neq 3 (.tmp 11) (.const (.int .i64 0)) 3) 4 [on 0,.v false [.lit (.int .i64 0)]] [0,1] [],co 3 (.binOp .neq 3 (.tmp 11) (.const (.int .i64 0)) 3) 4 [on 1,.v false [.lit (.int .i64 0)]] [0,1,2] []]) (out:=on 1) (nc:=4) (by kernel_rfl) w
    ⟨fun n=>match n with | 0=>D7 [.int .i64 i] | 1=>D7 [.int .i64 j] | _=>fun _ => .bool false,fun b=>match b with | 0=>p | _=>0,fun _=>undef⟩
    (fun n c=>match n with
     | 0=>B4 (by simp [Value.oneCell']) c
     | 1=>B4 (by simp [Value.oneCell']) c
     | _+2=>rfl)
    (fun b q hq=>match b,q,hq with
     | 0,_,rfl=>Bq
     | _+1,_,hq=>nomatch hq)
    (fun b c hb hc hq=>match b,c,hb,hc with
     | 0,0,_,_=>rfl
     | _+1,_,hb,_=>absurd hb (by simp)
     | _,_+1,_,hc=>absurd hc (by simp))
    (fun jn hn=>match jn,hn with
     | 0,_=>rfl
     | 1,_=>rfl
     | _+2,hn=>absurd hn (by omega))
    ⟨fun σ W g h hb=>fun ρ o ho _ hv=>⟨_,P0 false ho ((A1 hv).1.trans (h 0 rfl)) (A1 hv).2 (decide_eq_true h1),rfl⟩,
    fun σ W g h hb=>fun ρ o ho _ hv=>⟨_,P0 true ho ((A1 hv).1.trans (h 1 rfl)) (A1 hv).2 (decide_eq_false h2),rfl⟩,
    trivial⟩ _ fun τ W g h=>⟨congrArg Ending.returned (h 1 rfl),g⟩
 · rw [if_pos h1,h2]
   exact K1 B3 Tryd.func77 [sZ i,sZ j,sV (.bool false),sV (.bool false)] 2 [.v false [.row 0 0 2 2]] [(3,[.an 0 0,.an 1 0])] (rs:=[co 2 (.binOp .neq 3 (.tmp 11) (.const (.int .i64 0)) 3) 4 [on 0,.v false [.lit (.int .i64 0)]] [0,1] [],co 3 (.binOp .neq 3 (.tmp 11) (.const (.int .i64 0)) 3) 4 [on 1,.v false [.lit (.int .i64 0)]] [0,1,2] []]) (out := .v false [.lit (.int .i64 0)]) (nc:=4) (by kernel_rfl) w
    ⟨fun n=>match n with | 0=>D7 [.int .i64 i] | 1=>D7 [.int .i64 j] | _=>fun _ => .bool false,fun b=>match b with | 0=>p | _=>0,fun _=>undef⟩
    (fun n c=>match n with
     | 0=>B4 (by simp [Value.oneCell']) c
     | 1=>B4 (by simp [Value.oneCell']) c
     | _+2=>rfl)
    (fun b q hq=>match b,q,hq with
     | 0,_,rfl=>Bq
     | _+1,_,hq=>nomatch hq)
    (fun b c hb hc hq=>match b,c,hb,hc with
     | 0,0,_,_=>rfl
     | _+1,_,hb,_=>absurd hb (by simp)
     | _,_+1,_,hc=>absurd hc (by simp))
    (fun jn hn=>match jn,hn with
     | 0,_=>rfl
     | 1,_=>rfl
     | _+2,hn=>absurd hn (by omega))
    ⟨fun σ W g h hb=>fun ρ o ho _ hv=>⟨_,P0 false ho ((A1 hv).1.trans (h 0 rfl)) (A1 hv).2 (decide_eq_true h1),rfl⟩,
    fun σ W g h hb=>fun ρ o ho _ hv=>⟨_,P0 false ho ((A1 hv).1.trans (h 1 rfl)) (A1 hv).2 (decide_eq_true h2),rfl⟩,
    trivial⟩ _ fun τ W g h=>⟨rfl,g⟩
theorem D6 (w:World) (va vb:Value) (p q:Pq) (K:Nat) (Ha:PtV w va p) (Hb:PtV w vb q) (hK:K<=100000) (ba:Bp K p) (bb:Bp K q) :
 Calls Tryd.prog 48 #[va,vb] w (fun e w'=>e = .returned (.int .i64 (H6 p q))/\w.grownBy w' none):=by
 refine A6 B3 Tryd.func48 [sPt p,sPt q] [sZ (G4 p.1 q.1),sZ (G4 p.2 q.2),sZ (H6 p q)] (.cons Ha (.cons Hb .nil)) (rs:=[cl 2 9 [ag 4 0,ag 4 1],cl 3 9 [.v true [.an 0 4,.an 0 5,.an 0 6,.an 0 7],.v true [.an 1 4,.an 1 5,.an 1 6,.an 1 7]],clb 4 77 [.v false [.row 2 0 2 2]] [0,1,2,3] [(2,3,[.an 2 0,.an 3 0])]]) (out:=on 4) (nc:=5) (by kernel_rfl)
  ⟨fun σ W g h hb=>toZ (F4 W _ _ p.1 q.1 K (pt1 (h 0 rfl)) (pt1 (h 1 rfl)) (by omega) ba.1.1 ba.1.2 bb.1.1 bb.1.2) rfl,
  fun σ W g h hb=>toZ (F4 W _ _ p.2 q.2 K (pt2 (h 0 rfl)) (pt2 (h 1 rfl)) (by omega) ba.2.1 ba.2.2 bb.2.1 bb.2.2) rfl,
  fun σ W g h hb=>toZ (PFirst_any W _ _ _ (by
   have e1 : σ.an 2 0 = .int .i64 (G4 p.1 q.1):=h 2 rfl
   have e2 : σ.an 3 0 = .int .i64 (G4 p.2 q.2):=h 3 rfl
   rw [<- e1, <- e2];exact hb.1 _ (.head _))) rfl,
  trivial⟩ fun τ W g h=>⟨congrArg Ending.returned (h 4 rfl),g⟩
theorem cR {a b:Pq} (h:ple a b):lo a b=a/\hi a b=b:=by unfold lo hi;simp [h]
theorem ends_gt {a b:Pq} (h:¬ ple a b):lo a b=b/\hi a b=a:=by unfold lo hi;simp [h]
theorem pgt {a b:Pq} : ¬ ple a b ↔ 0<H6 a b:=by rw [<- pcmp_le];omega
theorem Bp.lo {K:Nat} {a b:Pq} (h:Bp K a) (h':Bp K b):Bp K (lo a b):=by rcases pJ a b with e | e<;>rw [e]<;>assumption
theorem Bp.hi {K:Nat} {a b:Pq} (h:Bp K a) (h':Bp K b):Bp K (hi a b):=by rcases pO a b with e | e<;>rw [e]<;>assumption
theorem Bp.max {K:Nat} {a b:Pq} (h:Bp K a) (h':Bp K b):Bp K (I7 a b):=by rcases pmax_or a b with e | e<;>rw [e]<;>assumption
theorem Bp.min {K:Nat} {a b:Pq} (h:Bp K a) (h':Bp K b):Bp K (I6 a b):=by rcases pmin_or a b with e | e<;>rw [e]<;>assumption
theorem J0 (w:World) (va:Value) (a b:Pq) (K:Nat) (Ha:SgV w va a b) (hK : 1<=K/\K<=10000) (ba:Bp K a) (bb:Bp K b) :
 Calls Tryd.prog 69 #[va] w (RetPP w (lo a b) (hi a b)):=by
 by_cases h1:ple a b
 · skip
   rw [(cR h1).1,(cR h1).2]
   refine A6 B3 Tryd.func69 [sSg a b] [sZ (H6 a b),sV (.bool false)] (.cons Ha .nil) (rs:=[cl 1 48 [ag 8 0,.v true [.an 0 8,.an 0 9,.an 0 10,.an 0 11,.an 0 12,.an 0 13,.an 0 14,.an 0 15]],co 2 (.binOp .gtr 3 (.tmp 8) (.const (.int .i64 0)) 3) 4 [on 1,.v false [.lit (.int .i64 0)]] [0,1] []]) (out := .tup [(true,[.an 0 0,.an 0 1,.an 0 2,.an 0 3,.an 0 4,.an 0 5,.an 0 6,.an 0 7]),(true,[.an 0 8,.an 0 9,.an 0 10,.an 0 11,.an 0 12,.an 0 13,.an 0 14,.an 0 15])]) (nc:=3) (by kernel_rfl)
    ⟨fun σ W g h hb=>toZ (D6 W _ _ a b K (sg1 (h 0 rfl)) (sg2 (h 0 rfl)) (by omega) ba bb) rfl,
    fun σ W g h hb=>fun ρ o ho _ hv=>⟨_,E9 false ho ((A1 hv).1.trans (h 1 rfl)) (A1 hv).2 (decide_eq_false (by have:=pcmp_le.2 h1;omega)),rfl⟩,
    trivial⟩ fun τ W g h=>⟨_,_,rfl,sg1 (h 0 rfl),sg2 (h 0 rfl),g⟩
 · skip
   rw [(ends_gt h1).1,(ends_gt h1).2]
   refine A6 B3 Tryd.func69 [sSg a b] [sZ (H6 a b),sV (.bool true)] (.cons Ha .nil) (rs:=[cl 1 48 [ag 8 0,.v true [.an 0 8,.an 0 9,.an 0 10,.an 0 11,.an 0 12,.an 0 13,.an 0 14,.an 0 15]],co 2 (.binOp .gtr 3 (.tmp 8) (.const (.int .i64 0)) 3) 4 [on 1,.v false [.lit (.int .i64 0)]] [0,1] []]) (out := .tup [(true,[.an 0 8,.an 0 9,.an 0 10,.an 0 11,.an 0 12,.an 0 13,.an 0 14,.an 0 15]),(true,[.an 0 0,.an 0 1,.an 0 2,.an 0 3,.an 0 4,.an 0 5,.an 0 6,.an 0 7])]) (nc:=3) (by kernel_rfl)
    ⟨fun σ W g h hb=>toZ (D6 W _ _ a b K (sg1 (h 0 rfl)) (sg2 (h 0 rfl)) (by omega) ba bb) rfl,
    fun σ W g h hb=>fun ρ o ho _ hv=>⟨_,E9 true ho ((A1 hv).1.trans (h 1 rfl)) (A1 hv).2 (decide_eq_true (pgt.1 h1)),rfl⟩,
    trivial⟩ fun τ W g h=>⟨_,_,rfl,sg2 (h 0 rfl),sg1 (h 0 rfl),g⟩
noncomputable def dec (p:Prop):Bool:=open Classical in decide p
theorem mN {p:Prop} (h:p):dec p=true:=by unfold dec;simp [h]
theorem V9 {p:Prop} (h:¬ p):dec p=false:=by unfold dec;simp [h]
theorem Bp.one {K:Nat} {a:Pq} (h:Bp K a):Bn K a.1/\Bn K a.2:=h
end Go.Proofs.YtamdnbbgpacfkaaDoor
namespace Go.Proofs.YtamdnbbgpacfkaaDoor
open Go.RowKit Mat
def Far (g:Nat) (w:World) (s:Option Addr) (xs:List Nat):Prop:=xs=[] \/ ∃ (b off:Nat) (cs:Array Value),s=some ⟨b,off,none⟩/\b≠g/\RBlk w b cs/\RAt cs off xs
theorem Far.rd {g:Nat} {w:World} {s:Option Addr} {xs:List Nat} (h:Far g w s xs):RRdo w s xs:=by
 rcases h with h | ⟨b,off,cs,e,_,h1,h2⟩
 · exact Or.inl h
 · exact Or.inr ⟨b,off,cs,e,h1,h2⟩
theorem Far.kept {g:Nat} {w w':World} {s:Option Addr} {xs:List Nat} (h:Far g w s xs) (hg:w.grownBy w' none):Far g w' s xs:=by
 rcases h with h | ⟨b,off,cs,e,hn,h1,h2⟩
 · exact Or.inl h
 · exact Or.inr ⟨b,off,cs,e,hn,h1.kept hg (by simp),h2⟩
theorem Far.setCell {g:Nat} {w:World} {s:Option Addr} {xs:List Nat} (h:Far g w s xs) (o:Nat) (v:Value):Far g (w.setCell ⟨g,o,none⟩ v) s xs:=by
 rcases h with h | ⟨b,off,cs,e,hn,h1,h2⟩
 · exact Or.inl h
 · refine Or.inr ⟨b,off,cs,e,hn,(Below.heap_setCell _ _ _ _ ?_).trans h1,h2⟩
   simpa using hn
theorem Ints.kept {w w':World} {g:Nat} {zs:List Nat} (h:Ints w g zs) (hg:w.grownBy w' none):Ints w' g zs:=RBlk.kept h hg (by simp)
def Boxed (w:World) (b n:Nat):Prop:=∃ s k c,w.heap[b]?=some (.cells #[.slice s k c] 77 (0,0))/\RefV w (.agg #[.slice s k c]) n
theorem Far.take {g:Nat} {w:World} {s:Option Addr} {xs:List Nat} (h:Far g w s xs) (k:Nat):Far g w s (xs.take k):=by
 rcases h with h | ⟨b,off,cs,e,hn,h1,h2⟩
 · exact Or.inl (by rw [h];simp)
 · exact Or.inr ⟨b,off,cs,e,hn,h1,h2.take k⟩
theorem Far.set_other {w:World} {s:Option Addr} {xs:List Nat} {g b7:Nat} {c:Array Value} {t:TypeId} (h:Far g w s xs) (hbox:w.heap[b7]?=some (.cells c t (0,0))) (ht:t≠3) (o:Nat) (u:Value):Far g (w.setCell ⟨b7,o,none⟩ u) s xs:=by
 rcases h with h | ⟨b,off,cs,e,hn,h1,h2⟩
 · exact Or.inl h
 · refine Or.inr ⟨b,off,cs,e,hn,(Below.heap_setCell _ _ _ _ ?_).trans h1,h2⟩
   intro e2
   simp only at e2
   unfold RBlk at h1
   subst e2
   rw [hbox] at h1
   simp at h1
   exact ht h1.2
theorem Boxed.cell {w:World} {b n:Nat} (h:Boxed w b n):∃ s k c,w.heap[b]?=some (.cells #[.slice s k c] 77 (0,0))/\RefV w (.agg #[.slice s k c]) n:=h
theorem Boxed.kept {w w':World} {b n:Nat} (h:Boxed w b n) (hg:w.grownBy w' none):Boxed w' b n:=by
 obtain ⟨s,k,c,h1,h2⟩:=h
 exact ⟨s,k,c,A5 hg h1,h2.kept hg⟩
theorem Boxed.set {w:World} {b n:Nat} {u:Value} {s:Option Addr} {k c:Nat} (h:w.heap[b]?=some (.cells #[u] 77 (0,0))) (hv:RefV w (.agg #[.slice s k c]) n):Boxed (w.setCell ⟨b,0,none⟩ (.slice s k c)) b n:=
 ⟨s,k,c,heap_set h _,hv.set_other h (by decide) 0 _⟩
end Go.Proofs.YtamdnbbgpacfkaaDoor
namespace Go.Proofs.YtamdnbbgpacfkaaDoor
open Go.RowKit Mat Ex
def RQ (w:World) (v:Value) (r:Rat) (E:Nat):Prop:=∃ (g:Int) (s:Option Addr) (l c:Nat) (g':Int) (s':Option Addr) (l' c':Nat) (n d:Int),v = .agg #[.int .i64 g,.slice s l c,.int .i64 g',.slice s' l' c']/\RIntV w (.agg #[.int .i64 g,.slice s l c]) n/\RIntV w (.agg #[.int .i64 g',.slice s' l' c']) d/\Hid (0<d/\Rat.divInt n d=r/\n.natAbs<D^E/\d.natAbs<D^E)
theorem RQ.kept {w w':World} {v:Value} {r:Rat} {E:Nat} (h:RQ w v r E) (hg:w.grownBy w' none):RQ w' v r E:=by
 obtain ⟨g,s,l,c,g',s',l',c',n,d,e,h1,h2,h3⟩:=h
 exact ⟨g,s,l,c,g',s',l',c',n,d,e,h1.kept hg,h2.kept hg,h3⟩
theorem dpw {a E M:Nat} (h:a<D^E) (hE:E<=M):a<D^M:=Nat.lt_of_lt_of_le h (Nat.pow_le_pow_right D_pos hE)
theorem RQ.mono {w:World} {v:Value} {r:Rat} {E M:Nat} (h:RQ w v r E) (hE:E<=M):RQ w v r M:=by
 obtain ⟨g,s,l,c,g',s',l',c',n,d,e,h1,h2,h3,h4,h5,h6⟩:=h
 exact ⟨g,s,l,c,g',s',l',c',n,d,e,h1,h2,h3,h4,dpw h5 hE,dpw h6 hE⟩
theorem RQ.of {w:World} {g g':Int} {s s':Option Addr} {l c l' c':Nat} {n d:Int} {r:Rat} {E:Nat} (h1:RIntV w (.agg #[.int .i64 g,.slice s l c]) n) (h2:RIntV w (.agg #[.int .i64 g',.slice s' l' c']) d) (h3 : 0<d) (h4:Rat.divInt n d=r) (h5:n.natAbs<D^E) (h6:d.natAbs<D^E):RQ w (.agg #[.int .i64 g,.slice s l c,.int .i64 g',.slice s' l' c']) r E:=
 ⟨g,s,l,c,g',s',l',c',n,d,rfl,h1,h2,h3,h4,h5,h6⟩
theorem P3 {x y:Int} {E F:Nat} (hx:x.natAbs<D^E) (hy:y.natAbs<D^F):(x*y).natAbs<D^(E+F):=by
 rw [Int.natAbs_mul,Nat.pow_add];exact Nat.mul_lt_mul'' hx hy
theorem jZ {x y:Int} {E:Nat} (hx:x.natAbs<D^E) (hy:y.natAbs<D^E):(x+y).natAbs<D^(E+1):=by
 have h1:=Int.natAbs_add_le x y
 rw [Nat.pow_succ]
 have h2:D^E*2<=D^E*D:=Nat.mul_le_mul_left _ (by unfold D;omega)
 omega
theorem rW {x:Int} {E:Nat} (hx:x.natAbs<D^E):(-x).natAbs<D^E:=by rw [Int.natAbs_neg];exact hx
theorem RRdo.keeps {W W':World} {sa:Option Addr} {xs:List Nat} (h:RRdo W sa xs) (k:Keeps G0 W W'):RRdo W' sa xs:=by
 rcases h with h | ⟨b,off,cs,e,h1,h2⟩
 · exact Or.inl h
 · exact Or.inr ⟨b,off,cs,e,k b cs _ _ rfl h1,h2⟩
theorem RefV.keeps {W W':World} {v:Value} {n:Nat} (h:RefV W v n) (k:Keeps G0 W W'):RefV W' v n:=by
 obtain ⟨s,l,cap,xs,e,h1,h2,h3,h4⟩:=h
 exact ⟨s,l,cap,xs,e,h1,h2,h3.keeps k,h4⟩
theorem RIntV.keeps {W W':World} {v:Value} {z:Int} (h:RIntV W v z) (k:Keeps G0 W W'):RIntV W' v z:=by
 obtain ⟨g,s,l,c,e,h1,h2⟩:=h
 exact ⟨g,s,l,c,e,h1,h2.keeps k⟩
theorem RQ.keeps {W W':World} {v:Value} {r:Rat} {E:Nat} (h:RQ W v r E) (k:Keeps G0 W W'):RQ W' v r E:=by
 obtain ⟨g,s,l,c,g',s',l',c',n,d,e,h1,h2,h3⟩:=h
 exact ⟨g,s,l,c,g',s',l',c',n,d,e,h1.keeps k,h2.keeps k,h3⟩
def RF (w:World) (v:Value) (n d:Int):Prop:=∃ (g:Int) (s:Option Addr) (l c:Nat) (g':Int) (s':Option Addr) (l' c':Nat),v = .agg #[.int .i64 g,.slice s l c,.int .i64 g',.slice s' l' c']/\RIntV w (.agg #[.int .i64 g,.slice s l c]) n/\RIntV w (.agg #[.int .i64 g',.slice s' l' c']) d
theorem RF.keeps {W W':World} {v:Value} {n d:Int} (h:RF W v n d) (k:Keeps G0 W W'):RF W' v n d:=by
 obtain ⟨g,s,l,c,g',s',l',c',e,h1,h2⟩:=h
 exact ⟨g,s,l,c,g',s',l',c',e,h1.keeps k,h2.keeps k⟩
theorem rn {W:World} {a b c d:Value} {n m:Int} : RF W (.agg #[a,b,c,d]) n m->RIntV W (.agg #[a,b]) n:=by
 rintro ⟨g,s,l,k,g',s',l',k',e,h,h'⟩;cases e;exact h
theorem rd {W:World} {a b c d:Value} {n m:Int} : RF W (.agg #[a,b,c,d]) n m->RIntV W (.agg #[c,d]) m:=by
 rintro ⟨g,s,l,k,g',s',l',k',e,h,h'⟩;cases e;exact h'
section
variable {P:Program} {f:FuncId} {args:Array Value} {W:World}
end
end Go.Proofs.YtamdnbbgpacfkaaDoor
namespace Go.Proofs.YtamdnbbgpacfkaaDoor
open Go.RowKit Mat Ex PM
structure H3 where
 x:Int
 y:Int
 z:Int
def rp (a:H3):Pq:=(Rat.divInt a.x a.z,Rat.divInt a.y a.z)
def HB (E:Nat) (a:H3):Prop:=a.x.natAbs<D^E/\a.y.natAbs<D^E/\a.z.natAbs<D^E
theorem HB.mono {E M:Nat} {a:H3} (h:HB E a) (hE:E<=M):HB M a:=⟨dpw h.1 hE,dpw h.2.1 hE,dpw h.2.2 hE⟩
def HV (w:World) (v:Value) (p:H3):Prop:=∃ a b c d e f:Value,v = .agg #[a,b,c,d,e,f]/\RIntV w (.agg #[a,b]) p.x/\RIntV w (.agg #[c,d]) p.y/\RIntV w (.agg #[e,f]) p.z
theorem HV.keeps {W W':World} {v:Value} {p:H3} (h:HV W v p) (k:Keeps G0 W W'):HV W' v p:=by
 obtain ⟨a,b,c,d,e,f,q,h1,h2,h3⟩:=h
 exact ⟨a,b,c,d,e,f,q,h1.keeps k,h2.keeps k,h3.keeps k⟩
theorem HV.kept {w w':World} {v:Value} {p:H3} (h:HV w v p) (g:w.grownBy w' none):HV w' v p:=by
 obtain ⟨a,b,c,d,e,f,q,h1,h2,h3⟩:=h
 exact ⟨a,b,c,d,e,f,q,h1.kept g,h2.kept g,h3.kept g⟩
theorem RIntV.one {w:World} {a b:Value} {z:Int} (h:RIntV w (.agg #[a,b]) z):a.oneCell'=true/\b.oneCell'=true:=by
 obtain ⟨g,s,l,c,e,_⟩:=h;cases e;exact ⟨rfl,rfl⟩
theorem HV.one {w:World} {a b c d e f:Value} {p:H3} (h:HV w (.agg #[a,b,c,d,e,f]) p):∀ x ∈ [a,b,c,d,e,f],x.oneCell'=true:=by
 obtain ⟨_,_,_,_,_,_,q,h1,h2,h3⟩:=h
 cases q
 simp [h1.one,h2.one,h3.one]
def HsV (w:World) (v:Value) (p q:H3):Prop:=∃ a b c d e f a' b' c' d' e' f':Value,v = .agg #[a,b,c,d,e,f,a',b',c',d',e',f']/\HV w (.agg #[a,b,c,d,e,f]) p/\HV w (.agg #[a',b',c',d',e',f']) q
theorem HsV.keeps {W W':World} {v:Value} {p q:H3} (h:HsV W v p q) (k:Keeps G0 W W'):HsV W' v p q:=by
 obtain ⟨a,b,c,d,e,f,a',b',c',d',e',f',e1,h1,h2⟩:=h
 exact ⟨a,b,c,d,e,f,a',b',c',d',e',f',e1,h1.keeps k,h2.keeps k⟩
theorem hs1 {W:World} {a b c d e f a' b' c' d' e' f':Value} {p q:H3} : HsV W (.agg #[a,b,c,d,e,f,a',b',c',d',e',f']) p q->HV W (.agg #[a,b,c,d,e,f]) p:=by
 rintro ⟨_,_,_,_,_,_,_,_,_,_,_,_,e,h1,h2⟩;cases e;exact h1
theorem hs2 {W:World} {a b c d e f a' b' c' d' e' f':Value} {p q:H3} : HsV W (.agg #[a,b,c,d,e,f,a',b',c',d',e',f']) p q->HV W (.agg #[a',b',c',d',e',f']) q:=by
 rintro ⟨_,_,_,_,_,_,_,_,_,_,_,_,e,h1,h2⟩;cases e;exact h2
def HAt (w:World) (cs:Array Value) (o:Nat) (p:H3):Prop:=∃ a b c d e f:Value,cs[o]?=some a/\cs[o+1]?=some b/\cs[o+2]?=some c/\cs[o+3]?=some d/\cs[o+4]?=some e/\cs[o+5]?=some f/\HV w (.agg #[a,b,c,d,e,f]) p
theorem HAt.keeps {W W':World} {cs:Array Value} {o:Nat} {p:H3} (h:HAt W cs o p) (k:Keeps G0 W W'):HAt W' cs o p:=by
 obtain ⟨a,b,c,d,e,f,h1,h2,h3,h4,h5,h6,h7⟩:=h
 exact ⟨a,b,c,d,e,f,h1,h2,h3,h4,h5,h6,h7.keeps k⟩
def HrV (w:World) (v:Value) (l:List H3):Prop:=∃ s n c,v = .slice s n c/\l.length=n/\n<=c/\(l=[] \/ ∃ b off cs,s=some ⟨b,off,none⟩/\w.heap[b]?=some (.cells cs 81 (0,0)) /\ ∀ i (h:i<l.length),HAt w cs (off+6*i) l[i])
theorem HrV.keeps {W W':World} {v:Value} {l:List H3} (h:HrV W v l) (k:Keeps G0 W W') (hq:∀ q,fpS v q->W'.heap[q]?=W.heap[q]?):HrV W' v l:=by
 obtain ⟨s,n,c,rfl,hl,hn,h⟩:=h
 refine ⟨s,n,c,rfl,hl,hn, ?_⟩
 by_cases h0:l=[]
 · exact .inl h0
 · obtain ⟨b,off,cs,rfl,hb,hc⟩:=h.resolve_left h0
   obtain ⟨m,rfl⟩:∃ m,n=m+1:=⟨n-1,by have:=List.length_pos_iff.2 h0;omega⟩
   exact .inr ⟨b,off,cs,rfl,by rw [hq b ⟨off,m,c,rfl⟩];exact hb,fun i hi=>(hc i hi).keeps k⟩
theorem HrV.inb {W:World} {v:Value} {l:List H3} (h:HrV W v l) (q:Nat) (hq:fpS v q):q<W.heap.size:=by
 obtain ⟨s,n,c,rfl,hl,hn,h⟩:=h
 obtain ⟨off,m,c',e⟩:=hq
 cases e
 rcases h with h | ⟨b,off',cs,e,hb,_⟩
 · rw [h] at hl;simp at hl
 · cases e;exact (Array.getElem?_eq_some_iff.1 hb).1
section
variable {P:Program} {ρ : Operand->Value} {o:Oper} {W:World}
end
def hlx (a b:H3):Int:=b.x*a.z-a.x*b.z
def hly (a b:H3):Int:=b.y*a.z-a.y*b.z
def hcr (a b c:H3):Int:=hlx a b*hly a c-hly a b*hlx a c
def hdt (a b c:H3):Int:=hlx a b*hlx a c+hly a b*hly a c
def hdn (a b c:H3):Int:=a.z*a.z*(b.z*c.z)
theorem HB.less {E:Nat} {a b:H3} (ha:HB E a) (hb:HB E b):(hlx a b).natAbs<D^(E+E+1)/\(hly a b).natAbs<D^(E+E+1):=by
 unfold hlx hly
 constructor<;>rw [Int.sub_eq_add_neg]
 · exact jZ (P3 hb.1 ha.2.2) (rW (P3 ha.1 hb.2.2))
 · exact jZ (P3 hb.2.1 ha.2.2) (rW (P3 ha.2.1 hb.2.2))
theorem HB.cr {E:Nat} {a b c:H3} (ha:HB E a) (hb:HB E b) (hc:HB E c):(hcr a b c).natAbs<D^(4*E+3)/\(hdt a b c).natAbs<D^(4*E+3)/\(hdn a b c).natAbs<D^(4*E+3):=by
 have h1:=ha.less hb
 have h2:=ha.less hc
 refine ⟨?_, ?_, ?_⟩
 · unfold hcr;rw [Int.sub_eq_add_neg]
   exact dpw (jZ (P3 h1.1 h2.2) (rW (P3 h1.2 h2.1))) (by omega)
 · unfold hdt
   exact dpw (jZ (P3 h1.1 h2.1) (P3 h1.2 h2.2)) (by omega)
 · unfold hdn
   exact dpw (P3 (P3 ha.2.2 ha.2.2) (P3 hb.2.2 hc.2.2)) (by omega)
theorem hz {z:Int} (h : 0<z):(z:Rat)≠0:=by
 intro e
 have:z=0:=by exact_mod_cast e
 omega
def sDt (x y d:Int):Sp := .of (.agg 3) (fun v _=>v = .agg #[.int .i64 x,.int .i64 y,.int .i64 d]) (fun v W h=>⟨D7 [.int .i64 x,.int .i64 y,.int .i64 d],B4 (by simp [Value.oneCell']),h⟩) (fun _ _ _ _ h=>h)
theorem dt1 {x y d:Int} {a b c:Value} {W:World} : (sDt x y d).F (.agg #[a,b,c]) W->a = .int .i64 x:=fun h=>by cases h;rfl
theorem dt2 {x y d:Int} {a b c:Value} {W:World} : (sDt x y d).F (.agg #[a,b,c]) W->b = .int .i64 y:=fun h=>by cases h;rfl
theorem dt3 {x y d:Int} {a b c:Value} {W:World} : (sDt x y d).F (.agg #[a,b,c]) W->c = .int .i64 d:=fun h=>by cases h;rfl
def und (d:Int):Int:=1+(IntKind.u64.wrap d)%60
theorem jI (d:Int) : 0<und d/\und d<=60:=by unfold und;omega
theorem wrap_at (d:Int) : 0<=IntKind.u64.wrap d/\IntKind.u64.wrap d<18446744073709551616:=by
 simp [IntKind.wrap,IntKind.signed,IntKind.bits];omega
theorem B2 {ρ : Operand->Value} {x:Operand} {u:Value} (h:[x].map ρ=[u]) : ρ x=u:=by simpa using h
theorem conv_int {P:Program} {ρ : Operand->Value} {o:Oper} {t t':TypeId} {x:Operand} {k k0 k1:IntKind} {d:Int} {W:World} (ho:o.op = .convert t t' x) (hx : ρ x = .int k0 d) (h0:P.underlying t=some (.int k1)) (h1:P.underlying t'=some (.int k)):(execOp ρ o).run P W = .ok (.value (.int k (k.wrap d))) W:=by
 simp only [execOp,ho,hx,convert,Sem.run_bind,run_underlying h0 W,run_underlying h1 W,Result.andThen_ok,Conv.intToInt,Sem.run_pure]
theorem J2 {ρ : Operand->Value} {o:Oper} {x:Operand} {d:Int} {W:World} (ho:o.op = .convert 3 52 x) (hx : ρ x = .int .i64 d):(execOp ρ o).run Tryd.prog W = .ok (.value (.int .u64 (IntKind.u64.wrap d))) W:=
 conv_int (k1 := .i64) ho hx (by kernel_rfl) (by kernel_rfl)
theorem T1 {ρ : Operand->Value} {o:Oper} {x:Operand} {d:Int} {W:World} (ho:o.op = .convert 52 3 x) (hx : ρ x = .int .u64 d) (h0 : 0<=d) (h1:d<=1000):(execOp ρ o).run Tryd.prog W = .ok (.value (.int .i64 d)) W:=by
 rw [conv_int (k1 := .u64) (k := .i64) ho hx (by kernel_rfl) (by kernel_rfl),show IntKind.i64.wrap d=d by simp [IntKind.wrap,IntKind.signed,IntKind.bits];omega]
theorem O9 {P:Program} {ρ : Operand->Value} {o:Oper} {t t':TypeId} {x y:Operand} {d k:Int} {W:World} (ho:o.op = .binOp .rem t x y t') (hx : ρ x = .int .u64 (IntKind.u64.wrap d)) (hy : ρ y = .int .u64 k) (hk : 0<k:=by omega):(execOp ρ o).run P W = .ok (.value (.int .u64 (IntKind.u64.wrap d%k))) W:=by
 have h0:=wrap_at d
 have hm:(IntKind.u64.wrap d).tmod k=IntKind.u64.wrap d%k:=Int.tmod_eq_emod_of_nonneg h0.1
 have hg:eqGuard .rem t x y (.int .u64 (IntKind.u64.wrap d)) (.int .u64 k)=pure ():=by unfold eqGuard;rfl
 have hb:binOp .rem t (.int .u64 (IntKind.u64.wrap d)) (.int .u64 k)=pure (.int .u64 (IntKind.u64.wrap d%k)):=by
  rw [<- hm]
  show Op.intDiv .rem .u64 _ k=_
  unfold Op.intDiv
  rw [if_neg (by omega)]
 simp only [execOp,ho,hx,hy,hg,hb,Sem.run_bind,Sem.run_pure,Result.andThen_ok]
theorem kA {t:TypeId} {x y:Int} (h0 : 0<=x+y) (h1:x+y<=1000):binOp .add t (.int .i64 x) (.int .i64 y) = .pure (.int .i64 (x+y)):=by
 show Sem.pure (Value.int .i64 (IntKind.i64.wrap (x+y)))=_
 rw [show IntKind.i64.wrap (x+y)=x+y by simp [IntKind.wrap,IntKind.signed,IntKind.bits];omega]
theorem iL (w:World) (x y d:Int) :
 Calls Tryd.prog 17 #[.agg #[.int .i64 x,.int .i64 y,.int .i64 d]] w (fun e w'=>e = .returned (.int .i64 (und d))/\w.grownBy w' none):=by
 refine A6 B3 Tryd.func17 [sDt x y d] [sC (.int .u64 (IntKind.u64.wrap d)) rfl,sC (.int .u64 (IntKind.u64.wrap d%60)) rfl,sZ (IntKind.u64.wrap d%60),sZ (und d)] (.cons rfl .nil) (rs:=[co 1 (.convert 3 52 (.tmp 4)) 52 [.v false [.an 0 2]] [0] [],co 2 (.binOp .rem 52 (.tmp 5) (.const (.int .u64 60)) 52) 52 [on 1,.v false [.lit (.int .u64 60)]] [0,1] [],co 3 (.convert 52 3 (.tmp 6)) 3 [on 2] [0,1,2] [],co 4 (.binOp .add 3 (.const (.int .i64 1)) (.tmp 7) 3) 3 [.v false [.lit (.int .i64 1)],on 3] [0,1,2,3] []]) (out:=on 4) (nc:=5) (by kernel_rfl)
  ⟨fun σ W g h hb=>fun ρ o ho _ hv=>⟨_,J2 ho ((B2 hv).trans (dt3 (h 0 rfl))),rfl⟩,
  fun σ W g h hb=>fun ρ o ho _ hv=>⟨_,O9 ho ((A1 hv).1.trans (h 1 rfl)) (A1 hv).2,rfl⟩,
  fun σ W g h hb=>fun ρ o ho _ hv=>⟨_,T1 ho ((B2 hv).trans (h 2 rfl)) (by omega) (by omega),rfl⟩,
  fun σ W g h hb=>fun ρ o ho _ hv=>⟨_,B7 ho (A1 hv).1 ((A1 hv).2.trans (h 3 rfl)) (kA (by omega) (by omega)),rfl⟩,
  trivial⟩ fun τ W g h=>⟨congrArg Ending.returned (h 4 rfl),g⟩
theorem oM (d:Int) : -9223372036854775808<=und d/\und d<=9223372036854775807:=by have:=jI d;omega
def lat (x y d:Int):Pq:=rp ⟨x,y,und d⟩
theorem A8 {x y d:Int} (h1 : -9223372036854775808<=x) (h2:x<=9223372036854775807) (h3 : -9223372036854775808<=y) (h4:y<=9223372036854775807):Bp 1 (lat x y d):=by
 have h:=jI d
 have hu:(und d).natAbs<B^1:=iU (oM d).1 (oM d).2
 exact ⟨⟨eW (iU h1 h2),eX hu (Int.ne_of_gt h.1)⟩,⟨eW (iU h3 h4),eX hu (Int.ne_of_gt h.1)⟩⟩
theorem arg2 {P:Program} {f:FuncId} {a b c d:Value} {w:World} {R:Ending->World->Prop} (h:a=b) (h2:c=d) (k:Calls P f #[b,d] w R):Calls P f #[a,c] w R:=by subst h;subst h2;exact k
theorem J4 (w:World) (x y d:Int) (h1 : -9223372036854775808<=x) (h2:x<=9223372036854775807) (h3 : -9223372036854775808<=y) (h4:y<=9223372036854775807) (hTab:Tab w) :
 Calls Tryd.prog 6 #[.agg #[.int .i64 x,.int .i64 y,.int .i64 d]] w (jA w (lat x y d)):=by
 refine A6 B3 Tryd.func6 [sDt x y d] [sZ (und d),sQE (Rat.divInt x (und d)) 0,sZ (und d),sQE (Rat.divInt y (und d)) 0] (.cons rfl .nil) (rs:=[cl 1 17 [ag 3 0],cl 2 16 [on 0,on 1],cl 3 17 [ag 3 0],cl 4 16 [.v false [.an 0 1],on 3]]) (out := .v true [.an 2 0,.an 2 1,.an 2 2,.an 2 3,.an 4 0,.an 4 1,.an 4 2,.an 4 3]) (nc:=5) (by kernel_rfl)
  ⟨fun σ W g h hb=>V3 (congrArg (fun v=>[v]) (h 0 rfl)) (iL W x y d) |>.mono fun _ _ ⟨a,g⟩=>⟨_,a,rfl,g⟩,
  fun σ W g h hb=>arg2 (dt1 (h 0 rfl)) (h 1 rfl) (toQE (sW W x (und d) h1 h2 (oM d).1 (oM d).2 (hTab.kept g (by simp))) (by rw [if_neg (by have:=jI d;omega)])),
  fun σ W g h hb=>V3 (congrArg (fun v=>[v]) (h 0 rfl)) (iL W x y d) |>.mono fun _ _ ⟨a,g⟩=>⟨_,a,rfl,g⟩,
  fun σ W g h hb=>arg2 (dt2 (h 0 rfl)) (h 3 rfl) (toQE (sW W y (und d) h3 h4 (oM d).1 (oM d).2 (hTab.kept g (by simp))) (by rw [if_neg (by have:=jI d;omega)])),
  trivial⟩ fun τ W g h=>⟨_,rfl,oE (qE (h 2 rfl)) (qE (h 4 rfl)),g⟩
abbrev Dt3:=Int × Int × Int
def DAt (w:World) (b o:Nat) (d:Dt3):Prop:=w.cell? ⟨b,o,none⟩=some (.int .i64 d.1)/\w.cell? ⟨b,o+1,none⟩=some (.int .i64 d.2.1)/\w.cell? ⟨b,o+2,none⟩=some (.int .i64 d.2.2)
theorem Q5 {w w':World} {b o:Nat} (h:w'.heap[b]?=w.heap[b]?):w'.cell? ⟨b,o,none⟩=w.cell? ⟨b,o,none⟩:=by unfold World.cell?;rw [h]
theorem W4 {w:World} {b o:Nat} {v:Value} (h:w.cell? ⟨b,o,none⟩=some v):b<w.heap.size:=by
 unfold World.cell? at h
 cases hb:w.heap[b]? with
 | none=>simp [hb] at h
 | some x=>exact (Array.getElem?_eq_some_iff.1 hb).1
theorem DAt.same {w w':World} {b o:Nat} {d:Dt3} (h:DAt w b o d) (hb:w'.heap[b]?=w.heap[b]?):DAt w' b o d:=⟨(Q5 hb).trans h.1,(Q5 hb).trans h.2.1,(Q5 hb).trans h.2.2⟩
def DtsV (base:Nat) (w:World) (v:Value) (l:List Dt3):Prop:=∃ s n c,v = .slice s n c/\l.length=n/\n<=c/\(l=[] \/ ∃ b off,s=some ⟨b,off,none⟩/\b<base /\ ∀ i (h:i<l.length),DAt w b (off+3*i) l[i])
theorem DtsV.block {base:Nat} {w:World} {v:Value} {l:List Dt3} (h:DtsV base w v l) {q:Nat} (hq:fpS v q):q<base/\q<w.heap.size:=by
 obtain ⟨s,n,c,rfl,hl,hn,h⟩:=h
 obtain ⟨off,m,c',e⟩:=hq
 cases e
 rcases h with h | ⟨b,off',e,hb,hd⟩
 · rw [h] at hl;simp at hl
 · cases e;exact ⟨hb,W4 (hd 0 (by omega)).1⟩
theorem DtsV.keeps {base:Nat} {W W':World} {v:Value} {l:List Dt3} (h:DtsV base W v l) (hq:∀ q,fpS v q->W'.heap[q]?=W.heap[q]?):DtsV base W' v l:=by
 obtain ⟨s,n,c,rfl,hl,hn,h⟩:=h
 refine ⟨s,n,c,rfl,hl,hn, ?_⟩
 by_cases h0:l=[]
 · exact .inl h0
 · obtain ⟨b,off,rfl,hb,hc⟩:=h.resolve_left h0
   obtain ⟨m,rfl⟩:∃ m,n=m+1:=⟨n-1,by have:=List.length_pos_iff.2 h0;omega⟩
   exact .inr ⟨b,off,rfl,hb,fun i hi=>(hc i hi).same (hq b ⟨off,m,c,rfl⟩)⟩
def DaV (base:Nat) (w:World) (v:Value) (d:Dt3):Prop:=∃ b off,v = .pointer (some ⟨b,off,none⟩)/\b<base/\DAt w b off d
theorem DaV.block {base:Nat} {w:World} {v:Value} {d:Dt3} (h:DaV base w v d) {q:Nat} (hq:fpP v q):q<base/\q<w.heap.size:=by
 obtain ⟨b,off,rfl,hb,hd⟩:=h
 obtain ⟨o,e⟩:=hq
 cases e;exact ⟨hb,W4 hd.1⟩
section
variable {P:Program} {ρ : Operand->Value} {o:Oper} {W:World}
end
def kPt:N9 Pq:=⟨33,8,fun w cs p=>PtV w (.agg cs.toArray) p,fun h k=>h.keeps k,by kernel_rfl⟩
def kH:N9 H3:=⟨81,6,fun w cs p=>HV w (.agg cs.toArray) p,fun h k=>h.keeps k,by kernel_rfl⟩
theorem OwV.pts {base:Nat} {W:World} {v:Value} {l:List Pq} (h:OwV kPt base W v l):PtsV W v l:=by
 obtain ⟨xs,⟨hl,h2⟩,hA⟩:=h
 rcases h2 with ⟨rfl,h0⟩ | ⟨g,cap,cur,rfl,hbg,hg,hnc,hcm,hcs,htk⟩
 · exact ⟨none,0,0,rfl,h0,Nat.le_refl _,.inl (List.eq_nil_of_length_eq_zero h0)⟩
 · refine ⟨_,_,_,rfl,rfl,hnc,.inr ⟨g,0,cur,rfl,hg,fun i hi=>?_⟩⟩
   have hx:∀ j,j<8->cur[0+8*i+j]?=((xs.drop (8*i)).take 8)[j]?:=fun j hj=>by
    have hlt : 8*i+j<l.length*8:=by omega
    rw [List.getElem?_take_of_lt hj,List.getElem?_drop, <- htk,List.getElem?_take_of_lt (show 8*i+j<l.length*kPt.z from hlt)]
    simp
   have ha:=hA i hi
   obtain ⟨a,b,c,d,e,f,p,q,e1,h1,h2⟩:=ha
   have e2:(xs.drop (8*i)).take 8=[a,b,c,d,e,f,p,q]:=by
    have:=congrArg (fun v=>match v with | Value.agg x=>x.toList | _=>[]) e1
    exact (show (xs.drop (kPt.z*i)).take kPt.z=[a,b,c,d,e,f,p,q] by simpa using this)
   rw [e2] at hx
   exact ⟨a,b,c,d,e,f,p,q,hx 0 (by omega),hx 1 (by omega),hx 2 (by omega),hx 3 (by omega),hx 4 (by omega),hx 5 (by omega),hx 6 (by omega),hx 7 (by omega),oE h1 h2⟩
theorem OwV.hr {base:Nat} {W:World} {v:Value} {l:List H3} (h:OwV kH base W v l):HrV W v l:=by
 obtain ⟨xs,⟨hl,h2⟩,hA⟩:=h
 rcases h2 with ⟨rfl,h0⟩ | ⟨g,cap,cur,rfl,hbg,hg,hnc,hcm,hcs,htk⟩
 · exact ⟨none,0,0,rfl,h0,Nat.le_refl _,.inl (List.eq_nil_of_length_eq_zero h0)⟩
 · refine ⟨_,_,_,rfl,rfl,hnc,.inr ⟨g,0,cur,rfl,hg,fun i hi=>?_⟩⟩
   have hx:∀ j,j<6->cur[0+6*i+j]?=((xs.drop (6*i)).take 6)[j]?:=fun j hj=>by
    have hlt : 6*i+j<l.length*6:=by omega
    rw [List.getElem?_take_of_lt hj,List.getElem?_drop, <- htk,List.getElem?_take_of_lt (show 6*i+j<l.length*kH.z from hlt)]
    simp
   obtain ⟨a,b,c,d,e,f,e1,h1,h2,h3⟩:=hA i hi
   have e2:(xs.drop (6*i)).take 6=[a,b,c,d,e,f]:=by
    have:=congrArg (fun v=>match v with | Value.agg x=>x.toList | _=>[]) e1
    exact (show (xs.drop (kH.z*i)).take kH.z=[a,b,c,d,e,f] by simpa using this)
   rw [e2] at hx
   exact ⟨a,b,c,d,e,f,hx 0 (by omega),hx 1 (by omega),hx 2 (by omega),hx 3 (by omega),hx 4 (by omega),hx 5 (by omega),⟨a,b,c,d,e,f,rfl,h1,h2,h3⟩⟩
theorem K6 {x y:Int} (h1 : -9223372036854775808<=x) (h2:x<=9223372036854775807) (h3 : -9223372036854775808<=y) (h4:y<=9223372036854775807):Bp 1 (B0 x y):=by
 have h1':(1:Nat)<B^1:=by unfold B;decide
 exact ⟨⟨by show ((x:Rat)).num.natAbs<_;rw [Rat.num_intCast];exact iU h1 h2,by show ((x:Rat)).den<_;rw [Rat.den_intCast];exact h1'⟩,⟨by show ((y:Rat)).num.natAbs<_;rw [Rat.num_intCast];exact iU h3 h4,by show ((y:Rat)).den<_;rw [Rat.den_intCast];exact h1'⟩⟩
end Go.Proofs.YtamdnbbgpacfkaaDoor
namespace Go.Proofs.YtamdnbbgpacfkaaDoor.PM
def pX (p q:Pq):Rat:=p.1*q.2-p.2*q.1
end Go.Proofs.YtamdnbbgpacfkaaDoor.PM
namespace Go.Proofs.YtamdnbbgpacfkaaDoor
open Go.RowKit Mat Ex PM
def sZc (p:Prop) (z:Int):Sp := .of .one (fun v _=>v = .int .i64 z/\p) (fun v W e=>⟨fun _ => .int .i64 z,fun _=>rfl,e.1⟩) (fun _ _ _ _ h=>h)
def hg (l:List H3) (k:Nat):H3:=l.getD k ⟨0,0,1⟩
theorem F0 {v:Value} {n m:Nat} {b:Bool} (h:v = .bool (decide (n<m))) (h2:v = .bool b):decide (n<m)=b:=by rw [h] at h2;exact Value.bool.inj h2
def Small (d:Dt3):Prop:=(-9223372036854775808<=d.1/\d.1<=9223372036854775807)/\(-9223372036854775808<=d.2.1/\d.2.1<=9223372036854775807)
theorem U4 {P:Program} {ρ : Operand->Value} {o:Oper} {t t':TypeId} {x y:Operand} {a b:Int} {W:World} {c:Bool} (ho:o.op = .binOp .lss t x y t') (hx : ρ x = .int .i64 a) (hy : ρ y = .int .i64 b) (h:decide (a<b)=c) :
 (execOp ρ o).run P W = .ok (.value (.bool c)) W:=B7 ho hx hy (by rw [<- h];rfl)
def sBq (b:Bool):Sp:=sC (.bool b) rfl
theorem vB {v:Value} {a b:Bool} (h:v = .bool a) (h2:v = .bool b):a=b:=by rw [h] at h2;exact Value.bool.inj h2
end Go.Proofs.YtamdnbbgpacfkaaDoor
