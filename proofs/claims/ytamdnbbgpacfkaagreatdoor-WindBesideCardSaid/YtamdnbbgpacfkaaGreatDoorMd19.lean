/- What the laws lean on, part 19. -/
import Derived.Below
import Derived.BigCall
import Derived.BigQuiet
import Derived.BigRegion
import Derived.Deep.AppendLies
import Derived.Deep.CutBlock
import Derived.Deep.CutRange
import Derived.Deep.DeepCutAuto
import Derived.Deep.DeepHandedRow
import Derived.Deep.LoopGhost
import Derived.Deep.MidRow
import Derived.Deep.QuietTactic
import Derived.Deep.RegionHeld3
import Derived.Deep.RegionLaw
import Derived.Deep.WholeRow
import Derived.Laws.AppendOwn
import Derived.Laws.Concat
import Derived.Laws.CopyOwn
import Derived.Laws.Externs
import Derived.Laws.IdiomStrings
import Derived.Lib.BitFns
import Derived.Lib.Bytealg
import Derived.Lib.Hide
import Derived.Lib.Slices
import Derived.Lib.Small
import Derived.Lib.Strings
import Derived.Lib.Walk
import Derived.LoopIn
import Derived.LoopN
import Derived.LoopNIn
import Derived.Maps.AppendAt
import Derived.OpenShut
import Derived.OrdersHeld
import Derived.OrdersIn
import Derived.Outline
import Derived.OwnWalk
import Derived.OwnWalkIn
import Derived.ProofKit
import Derived.RangeFuncBound
import Derived.RangeFuncCalls
import Derived.RangeFuncLeaves
import Derived.RangeFuncNested
import Derived.RangeFuncOwn
import Derived.Shelf.Abstract
import Derived.Shelf.Bits.Mul64
import Derived.Shelf.RegionOpen
import Derived.Shelf.Spec.TrailingZeros
import Derived.StillTailTactics
import Derived.TacticsInMore
import Derived.WalkKit
import Derived.WalkLawsBesides
import Derived.WalkSpells
import Derived.Test.YtamdnbbgpacfkaaGreatDoorProg
import Derived.Test.YtamdnbbgpacfkaaGreatDoorRows
import Derived.Test.YtamdnbbgpacfkaaGreatDoorMd15
import Derived.Test.YtamdnbbgpacfkaaGreatDoorMd18
set_option linter.unusedVariables false
set_option linter.unusedSimpArgs false
set_option maxRecDepth 100000
namespace Go.Proofs.YtamdnbbgpacfkaaGreatDoor
open Go.RowKit Mat Ex PM
def sRf (f s0:Nat) (m:Pq):Sp where
 sh := .fnp f
 F v W:=RayV f W v m /\ ∀ q,fpF v q->s0<=q
 fits v W h:=by obtain ⟨⟨q,u0,u1,u2,u3,u4,u5,u6,u7,rfl,_⟩,_⟩:=h;exact ⟨fun _ => .pointer (some ⟨q,0,none⟩),fun _=>rfl,rfl⟩
 row:=true
 fp v _ q:=fpF v q
 lasts v W W' k hq h:=⟨⟨h.1.keeps k hq,h.2⟩,fun _ h=>h⟩
 inb v W h q hq:=h.1.inb q hq
 flat h:=by cases h
theorem toRf {P:Program} {f:FuncId} {n:Nat} {args:Array Value} {W:World} {m:Pq} {old:Nat->Prop} {s0:Nat} (hs:s0<=W.heap.size) (h:Calls P f args W (bU n W m)):Calls P f args W (RetS W (sRf n s0 m) old):=
 h.mono fun _ _ ⟨q,u0,u1,u2,u3,u4,u5,u6,u7,a,h1,h2,h3,g⟩=>⟨_,a,⟨⟨q,u0,u1,u2,u3,u4,u5,u6,u7,rfl,h1,h2⟩,fun q' hq=>by obtain ⟨f',e⟩:=hq;cases e;omega⟩,g,fun q' hq => .inl (by obtain ⟨f',e⟩:=hq;cases e;exact h3)⟩
def sZZ (a b:Int):Sp := .of (.tup [(none,0),(none,0)]) (fun v _=>v = .tuple #[.int .i64 a,.int .i64 b]) (fun v W h=>V8 (u := .bool true) (cs:=[.int .i64 a,.int .i64 b]) (by simp [Value.oneCell']) h) (fun _ _ _ _ h=>h)
theorem jS {a b:Int} {u v:Value} {W:World} : (sZZ a b).F (.tuple #[u,v]) W->u = .int .i64 a:=fun h=>by cases h;rfl
theorem szz2 {a b:Int} {u v:Value} {W:World} : (sZZ a b).F (.tuple #[u,v]) W->v = .int .i64 b:=fun h=>by cases h;rfl
theorem kX {P:Program} {f:FuncId} {args:Array Value} {W:World} {a b:Int} (h:Calls P f args W (fun e w'=>e = .returned (.tuple #[.int .i64 a,.int .i64 b])/\W.grownBy w' none)):Calls P f args W (Ret W (sZZ a b).F):=h.mono fun _ _ ⟨a,g⟩=>⟨_,a,rfl,g⟩
def nJ (lf:Pq->Int) (m b:Pq) (l:List Pq):Int × Int:=if 0<lf b then (cyL (ahd lf m) l+cyL (thr lf m) l,cyL (ahd lf m) l) else (cyL (ahd lf m) l,cyL (ahd lf m) l+cyL (thr lf m) l)
def bes (l:List Pq) (a b:Pq):Int × Int:=if F0 a b=0 then (0,0) else if E9 a.2 b.2=0 then nJ (upr (B2 a b)) (B2 a b) b l else nJ (lvl (B2 a b)) (B2 a b) b l
theorem cy_b {f:Pq->Pq->Int} (hf:∀ a b, -1<=f a b/\f a b<=1) (l:List Pq) : -(l.length:Int)<=cyL f l/\cyL f l<=l.length:=by
 rw [<- upS_cy]
 have:∀ k:Nat, -(k:Int)<=upS f l k/\upS f l k<=k:=by
  intro k
  induction k with
  | zero=>exact ⟨Int.le_refl _,Int.le_refl _⟩
  | succ k ih=>
    have:=hf (pt0 l k) (nxt l k)
    show -((k+1:Nat):Int)<=upS f l k+f (pt0 l k) (nxt l k)/\upS f l k+f (pt0 l k) (nxt l k)<=((k+1:Nat):Int)
    omega
 exact this l.length
theorem vBy {v:Value} {a b:Bool} (h:v = .bool a) (h2:v = .bool b):a=b:=by rw [h] at h2;exact Value.bool.inj h2
theorem W5 (w:World) (va vb:Value) (l:List Pq) (a b:Pq) (K:Nat) (Ha:PtsV w va l) (Hb:SgV w vb a b) (hK : 1<=K/\K<=2000) (hn:l.length<=200) (hbd:∀ p ∈ l,Bp K p) (ba:Bp K a) (bb:Bp K b) (hTab:Tab w) :
 Calls Tryz.prog 11 #[va,vb] w (fun e w'=>e = .returned (.tuple #[.int .i64 (bes l a b).1,.int .i64 (bes l a b).2])/\w.grownBy w' none):=by
 have bm:=ba.mid bb hK.1
 have hbd':∀ p ∈ l,Bp (4*K+2) p:=fun p hp=>(hbd p hp).mono (by omega)
 rcases (show F0 a b=0\/(F0 a b≠0/\E9 a.2 b.2=0)\/(F0 a b≠0/\E9 a.2 b.2≠0) by omega) with h0 | ⟨h0,h1⟩ | ⟨h0,h1⟩
 · skip
   unfold bes
   rw [if_pos h0]
   refine A6 B6 Tryz.func11 [sPts 0 l,sSg a b] [sZ (F0 a b),sV (.bool true)] (.cons ⟨Ha,fun _ _=>Nat.zero_le _⟩ (.cons Hb .nil)) (rs:=[cl 2 26 [ag 8 1,.v true [.an 1 8,.an 1 9,.an 1 10,.an 1 11,.an 1 12,.an 1 13,.an 1 14,.an 1 15]],co 3 (.binOp .eql 3 (.tmp 14) (.const (.int .i64 0)) 3) 4 [on 2,.v false [.lit (.int .i64 0)]] [0,1,2] []]) (out := .tup [(false,[.lit (.int .i64 0)]),(false,[.lit (.int .i64 0)])]) (nc:=4) (by kernel_rfl)
    ⟨fun σ W g h hb=>toZ (L0 W _ _ a b K (sg1 (h 1 rfl)) (sg2 (h 1 rfl)) (by omega) ba bb) rfl,
    fun σ W g h hb=>fun ρ o ho _ hv=>⟨_,D7 true ho ((A0 hv).1.trans (h 2 rfl)) (A0 hv).2 (decide_eq_true h0),rfl⟩,
    trivial⟩ fun τ W g h=>⟨rfl,g⟩
 · skip
   unfold bes
   rw [if_neg h0,if_pos h1]
   have b1:=cy_b (ahd_b (upr (B2 a b)) (B2 a b)) l
   have b2:=cy_b (thr_b (upr (B2 a b)) (B2 a b)) l
   refine M7 B6 Tryz.func11 [sPts 0 l,sSg a b] [sZ (F0 a b),sV (.bool false),sPt (B2 a b),sRf 133 0 (B2 a b),sZZ (cyL (ahd (upr (B2 a b)) (B2 a b)) l) (cyL (thr (upr (B2 a b)) (B2 a b)) l),sZ (upr (B2 a b) b),sC (.bool (decide (0<upr (B2 a b) b))) rfl,sZ (cyL (ahd (upr (B2 a b)) (B2 a b)) l+cyL (thr (upr (B2 a b)) (B2 a b)) l),sZ (cyL (ahd (upr (B2 a b)) (B2 a b)) l+cyL (thr (upr (B2 a b)) (B2 a b)) l)] [] [] (.cons ⟨Ha,fun _ _=>Nat.zero_le _⟩ (.cons Hb .nil)) (rs:=[(cl 2 26 [ag 8 1,.v true [.an 1 8,.an 1 9,.an 1 10,.an 1 11,.an 1 12,.an 1 13,.an 1 14,.an 1 15]],[]),(co 3 (.binOp .eql 3 (.tmp 14) (.const (.int .i64 0)) 3) 4 [on 2,.v false [.lit (.int .i64 0)]] [0,1,2] [],[]),(cl 4 38 [ag 16 1],[]),(cl 5 39 [ag 16 1,ag 8 4],[]),(cl 6 40 [on 0,ag 8 4,.fn 133 [.an 5 0]],[]),(cl 7 133 [.v true [.an 1 8,.an 1 9,.an 1 10,.an 1 11,.an 1 12,.an 1 13,.an 1 14,.an 1 15],on 5],[]),(co 8 (.binOp .gtr 3 (.tmp 31) (.const (.int .i64 0)) 3) 4 [on 7,.v false [.lit (.int .i64 0)]] [0,1,2,3,4,5,6,7] [],[]),(co 9 (.binOp .add 3 (.tmp 33) (.tmp 34) 3) 3 [on 6,.v false [.an 6 1]] [0,1,2,3,4,5,6,7,8] [],[(8,0,true)]),(co 10 (.binOp .add 3 (.tmp 38) (.tmp 39) 3) 3 [on 6,.v false [.an 6 1]] [0,1,2,3,4,5,6,7,8] [],[(8,0,false)])]) (js:=[.test 8 0 (List.range 9) []]) (outs:=[⟨.tup [(false,[.an 9 0]),(false,[.an 6 0])],(List.range 10),[(8,0,true)],[],[]⟩,⟨.tup [(false,[.an 6 0]),(false,[.an 10 0])],[0,1,2,3,4,5,6,7,8,10],[(8,0,false)],[],[]⟩]) (nc:=11) (by kernel_rfl)
    ⟨fun σ W g h hp hb=>toZ (L0 W _ _ a b K (sg1 (h 1 rfl)) (sg2 (h 1 rfl)) (by omega) ba bb) rfl,
    fun σ W g h hp hb=>fun ρ o ho _ hv=>⟨_,D7 false ho ((A0 hv).1.trans (h 2 rfl)) (A0 hv).2 (decide_eq_false h0),rfl⟩,
    fun σ W g h hp hb=>jM W _ a b K (h 1 rfl) (by omega) ba bb (hTab.kept g (by simp)),
    fun σ W g h hp hb=>toRf (Nat.zero_le _) (sW W _ _ a b _ K (h 1 rfl) (h 4 rfl) (by omega) ba bb h1),
    fun σ W g h hp hb=>by
     obtain ⟨⟨q,u0,u1,u2,u3,u4,u5,u6,u7,e1,e2,e3⟩,e9⟩:=h 5 rfl
     have e1:Value.func (.func 133) #[] #[σ.an 5 0]=_:=e1
     have e1 : σ.an 5 0 = .pointer (some ⟨q,0,none⟩):=by simpa using e1
     have e4:PtsV W (σ.an 0 0) l:=(h 0 rfl).1
     show Calls _ _ #[σ.an 0 0,.agg #[σ.an 4 0, σ.an 4 1, σ.an 4 2, σ.an 4 3, σ.an 4 4, σ.an 4 5, σ.an 4 6, σ.an 4 7],.func (.func 133) #[] #[σ.an 5 0]] W _
     rw [e1]
     exact kX (WCrossU_any W _ q _ _ _ _ _ _ _ _ u0 u1 u2 u3 u4 u5 u6 u7 l (B2 a b) (4*K+2) e4 (h 4 rfl) e2 e3 (by omega) (by omega) hbd' bm (hTab.kept g (by simp)) (by obtain ⟨s,n,c,e,_⟩:=e4;rw [e];rfl)),
    fun σ W g h hp hb=>by
     obtain ⟨⟨q,u0,u1,u2,u3,u4,u5,u6,u7,e1,e2,e3⟩,e9⟩:=h 5 rfl
     have e1:Value.func (.func 133) #[] #[σ.an 5 0]=_:=e1
     have e1 : σ.an 5 0 = .pointer (some ⟨q,0,none⟩):=by simpa using e1
     show Calls _ _ #[_, σ.an 5 0] W _
     rw [e1]
     exact toZ (X2 W _ q u0 u1 u2 u3 u4 u5 u6 u7 b (B2 a b) (4*K+2) (sg2 (h 1 rfl)) e2 e3 (by omega) (bb.mono (by omega)) bm) rfl,
    fun σ W g h hp hb=>fun ρ o ho _ hv=>⟨_,G6 _ ho ((A0 hv).1.trans (h 7 rfl)) (A0 hv).2 rfl,rfl⟩,
    fun σ W g h hp hb=>fun ρ o ho _ hv=>⟨_,C5 ho ((A0 hv).1.trans (jS (h 6 rfl))) ((A0 hv).2.trans (szz2 (h 6 rfl))) (K9 (by omega) (by omega)),rfl⟩,
    fun σ W g h hp hb=>fun ρ o ho _ hv=>⟨_,C5 ho ((A0 hv).1.trans (jS (h 6 rfl))) ((A0 hv).2.trans (szz2 (h 6 rfl))) (K9 (by omega) (by omega)),rfl⟩,
    trivial⟩
    ⟨fun σ W g h hp=>⟨_,h 8 rfl⟩,
    trivial⟩
    ⟨fun τ W g h hp hb=>by
     have q:=of_decide_eq_true (vBy (h 8 rfl) (hp 8 0 true rfl))
     refine ⟨?_,g⟩
     unfold nJ
     rw [if_pos q]
     have e1 : τ.an 9 0=_:=h 9 rfl
     have e2 : τ.an 6 0=_:=jS (h 6 rfl)
     show Ending.returned (.tuple #[τ.an 9 0, τ.an 6 0])=_
     rw [e1,e2],
    fun τ W g h hp hb=>by
     have q:=of_decide_eq_false (vBy (h 8 rfl) (hp 8 0 false rfl))
     refine ⟨?_,g⟩
     unfold nJ
     rw [if_neg q]
     have e1 : τ.an 10 0=_:=h 10 rfl
     have e2 : τ.an 6 0=_:=jS (h 6 rfl)
     show Ending.returned (.tuple #[τ.an 6 0, τ.an 10 0])=_
     rw [e1,e2],
    trivial⟩
 · skip
   unfold bes
   rw [if_neg h0,if_neg h1]
   have b1:=cy_b (ahd_b (lvl (B2 a b)) (B2 a b)) l
   have b2:=cy_b (thr_b (lvl (B2 a b)) (B2 a b)) l
   refine M7 B6 Tryz.func11 [sPts 0 l,sSg a b] [sZ (F0 a b),sV (.bool false),sPt (B2 a b),sRf 134 0 (B2 a b),sZZ (cyL (ahd (lvl (B2 a b)) (B2 a b)) l) (cyL (thr (lvl (B2 a b)) (B2 a b)) l),sZ (lvl (B2 a b) b),sC (.bool (decide (0<lvl (B2 a b) b))) rfl,sZ (cyL (ahd (lvl (B2 a b)) (B2 a b)) l+cyL (thr (lvl (B2 a b)) (B2 a b)) l),sZ (cyL (ahd (lvl (B2 a b)) (B2 a b)) l+cyL (thr (lvl (B2 a b)) (B2 a b)) l)] [] [] (.cons ⟨Ha,fun _ _=>Nat.zero_le _⟩ (.cons Hb .nil)) (rs:=[(cl 2 26 [ag 8 1,.v true [.an 1 8,.an 1 9,.an 1 10,.an 1 11,.an 1 12,.an 1 13,.an 1 14,.an 1 15]],[]),(co 3 (.binOp .eql 3 (.tmp 14) (.const (.int .i64 0)) 3) 4 [on 2,.v false [.lit (.int .i64 0)]] [0,1,2] [],[]),(cl 4 38 [ag 16 1],[]),(cl 5 39 [ag 16 1,ag 8 4],[]),(cl 6 40 [on 0,ag 8 4,.fn 134 [.an 5 0]],[]),(cl 7 134 [.v true [.an 1 8,.an 1 9,.an 1 10,.an 1 11,.an 1 12,.an 1 13,.an 1 14,.an 1 15],on 5],[]),(co 8 (.binOp .gtr 3 (.tmp 31) (.const (.int .i64 0)) 3) 4 [on 7,.v false [.lit (.int .i64 0)]] [0,1,2,3,4,5,6,7] [],[]),(co 9 (.binOp .add 3 (.tmp 33) (.tmp 34) 3) 3 [on 6,.v false [.an 6 1]] [0,1,2,3,4,5,6,7,8] [],[(8,0,true)]),(co 10 (.binOp .add 3 (.tmp 38) (.tmp 39) 3) 3 [on 6,.v false [.an 6 1]] [0,1,2,3,4,5,6,7,8] [],[(8,0,false)])]) (js:=[.test 8 0 (List.range 9) []]) (outs:=[⟨.tup [(false,[.an 9 0]),(false,[.an 6 0])],(List.range 10),[(8,0,true)],[],[]⟩,⟨.tup [(false,[.an 6 0]),(false,[.an 10 0])],[0,1,2,3,4,5,6,7,8,10],[(8,0,false)],[],[]⟩]) (nc:=11) (by kernel_rfl)
    ⟨fun σ W g h hp hb=>toZ (L0 W _ _ a b K (sg1 (h 1 rfl)) (sg2 (h 1 rfl)) (by omega) ba bb) rfl,
    fun σ W g h hp hb=>fun ρ o ho _ hv=>⟨_,D7 false ho ((A0 hv).1.trans (h 2 rfl)) (A0 hv).2 (decide_eq_false h0),rfl⟩,
    fun σ W g h hp hb=>jM W _ a b K (h 1 rfl) (by omega) ba bb (hTab.kept g (by simp)),
    fun σ W g h hp hb=>toRf (Nat.zero_le _) (sX W _ _ a b _ K (h 1 rfl) (h 4 rfl) (by omega) ba bb h1),
    fun σ W g h hp hb=>by
     obtain ⟨⟨q,u0,u1,u2,u3,u4,u5,u6,u7,e1,e2,e3⟩,e9⟩:=h 5 rfl
     have e1:Value.func (.func 134) #[] #[σ.an 5 0]=_:=e1
     have e1 : σ.an 5 0 = .pointer (some ⟨q,0,none⟩):=by simpa using e1
     have e4:PtsV W (σ.an 0 0) l:=(h 0 rfl).1
     show Calls _ _ #[σ.an 0 0,.agg #[σ.an 4 0, σ.an 4 1, σ.an 4 2, σ.an 4 3, σ.an 4 4, σ.an 4 5, σ.an 4 6, σ.an 4 7],.func (.func 134) #[] #[σ.an 5 0]] W _
     rw [e1]
     exact kX (jN W _ q _ _ _ _ _ _ _ _ u0 u1 u2 u3 u4 u5 u6 u7 l (B2 a b) (4*K+2) e4 (h 4 rfl) e2 e3 (by omega) (by omega) hbd' bm (hTab.kept g (by simp)) (by obtain ⟨s,n,c,e,_⟩:=e4;rw [e];rfl)),
    fun σ W g h hp hb=>by
     obtain ⟨⟨q,u0,u1,u2,u3,u4,u5,u6,u7,e1,e2,e3⟩,e9⟩:=h 5 rfl
     have e1:Value.func (.func 134) #[] #[σ.an 5 0]=_:=e1
     have e1 : σ.an 5 0 = .pointer (some ⟨q,0,none⟩):=by simpa using e1
     show Calls _ _ #[_, σ.an 5 0] W _
     rw [e1]
     exact toZ (bR W _ q u0 u1 u2 u3 u4 u5 u6 u7 b (B2 a b) (4*K+2) (sg2 (h 1 rfl)) e2 e3 (by omega) (bb.mono (by omega)) bm) rfl,
    fun σ W g h hp hb=>fun ρ o ho _ hv=>⟨_,G6 _ ho ((A0 hv).1.trans (h 7 rfl)) (A0 hv).2 rfl,rfl⟩,
    fun σ W g h hp hb=>fun ρ o ho _ hv=>⟨_,C5 ho ((A0 hv).1.trans (jS (h 6 rfl))) ((A0 hv).2.trans (szz2 (h 6 rfl))) (K9 (by omega) (by omega)),rfl⟩,
    fun σ W g h hp hb=>fun ρ o ho _ hv=>⟨_,C5 ho ((A0 hv).1.trans (jS (h 6 rfl))) ((A0 hv).2.trans (szz2 (h 6 rfl))) (K9 (by omega) (by omega)),rfl⟩,
    trivial⟩
    ⟨fun σ W g h hp=>⟨_,h 8 rfl⟩,
    trivial⟩
    ⟨fun τ W g h hp hb=>by
     have q:=of_decide_eq_true (vBy (h 8 rfl) (hp 8 0 true rfl))
     refine ⟨?_,g⟩
     unfold nJ
     rw [if_pos q]
     have e1 : τ.an 9 0=_:=h 9 rfl
     have e2 : τ.an 6 0=_:=jS (h 6 rfl)
     show Ending.returned (.tuple #[τ.an 9 0, τ.an 6 0])=_
     rw [e1,e2],
    fun τ W g h hp hb=>by
     have q:=of_decide_eq_false (vBy (h 8 rfl) (hp 8 0 false rfl))
     refine ⟨?_,g⟩
     unfold nJ
     rw [if_neg q]
     have e1 : τ.an 10 0=_:=h 10 rfl
     have e2 : τ.an 6 0=_:=jS (h 6 rfl)
     show Ending.returned (.tuple #[τ.an 6 0, τ.an 10 0])=_
     rw [e1,e2],
    trivial⟩
def onB (l:List Pq) (p:Pq):Bool:=(List.range l.length).any fun i=>decide (A4 (pt0 l i) (nxt l i) p=0) && decide (lS p (pt0 l i) (nxt l i)<=0)
theorem rT (l:List Pq) (p:Pq):dec (OnR l p)=onB l p:=by
 have key:OnR l p ↔ onB l p=true:=by
  unfold OnR onB
  rw [List.any_eq_true]
  constructor
  · rintro ⟨i,hi,h⟩
    have:=ins_doc.1 h
    exact ⟨i,List.mem_range.2 hi,by rw [Bool.and_eq_true];exact ⟨decide_eq_true this.1,decide_eq_true this.2⟩⟩
  · rintro ⟨i,hi,h⟩
    rw [Bool.and_eq_true] at h
    exact ⟨i,List.mem_range.1 hi,ins_doc.2 ⟨of_decide_eq_true h.1,of_decide_eq_true h.2⟩⟩
 cases hb:onB l p with
 | true=>exact O0 (key.2 hb)
 | false=>exact I1 fun e=>by rw [key.1 e] at hb;cases hb
def arB (l:List Pq) (p:Pq):Int:=if onB l p=true then 0 else oY l p
theorem arB_is (l:List Pq) (p:Pq):arN l p=arB l p:=by unfold arN arB;rw [rT]
def rowK:List G2:=[(0,0),(4,0),(4,4),(0,4)]
theorem eQ:∀ d ∈ rowK,iQ d:=by
 intro d hd
 unfold iQ
 simp [rowK] at hd
 rcases hd with rfl | rfl | rfl | rfl<;>refine ⟨⟨?_, ?_⟩, ?_, ?_⟩<;>decide
theorem eO:rowK.length<=200:=by decide
theorem glK_len:(gl rowK).length<=200:=by decide
theorem kJ {W:World} {q:Nat} (hb:W.heap[q]?=some (.cells #[.int .i64 0,.int .i64 0,.int .i64 4,.int .i64 0,.int .i64 4,.int .i64 4,.int .i64 0,.int .i64 4] 86 (0,0))):GsV W.heap.size W (.slice (some ⟨q,0,none⟩) 4 4) rowK:=by
 refine ⟨_,_,_,rfl,rfl,by omega,.inr ⟨q,0,rfl,(Array.getElem?_eq_some_iff.1 hb).1,fun i hi=>?_⟩⟩
 match i,hi with
 | 0,_=>constructor<;>(unfold World.cell?;rw [hb];rfl)
 | 1,_=>constructor<;>(unfold World.cell?;rw [hb];rfl)
 | 2,_=>constructor<;>(unfold World.cell?;rw [hb];rfl)
 | 3,_=>constructor<;>(unfold World.cell?;rw [hb];rfl)
theorem kn1:arN (gl rowK) (J4 1 1)=1/\dec (OnR (gl rowK) (J4 1 1))=false:=by rw [arB_is,rT];constructor<;>decide +kernel
theorem kn2:arN (gl rowK) (J4 5 5)=0/\dec (OnR (gl rowK) (J4 5 5))=false:=by rw [arB_is,rT];constructor<;>decide +kernel
theorem kn3:arN (gl rowK) (J4 4 2)=0/\dec (OnR (gl rowK) (J4 4 2))=true:=by rw [arB_is,rT];constructor<;>decide +kernel
theorem kn4:(bes (gl rowK) (J4 0 0) (J4 4 0)).1=1/\(bes (gl rowK) (J4 0 0) (J4 4 0)).2=0:=by constructor<;>decide +kernel
theorem glK_b:∀ p ∈ gl rowK,Bp 1 p:=by
 intro p hp
 obtain ⟨d,hd,rfl⟩:=List.mem_map.1 hp
 have:=eQ d hd
 exact rZ this.1.1 this.1.2 this.2.1 this.2.2
theorem gk_b {x y:Int} (hx : 0<=x/\x<=5) (hy : 0<=y/\y<=5):Bp 1 (J4 x y):=rZ (by omega) (by omega) (by omega) (by omega)
theorem V5 (w:World) (hTab:Tab w) :
 Calls Tryz.prog 14 #[] w (fun e w'=>e = .returned (.bool true)/\w.grownBy w' none):=by
 refine M7 B6 Tryz.func14 [] [sPt (J4 1 1),sVV (.int .i64 1) (.bool false),sPt (J4 5 5),sVV (.int .i64 0) (.bool false),sPt (J4 4 2),sVV (.int .i64 0) (.bool true),sPts 0 (gl rowK),sPt (J4 0 0),sPt (J4 4 0),sVV (.int .i64 1) (.int .i64 0)] [] [] .nil (rs:=[(cl 0 41 [.v true [.lit (.int .i64 1),.lit (.int .i64 1)]],[]),(clb 1 42 [.v false [.row 0 0 4 4],ag 8 0] [0] [(0,86,[.lit (.int .i64 0),.lit (.int .i64 0),.lit (.int .i64 4),.lit (.int .i64 0),.lit (.int .i64 4),.lit (.int .i64 4),.lit (.int .i64 0),.lit (.int .i64 4)])],[]),(cl 2 41 [.v true [.lit (.int .i64 5),.lit (.int .i64 5)]],[]),(clb 3 42 [.v false [.row 0 0 4 4],ag 8 2] [0,1,2] [(0,86,[.lit (.int .i64 0),.lit (.int .i64 0),.lit (.int .i64 4),.lit (.int .i64 0),.lit (.int .i64 4),.lit (.int .i64 4),.lit (.int .i64 0),.lit (.int .i64 4)])],[]),(cl 4 41 [.v true [.lit (.int .i64 4),.lit (.int .i64 2)]],[]),(clb 5 42 [.v false [.row 0 0 4 4],ag 8 4] [0,1,2,3,4] [(0,86,[.lit (.int .i64 0),.lit (.int .i64 0),.lit (.int .i64 4),.lit (.int .i64 0),.lit (.int .i64 4),.lit (.int .i64 4),.lit (.int .i64 0),.lit (.int .i64 4)])],[]),(clb 6 12 [.v false [.row 0 0 4 4]] [0,1,2,3,4,5] [(0,86,[.lit (.int .i64 0),.lit (.int .i64 0),.lit (.int .i64 4),.lit (.int .i64 0),.lit (.int .i64 4),.lit (.int .i64 4),.lit (.int .i64 0),.lit (.int .i64 4)])],[]),(cl 7 41 [.v true [.lit (.int .i64 0),.lit (.int .i64 0)]],[]),(cl 8 41 [.v true [.lit (.int .i64 4),.lit (.int .i64 0)]],[]),(cl 9 11 [on 6,.v true [.an 7 0,.an 7 1,.an 7 2,.an 7 3,.an 7 4,.an 7 5,.an 7 6,.an 7 7,.an 8 0,.an 8 1,.an 8 2,.an 8 3,.an 8 4,.an 8 5,.an 8 6,.an 8 7]],[])]) (js:=[]) (outs:=[⟨.v false [.lit (.bool true)],(List.range 10),[],[],[]⟩]) (nc:=10) (by kernel_rfl)
  ⟨fun σ W g h hp hb=>T8 W 1 1 (by omega) (by omega) (by omega) (by omega),
  fun σ W g h hp hb=>toVV (bS W _ _ rowK (J4 1 1) 1 (kJ (hb.1 _ (.head _))) (h 0 rfl) (by omega) eO eQ (gk_b (by omega) (by omega)) (hTab.kept g (by simp))) (congrArg (Value.int .i64) kn1.1) (congrArg Value.bool kn1.2),
  fun σ W g h hp hb=>T8 W 5 5 (by omega) (by omega) (by omega) (by omega),
  fun σ W g h hp hb=>toVV (bS W _ _ rowK (J4 5 5) 1 (kJ (hb.1 _ (.head _))) (h 2 rfl) (by omega) eO eQ (gk_b (by omega) (by omega)) (hTab.kept g (by simp))) (congrArg (Value.int .i64) kn2.1) (congrArg Value.bool kn2.2),
  fun σ W g h hp hb=>T8 W 4 2 (by omega) (by omega) (by omega) (by omega),
  fun σ W g h hp hb=>toVV (bS W _ _ rowK (J4 4 2) 1 (kJ (hb.1 _ (.head _))) (h 4 rfl) (by omega) eO eQ (gk_b (by omega) (by omega)) (hTab.kept g (by simp))) (congrArg (Value.int .i64) kn3.1) (congrArg Value.bool kn3.2),
  fun σ W g h hp hb=>toPts (Nat.zero_le _) (Z2 W _ rowK (kJ (hb.1 _ (.head _))) eO eQ),
  fun σ W g h hp hb=>T8 W 0 0 (by omega) (by omega) (by omega) (by omega),
  fun σ W g h hp hb=>T8 W 4 0 (by omega) (by omega) (by omega) (by omega),
  fun σ W g h hp hb=>toVV (W5 W _ _ (gl rowK) (J4 0 0) (J4 4 0) 1 (h 6 rfl).1 (mksg (h 7 rfl) (h 8 rfl)) (by omega) glK_len glK_b (gk_b (by omega) (by omega)) (gk_b (by omega) (by omega)) (hTab.kept g (by simp))) (congrArg (Value.int .i64) kn4.1) (congrArg (Value.int .i64) kn4.2),
  trivial⟩
  trivial
  ⟨fun τ W g h hp hb=>⟨rfl,g⟩,
  trivial⟩
def kG:iP G2:=⟨86,2,fun _ cs d=>cs=[.int .i64 d.1,.int .i64 d.2],fun h _=>h,by kernel_rfl⟩
theorem OwV.gs {base:Nat} {W:World} {v:Value} {l:List G2} (h:OwV kG base W v l):GsV W.heap.size W v l:=by
 obtain ⟨xs,⟨hl,h2⟩,hA⟩:=h
 rcases h2 with ⟨rfl,h0⟩ | ⟨g,cap,cur,rfl,hbg,hg,hnc,hcm,hcs,htk⟩
 · exact ⟨none,0,0,rfl,h0,Nat.le_refl _,.inl (List.eq_nil_of_length_eq_zero h0)⟩
 · refine ⟨_,_,_,rfl,rfl,hnc,.inr ⟨g,0,rfl,(Array.getElem?_eq_some_iff.1 hg).1,fun i hi=>?_⟩⟩
   have e:(xs.drop (2*i)).take 2=[.int .i64 l[i].1,.int .i64 l[i].2]:=hA i hi
   have hx:∀ r u,r<2->((xs.drop (2*i)).take 2)[r]?=some u->W.cell? ⟨g,0+2*i+r,none⟩=some u:=fun r u hr hu=>by
    rw [List.getElem?_take_of_lt hr,List.getElem?_drop] at hu
    have hlt : 2*i+r<l.length*2:=by omega
    have:cur[2*i+r]?=some u:=by
     rw [<- Array.getElem?_toList]
     have h3:(cur.toList.take (l.length*2))[2*i+r]?=some u:=by
      have htk':cur.toList.take (l.length*2)=xs:=htk
      rw [htk'];exact hu
     rwa [List.getElem?_take_of_lt hlt] at h3
    rw [Nat.zero_add]
    unfold World.cell?
    rw [hg]
    exact this
   exact ⟨hx 0 _ (by omega) (by rw [e];rfl),hx 1 _ (by omega) (by rw [e];rfl)⟩
theorem GsV.up {b B:Nat} {w:World} {v:Value} {l:List G2} (h:GsV b w v l) (hB:b<=B):GsV B w v l:=by
 obtain ⟨s,n,c,rfl,h1,h2,h3⟩:=h
 exact ⟨s,n,c,rfl,h1,h2,h3.imp_right fun ⟨q,off,e,hq,hd⟩=>⟨q,off,e,Nat.lt_of_lt_of_le hq hB,hd⟩⟩
theorem GsV.rebase {b B:Nat} {w:World} {v:Value} {l:List G2} (h:GsV b w v l) (hB:∀ q,fpS v q->q<B):GsV B w v l:=by
 obtain ⟨s,n,c,rfl,h1,h2,h3⟩:=h
 refine ⟨s,n,c,rfl,h1,h2, ?_⟩
 by_cases h0:l=[]
 · exact .inl h0
 · obtain ⟨q,off,rfl,hq,hd⟩:=h3.resolve_left h0
   obtain ⟨m,rfl⟩:∃ m,n=m+1:=⟨n-1,by have:=List.length_pos_iff.2 h0;omega⟩
   exact .inr ⟨q,off,rfl,hB q ⟨off,m,c,rfl⟩,hd⟩
def sGe (base:Nat) (va:Value) (l:List G2):Sp where
 sh := .one
 F v W:=v=va/\GsV base W v l
 fits v W h:=by obtain ⟨_,s,n,c,rfl,_⟩:=h;exact ⟨fun _ => .slice s n c,fun _=>rfl,rfl⟩
 row:=true
 fp v _ q:=fpS v q
 lasts v W W' k hq h:=⟨⟨h.1,h.2.keeps hq⟩,fun _ h=>h⟩
 inb v W h q hq:=(h.2.block hq).2
 flat h:=by cases h
def FewV (base:Nat) (va:Value) (l:List G2) (v:Value) (W:World):Prop:=∃ a b,v = .tuple #[a,b]/\GsV base W a l/\(∀ q,fpS a q->fpS va q)/\HrV W b (hrl l) /\ ∀ q,fpS b q->base<=q
def sFew (base:Nat) (va:Value) (l:List G2):Sp where
 sh := .tup [(none,0),(none,0)]
 F v W:=FewV base va l v W
 fits v W h:=by
  obtain ⟨a,b,rfl,⟨s,n,c,rfl,_⟩,_,⟨s',n',c',rfl,_⟩,_⟩:=h
  exact V8 (u := .bool true) (cs:=[.slice s n c,.slice s' n' c']) (by simp [Value.oneCell']) rfl
 row:=true
 fp v _ q:=∃ a b,v = .tuple #[a,b]/\(fpS a q\/fpS b q)
 lasts v W W' k hq h:=by
  obtain ⟨a,b,rfl,h1,h2,h3,h4⟩:=h
  exact ⟨⟨a,b,rfl,h1.keeps fun q hf=>hq q ⟨a,b,rfl,.inl hf⟩,h2,h3.keeps k fun q hf=>hq q ⟨a,b,rfl,.inr hf⟩,h4⟩,fun _ h=>h⟩
 inb v W h q hq:=by
  obtain ⟨a,b,rfl,h1,h2,h3,h4⟩:=h
  obtain ⟨a',b',e,hq⟩:=hq
  cases e
  rcases hq with hq | hq
  · exact (h1.block hq).2
  · exact h3.inb q hq
 flat h:=by cases h
theorem toFew {P:Program} {f:FuncId} {args:Array Value} {W:World} {base:Nat} {va:Value} {l:List G2} {old:Nat->Prop} (hb:base<=W.heap.size) (ho:∀ q,fpS va q->old q) (hlt:∀ q,fpS va q->q<base) (h:Calls P f args W (RetFew W va l)):Calls P f args W (RetS W (sFew base va l) old):=
 h.mono fun _ _ ⟨v,u,a,h1,h2,h3,h4,g⟩=>⟨_,a,⟨v,u,rfl,h1.rebase fun q hq=>hlt q (h2 q hq),h2,h3,fun q hq=>Nat.le_trans hb (h4 q hq)⟩,g,fun q hq=>by
  obtain ⟨a',b',e,hq⟩:=hq
  cases e
  rcases hq with hq | hq
  · exact .inr (ho q (h2 q hq))
  · exact .inl (h4 q hq)⟩
theorem few1 {base:Nat} {va:Value} {l:List G2} {a b:Value} {W:World} : (sFew base va l).F (.tuple #[a,b]) W->GsV base W a l:=fun ⟨_,_,e,h,_⟩=>by cases e;exact h
theorem few2 {base:Nat} {va:Value} {l:List G2} {a b:Value} {W:World} : (sFew base va l).F (.tuple #[a,b]) W->HrV W b (hrl l):=fun ⟨_,_,e,_,_,h,_⟩=>by cases e;exact h
def sAr (n:Int) (b:Bool):Sp := .of (.tup [(none,0),(none,0)]) (fun v _=>v = .tuple #[.int .i64 n,.bool b]) (fun v W h=>V8 (u := .bool true) (cs:=[.int .i64 n,.bool b]) (by simp [Value.oneCell']) h) (fun _ _ _ _ h=>h)
theorem toAr {P:Program} {f:FuncId} {args:Array Value} {W:World} {n:Int} {b:Bool} (h:Calls P f args W (fun e w'=>e = .returned (.tuple #[.int .i64 n,.bool b])/\W.grownBy w' none)):Calls P f args W (Ret W (sAr n b).F):=h.mono fun _ _ ⟨a,g⟩=>⟨_,a,rfl,g⟩
theorem ar1 {n:Int} {b:Bool} {u v:Value} {W:World} : (sAr n b).F (.tuple #[u,v]) W->u = .int .i64 n:=fun h=>by cases h;rfl
section
variable {ρ : Operand->Value} {o:Oper} {W:World}
end
theorem gridRp (x y:Int):rp ⟨x,y,1⟩=J4 x y:=by
 unfold rp J4
 refine Prod.ext ?_ ?_<;>simp only [jW]<;>rw [show ((1:Int):Rat)=1 from rfl,Rat.div_def,show (1:Rat)⁻¹ = 1 by decide +kernel,Rat.mul_one]
theorem gR (l:List G2):(hrl l).map rp=gl l:=by
 unfold hrl gl
 rw [List.map_map]
 exact List.map_congr_left fun d _=>gridRp d.1 d.2
theorem hrl_b {l:List G2} (h:∀ d ∈ l,iQ d):∀ p ∈ hrl l,HB 5 p/\0<p.z:=by
 intro p hp
 obtain ⟨d,hd,rfl⟩:=List.mem_map.1 hp
 have:=h d hd
 have h1:=lat_h (d:=0) this.1.1 this.1.2 this.2.1 this.2.2
 exact ⟨⟨h1.1,h1.2.1,dint (n:=1) (by decide) (by decide)⟩,(by decide:(0:Int)<1)⟩
def ptk:Nat->F2
 | 0=>(1,2)
 | k+1=>aX (ptk k) (1,16)
theorem rK:∀ k,ptk k=(1,((2*16^k:Nat):Int))
 | 0=>rfl
 | k+1=>by
   show aX (ptk k) (1,16)=_
   rw [rK k]
   refine Prod.ext rfl ?_
   show ((2*16^k:Nat):Int)*16=((2*16^(k+1):Nat):Int)
   rw [Nat.pow_succ];push_cast;rw [Int.mul_assoc]
theorem eV {k:Nat} (h:k<=40):FB 13 (ptk k):=by
 rw [rK]
 have h1 : 0<16^k:=Nat.pow_pos (by decide)
 have h2 : 2*16^k<=2*16^40:=Nat.mul_le_mul_left 2 (Nat.pow_le_pow_right (by decide) h)
 have h3 : 2*16^40<D^13:=by unfold D;decide
 refine ⟨?_,(by unfold D;decide:(1:Int).natAbs<D^13), ?_⟩
 · show (0:Int)<((2*16^k:Nat):Int);omega
 · show (((2*16^k:Nat):Int)).natAbs<D^13
   rw [Int.natAbs_natCast];exact Nat.lt_of_le_of_lt h2 h3
theorem rJ (k:Nat) : 0<fv (ptk k):=by
 rw [rK]
 have h1 : 0<16^k:=Nat.pow_pos (by decide)
 unfold fv
 have hd:(0:Int)<((2*16^k:Nat):Int):=by omega
 exact rsg_pos.1 ((Q8 (n:=1) hd).trans (by decide))
def L8 (l:List Pq) (a b:Pq) (t:Rat) (n:Nat):Prop:=∀ j,j<n->PM.Free a b t (pt0 l j) (nxt l j)
def HmV (W:World) (v:Value) (L:List Pq):Prop:=∃ l:List H3,HrV W v l/\l.map rp=L
def sHm (L:List Pq):Sp where
 sh := .one
 F v W:=HmV W v L
 fits v W h:=by obtain ⟨l,⟨s,n,c,rfl,_⟩,_⟩:=h;exact ⟨fun _ => .slice s n c,fun _=>rfl,rfl⟩
 row:=true
 fp v _ q:=fpS v q
 lasts v W W' k hq h:=by obtain ⟨l,h1,h2⟩:=h;exact ⟨⟨l,h1.keeps k hq,h2⟩,fun _ h=>h⟩
 inb v W h q hq:=by obtain ⟨l,h1,h2⟩:=h;exact h1.inb q hq
 flat h:=by cases h
theorem toHm {P:Program} {f:FuncId} {args:Array Value} {W:World} {E:Nat} {L:List Pq} {old:Nat->Prop} (h:Calls P f args W (Z4 W E L)):Calls P f args W (RetS W (sHm L) old):=
 h.mono fun _ _ ⟨l,⟨v,a,h,g,hq⟩,h2,_⟩=>⟨v,a,⟨l,h,h2⟩,g,fun q hf => .inl (hq q hf)⟩
theorem hm_len {ρ : Operand->Value} {o:Oper} {W:World} {t:TypeId} {x:Operand} {v:Value} {L:List Pq} (h:HmV W v L) (ho:o.op = .call ⟨.builtin .len, #[x], #[t]⟩) (hx : ρ x=v) (hu:∃ el,Tryz.prog.underlying t=some (.slice el)) :
 (execOp ρ o).run Tryz.prog W = .ok (.value (.int .i64 L.length)) W:=by
 obtain ⟨l,h1,rfl⟩:=h
 rw [List.length_map];exact bK h1 ho hx hu
theorem pT {a b c d:Pq} : (P7 a b c d).length=0 ↔ ∀ q,InS a b q -> ¬ InS c d q:=by
 have h:=meetD_told a b c d
 generalize P7 a b c d=l at h
 cases h with
 | none h0=>exact ⟨fun _ q h1 h2=>h0 q ⟨h1,h2⟩,fun _=>rfl⟩
 | one p h0=>exact ⟨fun e=>by simp at e,fun e=>by have:=(h0 p).2 rfl;exact absurd this.2 (e p this.1)⟩
 | two p q _ h0=>exact ⟨fun e=>by simp at e,fun e=>by have:=(h0 p).2 (bJ p q);exact absurd this.2 (e p this.1)⟩
theorem hZ {l:List Pq} {a b:Pq} {t:Rat} {k:Nat} (h:L8 l a b t k):L8 l a b t (k+1) ↔ PM.Free a b t (pt0 l k) (nxt l k):=
 ⟨fun f=>f k (by omega),fun f j hj=>by
  by_cases e:j=k
  · rw [e];exact f
  · exact h j (by omega)⟩
set_option maxHeartbeats 4000000 in
theorem lP (w:World) (va vb:Value) (l:List H3) (a b:H3) (Ha:HrV w va l) (Hb:HsV w vb a b) (hn:l.length<=40) (hl:∀ p ∈ l,HB 5 p/\0<p.z) (ba:HB 5 a) (bb:HB 5 b) (za : 0<a.z) (zb : 0<b.z) (h40:L8 (l.map rp) (rp a) (rp b) (fv (ptk 40)) l.length) :
 Calls Tryz.prog 48 #[va,vb] w (fun e w'=>∃ t:Rat,0<t/\L8 (l.map rp) (rp a) (rp b) t l.length/\e = .returned (.int .i64 (arN (l.map rp) (stp (rp a) (rp b) t)))/\w.grownBy w' none):=by
 have bm:=ba.mid bb (by omega)
 refine P1 B6 Tryz.func48 [sHr 0 l,sHs a b] (fun k:Nat × Nat=>[sRF 1 2,sZc (k.1<=40) (k.1:Int),sRF (ptk k.1).1 (ptk k.1).2,sV (.bool true),sH (K0 a b (ptk k.1)),sZc (k.2<=l.length) (k.2:Int),sC (.bool (dec (L8 (l.map rp) (rp a) (rp b) (fv (ptk k.1)) k.2))) rfl,sC (.bool (decide (k.2<l.length))) rfl,sZ l.length,sV (.bool true),sZ l.length,sV (.bool false),sHa (hg l (k.2)),sH (hg l (k.2)),sZ ((k.2:Int)+1),sZ l.length,sZ (((k.2+1)%l.length:Nat):Int),sHa (hg l ((k.2+1)%l.length)),sH (hg l ((k.2+1)%l.length)),sC (.bool (decide (rsg (A4 (rp a) (rp b) (rp (hg l k.2)))=0))) rfl,sC (.bool (decide (rsg (A4 (rp a) (rp b) (rp (hg l ((k.2+1)%l.length))))=0))) rfl,sZ (rsg (A4 (rp a) (rp b) (rp (hg l k.2)))),sV (.bool true),sZ (rsg (A4 (rp a) (rp b) (rp (hg l ((k.2+1)%l.length))))),sV (.bool true),sZ (rsg (A4 (rp a) (rp b) (rp (hg l k.2)))),sV (.bool true),sZ (rsg (A4 (rp a) (rp b) (rp (hg l ((k.2+1)%l.length))))),sV (.bool false),sZ (rsg (A4 (rp a) (rp b) (rp (hg l k.2)))),sV (.bool false),sH (N2 a b),sHm (P7 (rp (N2 a b)) (rp (K0 a b (ptk k.1))) (rp (hg l k.2)) (rp (hg l ((k.2+1)%l.length)))),sZ ((P7 (rp (N2 a b)) (rp (K0 a b (ptk k.1))) (rp (hg l k.2)) (rp (hg l ((k.2+1)%l.length)))).length:Int),sC (.bool (decide ((P7 (rp (N2 a b)) (rp (K0 a b (ptk k.1))) (rp (hg l k.2)) (rp (hg l ((k.2+1)%l.length)))).length=0))) rfl,sH (N2 a b),sHm (P7 (rp (N2 a b)) (rp (K0 a b (ptk k.1))) (rp (hg l k.2)) (rp (hg l ((k.2+1)%l.length)))),sZ ((P7 (rp (N2 a b)) (rp (K0 a b (ptk k.1))) (rp (hg l k.2)) (rp (hg l ((k.2+1)%l.length)))).length:Int),sC (.bool (decide ((P7 (rp (N2 a b)) (rp (K0 a b (ptk k.1))) (rp (hg l k.2)) (rp (hg l ((k.2+1)%l.length)))).length=0))) rfl,sZ ((k.2:Int)+1),sZ ((k.2:Int)+1),sZ ((k.2:Int)+1),sRF 1 16,sRF (aX (ptk k.1) (1,16)).1 (aX (ptk k.1) (1,16)).2,sAr (arN (l.map rp) (rp (K0 a b (ptk k.1)))) (dec (OnR (l.map rp) (rp (K0 a b (ptk k.1))))),sRF 1 16,sRF (aX (ptk k.1) (1,16)).1 (aX (ptk k.1) (1,16)).2,sZ ((k.1:Int)+1),sZ ((k.1:Int)+1)]) (fun m k=>if m=3 then 300-k.1 else if m=7 then l.length-k.2 else 0) ((0,0)) (fun _=>rfl) [1000000,1000001,8,11] [some [[.t 7,.t 8,.t 9,.t 10,.t 11,.t 12,.t 13,.t 14,.t 16,.t 17,.t 18,.t 19,.t 20,.t 21,.t 22,.t 23,.t 24,.t 25,.t 26,.t 27,.t 28,.t 29,.t 30,.t 31,.t 32,.t 33,.t 34,.t 35,.t 36,.t 37,.t 38,.t 39,.t 40,.t 41,.t 42,.t 43,.t 44,.t 45,.t 46,.t 47,.t 48,.t 49,.t 50,.t 51,.t 52,.t 53,.t 54,.t 55,.t 56,.t 57,.t 58,.t 59,.t 60,.t 61,.t 62,.t 63,.t 64,.t 65,.t 66,.t 67,.t 68,.t 69,.t 70,.t 71,.t 72,.t 73,.t 74,.t 75,.t 76,.t 77,.t 78,.t 79,.t 80,.t 81,.t 82,.t 83],[.t 6],[.c 1 0,.c 1 1,.c 1 2,.c 1 3]],some [[.t 10,.t 11,.t 12,.t 23,.t 24,.t 25,.t 26,.t 27,.t 28,.t 29,.t 30,.t 31,.t 32,.t 33,.t 34,.t 35,.t 36,.t 37,.t 38,.t 39,.t 40,.t 41,.t 42,.t 43,.t 44,.t 45,.t 46,.t 47,.t 48,.t 49,.t 50,.t 51,.t 52,.t 53,.t 54,.t 55,.t 56,.t 57,.t 58,.t 59,.t 60,.t 61,.t 62,.t 63,.t 64,.t 65,.t 66,.t 67,.t 68,.t 69,.t 70,.t 71,.t 72],[.t 9],[.t 8]]] (.cons ⟨Ha,fun _ _=>Nat.zero_le _⟩ (.cons Hb .nil)) (rs:=[(cl 2 93 [.v false [.lit (.int .i64 1)],.v false [.lit (.int .i64 2)]],[]),(co 5 (.binOp .lss 3 (.tmp 16) (.const (.int .i64 300)) 3) 4 [on 3,.v false [.lit (.int .i64 300)]] [0,1,2,3,4] [],[]),(cl 6 94 [ag 12 1,ag 4 4],[]),(co 10 (.call ⟨.builtin .len, #[(.tmp 24)], #[25]⟩) 3 [on 0] [0,1,2,3,4,5,6,7,8,9] [],[(9,0,true)]),(co 11 (.binOp .lss 3 (.tmp 23) (.tmp 25) 3) 4 [on 7,on 10] [0,1,2,3,4,5,6,7,8,9,10] [],[(9,0,true)]),(co 12 (.call ⟨.builtin .len, #[(.tmp 24)], #[25]⟩) 3 [on 0] [0,1,2,3,4,5,6,7,8,9] [],[(9,0,false)]),(co 13 (.binOp .lss 3 (.tmp 23) (.tmp 25) 3) 4 [on 7,on 12] [0,1,2,3,4,5,6,7,8,9,12] [],[(9,0,false)]),(co 14 (.indexAddr 25 (.tmp 32) (.tmp 33)) 0 [on 0,on 7] [0,1,2,3,4,5,6,7,8,9,10,11] [],[(8,0,true),(9,0,true)]),(co 15 (.load 34 (.tmp 34)) 34 [on 14] [0,1,2,3,4,5,6,7,8,9,10,11,14] [],[(8,0,true),(9,0,true)]),(co 16 (.binOp .add 3 (.tmp 37) (.const (.int .i64 1)) 3) 3 [on 7,.v false [.lit (.int .i64 1)]] [0,1,2,3,4,5,6,7,8,9,10,11] [],[(8,0,true),(9,0,true)]),(co 17 (.call ⟨.builtin .len, #[(.tmp 39)], #[25]⟩) 3 [on 0] [0,1,2,3,4,5,6,7,8,9,10,11] [],[(8,0,true),(9,0,true)]),(co 18 (.binOp .rem 3 (.tmp 38) (.tmp 40) 3) 3 [on 16,on 17] [0,1,2,3,4,5,6,7,8,9,10,11,16,17] [],[(8,0,true),(9,0,true)]),(co 19 (.indexAddr 25 (.tmp 36) (.tmp 41)) 0 [on 0,on 18] [0,1,2,3,4,5,6,7,8,9,10,11,16,17,18] [],[(8,0,true),(9,0,true)]),(co 20 (.load 34 (.tmp 42)) 34 [on 19] [0,1,2,3,4,5,6,7,8,9,10,11,16,17,18,19] [],[(8,0,true),(9,0,true)]),(cla 23 47 [ag 6 1,.v true [.an 1 6,.an 1 7,.an 1 8,.an 1 9,.an 1 10,.an 1 11],ag 6 15] [0,1,2,3,4,5,6,7,8,9,10,11,14,15,16,17,18,19,20,21,22],[(22,0,true),(21,0,true),(8,0,true),(9,0,true)]),(co 24 (.binOp .eql 3 (.tmp 49) (.const (.int .i64 0)) 3) 4 [on 23,.v false [.lit (.int .i64 0)]] [0,1,2,3,4,5,6,7,8,9,10,11,14,15,16,17,18,19,20,21,22,23] [],[(22,0,true),(21,0,true),(8,0,true),(9,0,true)]),(cla 25 47 [ag 6 1,.v true [.an 1 6,.an 1 7,.an 1 8,.an 1 9,.an 1 10,.an 1 11],ag 6 20] [0,1,2,3,4,5,6,7,8,9,10,11,14,15,16,17,18,19,20,21,22,23,24],[(22,0,true),(21,0,true),(8,0,true),(9,0,true)]),(co 26 (.binOp .eql 3 (.tmp 57) (.const (.int .i64 0)) 3) 4 [on 25,.v false [.lit (.int .i64 0)]] [0,1,2,3,4,5,6,7,8,9,10,11,14,15,16,17,18,19,20,21,22,23,24,25] [],[(22,0,true),(21,0,true),(8,0,true),(9,0,true)]),(cla 27 47 [ag 6 1,.v true [.an 1 6,.an 1 7,.an 1 8,.an 1 9,.an 1 10,.an 1 11],ag 6 15] [0,1,2,3,4,5,6,7,8,9,10,11,14,15,16,17,18,19,20,21,22],[(22,0,false),(21,0,true),(8,0,true),(9,0,true)]),(co 28 (.binOp .eql 3 (.tmp 49) (.const (.int .i64 0)) 3) 4 [on 27,.v false [.lit (.int .i64 0)]] [0,1,2,3,4,5,6,7,8,9,10,11,14,15,16,17,18,19,20,21,22,27] [],[(22,0,false),(21,0,true),(8,0,true),(9,0,true)]),(cla 29 47 [ag 6 1,.v true [.an 1 6,.an 1 7,.an 1 8,.an 1 9,.an 1 10,.an 1 11],ag 6 20] [0,1,2,3,4,5,6,7,8,9,10,11,14,15,16,17,18,19,20,21,22,27,28],[(22,0,false),(21,0,true),(8,0,true),(9,0,true)]),(co 30 (.binOp .eql 3 (.tmp 57) (.const (.int .i64 0)) 3) 4 [on 29,.v false [.lit (.int .i64 0)]] [0,1,2,3,4,5,6,7,8,9,10,11,14,15,16,17,18,19,20,21,22,27,28,29] [],[(22,0,false),(21,0,true),(8,0,true),(9,0,true)]),(cla 31 47 [ag 6 1,.v true [.an 1 6,.an 1 7,.an 1 8,.an 1 9,.an 1 10,.an 1 11],ag 6 15] [0,1,2,3,4,5,6,7,8,9,10,11,14,15,16,17,18,19,20,21],[(21,0,false),(8,0,true),(9,0,true)]),(co 32 (.binOp .eql 3 (.tmp 49) (.const (.int .i64 0)) 3) 4 [on 31,.v false [.lit (.int .i64 0)]] [0,1,2,3,4,5,6,7,8,9,10,11,14,15,16,17,18,19,20,21,31] [],[(21,0,false),(8,0,true),(9,0,true)]),(cla 33 45 [ag 12 1] [0,1,2,3,4,5,6,7,8,9,10,11,14,15,16,17,18,19,20,21,22,27,28,29,30],[(22,0,false),(21,0,true),(8,0,true),(9,0,true)]),(cla 34 55 [.v true [.an 33 0,.an 33 1,.an 33 2,.an 33 3,.an 33 4,.an 33 5,.an 6 0,.an 6 1,.an 6 2,.an 6 3,.an 6 4,.an 6 5],.v true [.an 15 0,.an 15 1,.an 15 2,.an 15 3,.an 15 4,.an 15 5,.an 20 0,.an 20 1,.an 20 2,.an 20 3,.an 20 4,.an 20 5]] [0,1,2,3,4,5,6,7,8,9,10,11,14,15,16,17,18,19,20,21,22,27,28,29,30,33],[(22,0,false),(21,0,true),(8,0,true),(9,0,true)]),(co 35 (.call ⟨.builtin .len, #[(.tmp 69)], #[25]⟩) 3 [on 34] [0,1,2,3,4,5,6,7,8,9,10,11,14,15,16,17,18,19,20,21,22,27,28,29,30,33,34] [],[(22,0,false),(21,0,true),(8,0,true),(9,0,true)]),(co 36 (.binOp .eql 3 (.tmp 70) (.const (.int .i64 0)) 3) 4 [on 35,.v false [.lit (.int .i64 0)]] [0,1,2,3,4,5,6,7,8,9,10,11,14,15,16,17,18,19,20,21,22,27,28,29,30,33,34,35] [],[(22,0,false),(21,0,true),(8,0,true),(9,0,true)]),(cla 37 45 [ag 12 1] [0,1,2,3,4,5,6,7,8,9,10,11,14,15,16,17,18,19,20,21,31,32],[(21,0,false),(8,0,true),(9,0,true)]),(cla 38 55 [.v true [.an 37 0,.an 37 1,.an 37 2,.an 37 3,.an 37 4,.an 37 5,.an 6 0,.an 6 1,.an 6 2,.an 6 3,.an 6 4,.an 6 5],.v true [.an 15 0,.an 15 1,.an 15 2,.an 15 3,.an 15 4,.an 15 5,.an 20 0,.an 20 1,.an 20 2,.an 20 3,.an 20 4,.an 20 5]] [0,1,2,3,4,5,6,7,8,9,10,11,14,15,16,17,18,19,20,21,31,32,37],[(21,0,false),(8,0,true),(9,0,true)]),(co 39 (.call ⟨.builtin .len, #[(.tmp 69)], #[25]⟩) 3 [on 38] [0,1,2,3,4,5,6,7,8,9,10,11,14,15,16,17,18,19,20,21,31,32,37,38] [],[(21,0,false),(8,0,true),(9,0,true)]),(co 40 (.binOp .eql 3 (.tmp 70) (.const (.int .i64 0)) 3) 4 [on 39,.v false [.lit (.int .i64 0)]] [0,1,2,3,4,5,6,7,8,9,10,11,14,15,16,17,18,19,20,21,31,32,37,38,39] [],[(21,0,false),(8,0,true),(9,0,true)]),(co 41 (.binOp .add 3 (.tmp 30) (.const (.int .i64 1)) 3) 3 [on 7,.v false [.lit (.int .i64 1)]] [0,1,2,3,4,5,6,7,8,9,10,11,14,15,16,17,18,19,20,21,22,23,24,25,26] [],[(22,0,true),(21,0,true),(8,0,true),(9,0,true)]),(co 42 (.binOp .add 3 (.tmp 30) (.const (.int .i64 1)) 3) 3 [on 7,.v false [.lit (.int .i64 1)]] [0,1,2,3,4,5,6,7,8,9,10,11,14,15,16,17,18,19,20,21,22,27,28,29,30,33,34,35,36] [],[(22,0,false),(21,0,true),(8,0,true),(9,0,true)]),(co 43 (.binOp .add 3 (.tmp 30) (.const (.int .i64 1)) 3) 3 [on 7,.v false [.lit (.int .i64 1)]] [0,1,2,3,4,5,6,7,8,9,10,11,14,15,16,17,18,19,20,21,31,32,37,38,39,40] [],[(21,0,false),(8,0,true),(9,0,true)]),(cla 44 93 [.v false [.lit (.int .i64 1)],.v false [.lit (.int .i64 16)]] [0,1,2,3,4,5,6,7,8,9,10,11],[(8,0,false),(9,0,true)]),(cla 45 96 [ag 4 4,ag 4 44] [0,1,2,3,4,5,6,7,8,9,10,11,44],[(8,0,false),(9,0,true)]),(cla 46 95 [on 0,ag 6 6] [0,1,2,3,4,5,6,7,8,9,12,13],[(8,0,true),(9,0,false)]),(cla 47 93 [.v false [.lit (.int .i64 1)],.v false [.lit (.int .i64 16)]] [0,1,2,3,4,5,6,7,8,9,12,13],[(8,0,false),(9,0,false)]),(cla 48 96 [ag 4 4,ag 4 47] [0,1,2,3,4,5,6,7,8,9,12,13,47],[(8,0,false),(9,0,false)]),(co 49 (.binOp .add 3 (.tmp 18) (.const (.int .i64 1)) 3) 3 [on 3,.v false [.lit (.int .i64 1)]] [0,1,2,3,4,5,6,7,8,9,10,11,44,45] [],[(8,0,false),(9,0,true)]),(co 50 (.binOp .add 3 (.tmp 18) (.const (.int .i64 1)) 3) 3 [on 3,.v false [.lit (.int .i64 1)]] [0,1,2,3,4,5,6,7,8,9,12,13,47,48] [],[(8,0,false),(9,0,false)])]) (js:=[.loop false 3 [(3,.v false [.lit (.int .i64 0)]),(4,ag 4 2)] (List.range 3) [],.loop false 7 [(7,.v false [.lit (.int .i64 0)]),(8,.v false [.lit (.bool true)])] (List.range 7) [],.ghost 9 (List.range 9) [],.test 8 0 (List.range 12) [(9,0,true)],.ghost 21 [0,1,2,3,4,5,6,7,8,9,10,11,14,15,16,17,18,19,20] [(8,0,true),(9,0,true)],.ghost 22 [0,1,2,3,4,5,6,7,8,9,10,11,14,15,16,17,18,19,20,21] [(21,0,true),(8,0,true),(9,0,true)],.loop true 7 [(7,on 41),(8,.v false [.lit (.bool true)])] [0,1,2,3,4,5,6,7,8,9,10,11,14,15,16,17,18,19,20,21,22,23,24,25,26,41] [(22,0,true),(21,0,true),(8,0,true),(9,0,true)],.loop true 7 [(7,on 42),(8,on 36)] [0,1,2,3,4,5,6,7,8,9,10,11,14,15,16,17,18,19,20,21,22,27,28,29,30,33,34,35,36,42] [(22,0,false),(21,0,true),(8,0,true),(9,0,true)],.loop true 7 [(7,on 43),(8,on 40)] [0,1,2,3,4,5,6,7,8,9,10,11,14,15,16,17,18,19,20,21,31,32,37,38,39,40,43] [(21,0,false),(8,0,true),(9,0,true)],.test 8 0 [0,1,2,3,4,5,6,7,8,9,12,13] [(9,0,false)],.loop true 3 [(3,on 49),(4,ag 4 45)] [0,1,2,3,4,5,6,7,8,9,10,11,44,45,49] [(8,0,false),(9,0,true)],.loop true 3 [(3,on 50),(4,ag 4 48)] [0,1,2,3,4,5,6,7,8,9,12,13,47,48,50] [(8,0,false),(9,0,false)]]) (outs:=[⟨on 46,[0,1,2,3,4,5,6,7,8,9,12,13,46],[(8,0,true),(9,0,false)],[],[]⟩]) (nc:=51) (by kernel_rfl)
  (fun k=>⟨fun σ W g h hp hb=>dT W 1 2 (by omega) (by omega) (by omega) (by omega),
  fun σ W g h hp hb=>fun ρ o ho _ hv=>by
   have k1:k.1<=40:=(h 3 rfl).2
   exact ⟨_,fC (P:=Tryz.prog) ho ((A0 hv).1.trans (h 3 rfl).1) (A0 hv).2 (decide_eq_true (by omega)),rfl⟩,
  fun σ W g h hp hb=>by
   have k1:k.1<=40:=(h 3 rfl).2
   exact rHStep_any W _ _ a b (ptk k.1) 5 13 (h 1 rfl) (h 4 rfl) (by omega) (by omega) ba bb za zb (eV k1),
  fun σ W g h hp hb=>fun ρ o ho _ hv=>⟨_,bK (h 0 rfl).1 ho (D3 hv) ⟨34,by kernel_rfl⟩,rfl⟩,
  fun σ W g h hp hb=>fun ρ o ho _ hv=>⟨_,fC (P:=Tryz.prog) ho ((A0 hv).1.trans (h 7 rfl).1) ((A0 hv).2.trans (h 10 rfl)) (by have:=of_decide_eq_true (vBx (h 9 rfl) (hp 9 0 true rfl));exact decide_eq_true (by omega)),rfl⟩,
  fun σ W g h hp hb=>fun ρ o ho _ hv=>⟨_,bK (h 0 rfl).1 ho (D3 hv) ⟨34,by kernel_rfl⟩,rfl⟩,
  fun σ W g h hp hb=>fun ρ o ho _ hv=>⟨_,fC (P:=Tryz.prog) ho ((A0 hv).1.trans (h 7 rfl).1) ((A0 hv).2.trans (h 12 rfl)) (by have:=of_decide_eq_false (vBx (h 9 rfl) (hp 9 0 false rfl));exact decide_eq_false (by omega)),rfl⟩,
  fun σ W g h hp hb=>fun ρ o ho _ hv=>by
   have q:k.2<l.length:=of_decide_eq_true (vBx (h 9 rfl) (hp 9 0 true rfl))
   obtain ⟨u,h1,h2,h3⟩:=gS (P:=Tryz.prog) (h 0 rfl).1 ho (A0 hv).1 (k.2) _ rfl q ((A0 hv).2.trans (h 7 rfl).1)
   exact ⟨u,h1,h2,fun q hq=>⟨0,rfl,h3 q hq⟩⟩,
  fun σ W g h hp hb=>fun ρ o ho _ hv=>cP (h 14 rfl) ho (D3 hv),
  fun σ W g h hp hb=>fun ρ o ho _ hv=>by
   have q:k.2<l.length:=of_decide_eq_true (vBx (h 9 rfl) (hp 9 0 true rfl))
   exact ⟨_,C5 ho ((A0 hv).1.trans (h 7 rfl).1) (A0 hv).2 (K9 (by omega) (by omega)),rfl⟩,
  fun σ W g h hp hb=>fun ρ o ho _ hv=>⟨_,bK (h 0 rfl).1 ho (D3 hv) ⟨34,by kernel_rfl⟩,rfl⟩,
  fun σ W g h hp hb=>fun ρ o ho _ hv=>by
   have q:k.2<l.length:=of_decide_eq_true (vBx (h 9 rfl) (hp 9 0 true rfl))
   exact ⟨_,rE ho ((A0 hv).1.trans (h 16 rfl)) ((A0 hv).2.trans (h 17 rfl)) (by omega) (by omega) (by omega),congrArg (Value.int .i64) (by push_cast;rfl)⟩,
  fun σ W g h hp hb=>fun ρ o ho _ hv=>by
   have q:k.2<l.length:=of_decide_eq_true (vBx (h 9 rfl) (hp 9 0 true rfl))
   obtain ⟨u,h1,h2,h3⟩:=gS (P:=Tryz.prog) (h 0 rfl).1 ho (A0 hv).1 ((k.2+1)%l.length) _ rfl (Nat.mod_lt _ (by omega)) ((A0 hv).2.trans (h 18 rfl))
   exact ⟨u,h1,h2,fun q hq=>⟨0,rfl,h3 q hq⟩⟩,
  fun σ W g h hp hb=>fun ρ o ho _ hv=>cP (h 19 rfl) ho (D3 hv),
  fun σ W g h hp hb=>by
   have q:k.2<l.length:=of_decide_eq_true (vBx (h 9 rfl) (hp 9 0 true rfl))
   have a0:=hl _ (F6 (l:=l) (k:=k.2) (by omega))
   have a1:=hl _ (F6 (l:=l) (k:=(k.2+1)%l.length) (Nat.mod_lt _ (by omega)))
   exact (H7 W _ _ _ a b _ 5 (hs1 (h 1 rfl)) (hs2 (h 1 rfl)) (h 15 rfl) (by omega) ba bb a0.1 za zb a0.2).mono fun _ _ ⟨a,g⟩=>⟨_,a,rfl,g⟩,
  fun σ W g h hp hb=>fun ρ o ho _ hv=>⟨_,D7 true ho ((A0 hv).1.trans (h 23 rfl)) (A0 hv).2 (decide_eq_true (of_decide_eq_true (vBx (h 21 rfl) (hp 21 0 true rfl)))),rfl⟩,
  fun σ W g h hp hb=>by
   have q:k.2<l.length:=of_decide_eq_true (vBx (h 9 rfl) (hp 9 0 true rfl))
   have a0:=hl _ (F6 (l:=l) (k:=k.2) (by omega))
   have a1:=hl _ (F6 (l:=l) (k:=(k.2+1)%l.length) (Nat.mod_lt _ (by omega)))
   exact (H7 W _ _ _ a b _ 5 (hs1 (h 1 rfl)) (hs2 (h 1 rfl)) (h 20 rfl) (by omega) ba bb a1.1 za zb a1.2).mono fun _ _ ⟨a,g⟩=>⟨_,a,rfl,g⟩,
  fun σ W g h hp hb=>fun ρ o ho _ hv=>⟨_,D7 true ho ((A0 hv).1.trans (h 25 rfl)) (A0 hv).2 (decide_eq_true (of_decide_eq_true (vBx (h 22 rfl) (hp 22 0 true rfl)))),rfl⟩,
  fun σ W g h hp hb=>by
   have q:k.2<l.length:=of_decide_eq_true (vBx (h 9 rfl) (hp 9 0 true rfl))
   have a0:=hl _ (F6 (l:=l) (k:=k.2) (by omega))
   have a1:=hl _ (F6 (l:=l) (k:=(k.2+1)%l.length) (Nat.mod_lt _ (by omega)))
   exact (H7 W _ _ _ a b _ 5 (hs1 (h 1 rfl)) (hs2 (h 1 rfl)) (h 15 rfl) (by omega) ba bb a0.1 za zb a0.2).mono fun _ _ ⟨a,g⟩=>⟨_,a,rfl,g⟩,
  fun σ W g h hp hb=>fun ρ o ho _ hv=>⟨_,D7 true ho ((A0 hv).1.trans (h 27 rfl)) (A0 hv).2 (decide_eq_true (of_decide_eq_true (vBx (h 21 rfl) (hp 21 0 true rfl)))),rfl⟩,
  fun σ W g h hp hb=>by
   have q:k.2<l.length:=of_decide_eq_true (vBx (h 9 rfl) (hp 9 0 true rfl))
   have a0:=hl _ (F6 (l:=l) (k:=k.2) (by omega))
   have a1:=hl _ (F6 (l:=l) (k:=(k.2+1)%l.length) (Nat.mod_lt _ (by omega)))
   exact (H7 W _ _ _ a b _ 5 (hs1 (h 1 rfl)) (hs2 (h 1 rfl)) (h 20 rfl) (by omega) ba bb a1.1 za zb a1.2).mono fun _ _ ⟨a,g⟩=>⟨_,a,rfl,g⟩,
  fun σ W g h hp hb=>fun ρ o ho _ hv=>⟨_,D7 false ho ((A0 hv).1.trans (h 29 rfl)) (A0 hv).2 (decide_eq_false (of_decide_eq_false (vBx (h 22 rfl) (hp 22 0 false rfl)))),rfl⟩,
  fun σ W g h hp hb=>by
   have q:k.2<l.length:=of_decide_eq_true (vBx (h 9 rfl) (hp 9 0 true rfl))
   have a0:=hl _ (F6 (l:=l) (k:=k.2) (by omega))
   have a1:=hl _ (F6 (l:=l) (k:=(k.2+1)%l.length) (Nat.mod_lt _ (by omega)))
   exact (H7 W _ _ _ a b _ 5 (hs1 (h 1 rfl)) (hs2 (h 1 rfl)) (h 15 rfl) (by omega) ba bb a0.1 za zb a0.2).mono fun _ _ ⟨a,g⟩=>⟨_,a,rfl,g⟩,
  fun σ W g h hp hb=>fun ρ o ho _ hv=>⟨_,D7 false ho ((A0 hv).1.trans (h 31 rfl)) (A0 hv).2 (decide_eq_false (of_decide_eq_false (vBx (h 21 rfl) (hp 21 0 false rfl)))),rfl⟩,
  fun σ W g h hp hb=>cF W _ a b 5 (h 1 rfl) (by omega) ba bb,
  fun σ W g h hp hb=>by
   have k1:k.1<=40:=(h 3 rfl).2
   have q:k.2<l.length:=of_decide_eq_true (vBx (h 9 rfl) (hp 9 0 true rfl))
   have a0:=hl _ (F6 (l:=l) (k:=k.2) (by omega))
   have a1:=hl _ (F6 (l:=l) (k:=(k.2+1)%l.length) (Nat.mod_lt _ (by omega)))
   have hst:=cO (E:=5) (by omega) ba bb za zb (eV k1)
   exact toHm (lO W _ _ (N2 a b) (K0 a b (ptk k.1)) (hg l k.2) (hg l ((k.2+1)%l.length)) 74 (gJ (h 33 rfl) (h 6 rfl)) (gJ (h 15 rfl) (h 20 rfl)) (by omega) (hbm bm (by omega)) (hbm hst.1 (by omega)) (hbm a0.1 (by omega)) (hbm a1.1 (by omega)) (P9 za zb) hst.2.1 a0.2 a1.2),
  fun σ W g h hp hb=>fun ρ o ho _ hv=>⟨_,hm_len (h 34 rfl) ho (D3 hv) ⟨34,by kernel_rfl⟩,rfl⟩,
  fun σ W g h hp hb=>fun ρ o ho _ hv=>⟨_,D7 _ ho ((A0 hv).1.trans (h 35 rfl)) (A0 hv).2 (decide_eq_decide.2 (by omega)),rfl⟩,
  fun σ W g h hp hb=>cF W _ a b 5 (h 1 rfl) (by omega) ba bb,
  fun σ W g h hp hb=>by
   have k1:k.1<=40:=(h 3 rfl).2
   have q:k.2<l.length:=of_decide_eq_true (vBx (h 9 rfl) (hp 9 0 true rfl))
   have a0:=hl _ (F6 (l:=l) (k:=k.2) (by omega))
   have a1:=hl _ (F6 (l:=l) (k:=(k.2+1)%l.length) (Nat.mod_lt _ (by omega)))
   have hst:=cO (E:=5) (by omega) ba bb za zb (eV k1)
   exact toHm (lO W _ _ (N2 a b) (K0 a b (ptk k.1)) (hg l k.2) (hg l ((k.2+1)%l.length)) 74 (gJ (h 37 rfl) (h 6 rfl)) (gJ (h 15 rfl) (h 20 rfl)) (by omega) (hbm bm (by omega)) (hbm hst.1 (by omega)) (hbm a0.1 (by omega)) (hbm a1.1 (by omega)) (P9 za zb) hst.2.1 a0.2 a1.2),
  fun σ W g h hp hb=>fun ρ o ho _ hv=>⟨_,hm_len (h 38 rfl) ho (D3 hv) ⟨34,by kernel_rfl⟩,rfl⟩,
  fun σ W g h hp hb=>fun ρ o ho _ hv=>⟨_,D7 _ ho ((A0 hv).1.trans (h 39 rfl)) (A0 hv).2 (decide_eq_decide.2 (by omega)),rfl⟩,
  fun σ W g h hp hb=>fun ρ o ho _ hv=>by
   have q:k.2<l.length:=of_decide_eq_true (vBx (h 9 rfl) (hp 9 0 true rfl))
   exact ⟨_,C5 ho ((A0 hv).1.trans (h 7 rfl).1) (A0 hv).2 (K9 (by omega) (by omega)),rfl⟩,
  fun σ W g h hp hb=>fun ρ o ho _ hv=>by
   have q:k.2<l.length:=of_decide_eq_true (vBx (h 9 rfl) (hp 9 0 true rfl))
   exact ⟨_,C5 ho ((A0 hv).1.trans (h 7 rfl).1) (A0 hv).2 (K9 (by omega) (by omega)),rfl⟩,
  fun σ W g h hp hb=>fun ρ o ho _ hv=>by
   have q:k.2<l.length:=of_decide_eq_true (vBx (h 9 rfl) (hp 9 0 true rfl))
   exact ⟨_,C5 ho ((A0 hv).1.trans (h 7 rfl).1) (A0 hv).2 (K9 (by omega) (by omega)),rfl⟩,
  fun σ W g h hp hb=>dT W 1 16 (by omega) (by omega) (by omega) (by omega),
  fun σ W g h hp hb=>by
   have k1:k.1<=40:=(h 3 rfl).2
   exact dE W _ _ (ptk k.1) (1,16) 13 (h 4 rfl) (h 44 rfl) (by omega) (eV k1) ⟨by decide,by unfold D;decide,by unfold D;decide⟩,
  fun σ W g h hp hb=>by
   have k1:k.1<=40:=(h 3 rfl).2
   have hst:=cO (E:=5) (by omega) ba bb za zb (eV k1)
   exact toAr (rI W _ _ l (K0 a b (ptk k.1)) 74 (h 0 rfl).1 (h 6 rfl) (by omega) hn (fun p hp=>⟨hbm (hl p hp).1 (by omega),(hl p hp).2⟩) (hbm hst.1 (by omega)) hst.2.1),
  fun σ W g h hp hb=>dT W 1 16 (by omega) (by omega) (by omega) (by omega),
  fun σ W g h hp hb=>by
   have k1:k.1<=40:=(h 3 rfl).2
   exact dE W _ _ (ptk k.1) (1,16) 13 (h 4 rfl) (h 47 rfl) (by omega) (eV k1) ⟨by decide,by unfold D;decide,by unfold D;decide⟩,
  fun σ W g h hp hb=>fun ρ o ho _ hv=>by
   have k1:k.1<=40:=(h 3 rfl).2
   exact ⟨_,C5 ho ((A0 hv).1.trans (h 3 rfl).1) (A0 hv).2 (K9 (by omega) (by omega)),rfl⟩,
  fun σ W g h hp hb=>fun ρ o ho _ hv=>by
   have k1:k.1<=40:=(h 3 rfl).2
   exact ⟨_,C5 ho ((A0 hv).1.trans (h 3 rfl).1) (A0 hv).2 (K9 (by omega) (by omega)),rfl⟩,
  trivial⟩)
  (fun k=>⟨fun σ W g h hp=>⟨(0,0),(fun e=>nomatch e),⟨rfl,fun m hm=>(by show (if m=3 then _ else if m=7 then _ else 0)=(if m=3 then _ else if m=7 then _ else 0);rw [if_neg (by omega),if_neg (by omega),if_neg (by omega),if_neg (by omega)])⟩,⟨rfl,Nat.zero_le _⟩,h 2 rfl,trivial⟩,
  fun σ W g h hp=>⟨(k.1,0),(fun e=>nomatch e),⟨rfl,fun m hm=>(by
        show (if m=3 then _ else if m=7 then _ else 0)=(if m=3 then _ else if m=7 then _ else 0)
        by_cases e:m=3
        · rw [if_pos e,if_pos e]
        · rw [if_neg e,if_neg (by omega),if_neg e,if_neg (by omega)])⟩,⟨rfl,Nat.zero_le _⟩,congrArg Value.bool (O0 (fun j hj=>absurd hj (Nat.not_lt_zero j))).symm,trivial⟩,
  fun σ W g h hp=>⟨rfl,_,rfl⟩,
  fun σ W g h hp=>⟨_,h 8 rfl⟩,
  fun σ W g h hp=>⟨rfl,_,rfl⟩,
  fun σ W g h hp=>⟨rfl,_,rfl⟩,
  fun σ W g h hp=>by
   have q:k.2<l.length:=of_decide_eq_true (vBx (h 9 rfl) (hp 9 0 true rfl))
   have hfk:L8 (l.map rp) (rp a) (rp b) (fv (ptk k.1)) k.2:=jI (vBx (h 8 rfl) (hp 8 0 true rfl))
   have hnx:=hZ hfk
   rw [<- aP l k.2 (by omega), <- bL l k.2 (by omega)] at hnx
   exact ⟨(k.1,k.2+1),fun _=>by show (if 7=3 then 300-k.1 else if 7=7 then l.length-(k.2+1) else 0)<(if 7=3 then 300-k.1 else if 7=7 then l.length-k.2 else 0);rw [if_neg (by decide),if_pos rfl,if_neg (by decide),if_pos rfl];omega,⟨rfl,fun m hm=>(by
    show (if m=3 then _ else if m=7 then _ else 0)=(if m=3 then _ else if m=7 then _ else 0)
    by_cases e:m=3
    · rw [if_pos e,if_pos e]
    · rw [if_neg e,if_neg (by omega),if_neg e,if_neg (by omega)])⟩,⟨(h 41 rfl).trans (by push_cast;rfl),by show k.2+1<=_;omega⟩,congrArg Value.bool (O0 (hnx.2 (.inr ⟨rsg_zero.1 (of_decide_eq_true (vBx (h 21 rfl) (hp 21 0 true rfl))),rsg_zero.1 (of_decide_eq_true (vBx (h 22 rfl) (hp 22 0 true rfl)))⟩))).symm,trivial⟩,
  fun σ W g h hp=>by
   have q:k.2<l.length:=of_decide_eq_true (vBx (h 9 rfl) (hp 9 0 true rfl))
   have hfk:L8 (l.map rp) (rp a) (rp b) (fv (ptk k.1)) k.2:=jI (vBx (h 8 rfl) (hp 8 0 true rfl))
   have hnx:=hZ hfk
   rw [<- aP l k.2 (by omega), <- bL l k.2 (by omega)] at hnx
   have hsr:=(cO (E:=5) (by omega) ba bb za zb (eV (h 3 rfl).2)).2.2
   have hne:¬ (A4 (rp a) (rp b) (rp (hg l k.2))=0/\A4 (rp a) (rp b) (rp (hg l ((k.2+1)%l.length)))=0):=fun e=>of_decide_eq_false (vBx (h 22 rfl) (hp 22 0 false rfl)) (rsg_zero.2 e.2)
   have hbb:decide ((P7 (rp (N2 a b)) (rp (K0 a b (ptk k.1))) (rp (hg l k.2)) (rp (hg l ((k.2+1)%l.length)))).length=0)=dec (L8 (l.map rp) (rp a) (rp b) (fv (ptk k.1)) (k.2+1)):=by
    have hiff:(P7 (rp (N2 a b)) (rp (K0 a b (ptk k.1))) (rp (hg l k.2)) (rp (hg l ((k.2+1)%l.length)))).length=0 ↔ L8 (l.map rp) (rp a) (rp b) (fv (ptk k.1)) (k.2+1):=by
     rw [hnx,pT,aI za zb,hsr]
     exact ⟨fun e => .inl e,fun e=>e.resolve_right hne⟩
    by_cases e:L8 (l.map rp) (rp a) (rp b) (fv (ptk k.1)) (k.2+1)
    · rw [O0 e,decide_eq_true (hiff.2 e)]
    · rw [I1 e,decide_eq_false (fun x=>e (hiff.1 x))]
   exact ⟨(k.1,k.2+1),fun _=>by show (if 7=3 then 300-k.1 else if 7=7 then l.length-(k.2+1) else 0)<(if 7=3 then 300-k.1 else if 7=7 then l.length-k.2 else 0);rw [if_neg (by decide),if_pos rfl,if_neg (by decide),if_pos rfl];omega,⟨rfl,fun m hm=>(by
    show (if m=3 then _ else if m=7 then _ else 0)=(if m=3 then _ else if m=7 then _ else 0)
    by_cases e:m=3
    · rw [if_pos e,if_pos e]
    · rw [if_neg e,if_neg (by omega),if_neg e,if_neg (by omega)])⟩,⟨(h 42 rfl).trans (by push_cast;rfl),by show k.2+1<=_;omega⟩,(h 36 rfl).trans (congrArg Value.bool hbb),trivial⟩,
  fun σ W g h hp=>by
   have q:k.2<l.length:=of_decide_eq_true (vBx (h 9 rfl) (hp 9 0 true rfl))
   have hfk:L8 (l.map rp) (rp a) (rp b) (fv (ptk k.1)) k.2:=jI (vBx (h 8 rfl) (hp 8 0 true rfl))
   have hnx:=hZ hfk
   rw [<- aP l k.2 (by omega), <- bL l k.2 (by omega)] at hnx
   have hsr:=(cO (E:=5) (by omega) ba bb za zb (eV (h 3 rfl).2)).2.2
   have hne:¬ (A4 (rp a) (rp b) (rp (hg l k.2))=0/\A4 (rp a) (rp b) (rp (hg l ((k.2+1)%l.length)))=0):=fun e=>of_decide_eq_false (vBx (h 21 rfl) (hp 21 0 false rfl)) (rsg_zero.2 e.1)
   have hbb:decide ((P7 (rp (N2 a b)) (rp (K0 a b (ptk k.1))) (rp (hg l k.2)) (rp (hg l ((k.2+1)%l.length)))).length=0)=dec (L8 (l.map rp) (rp a) (rp b) (fv (ptk k.1)) (k.2+1)):=by
    have hiff:(P7 (rp (N2 a b)) (rp (K0 a b (ptk k.1))) (rp (hg l k.2)) (rp (hg l ((k.2+1)%l.length)))).length=0 ↔ L8 (l.map rp) (rp a) (rp b) (fv (ptk k.1)) (k.2+1):=by
     rw [hnx,pT,aI za zb,hsr]
     exact ⟨fun e => .inl e,fun e=>e.resolve_right hne⟩
    by_cases e:L8 (l.map rp) (rp a) (rp b) (fv (ptk k.1)) (k.2+1)
    · rw [O0 e,decide_eq_true (hiff.2 e)]
    · rw [I1 e,decide_eq_false (fun x=>e (hiff.1 x))]
   exact ⟨(k.1,k.2+1),fun _=>by show (if 7=3 then 300-k.1 else if 7=7 then l.length-(k.2+1) else 0)<(if 7=3 then 300-k.1 else if 7=7 then l.length-k.2 else 0);rw [if_neg (by decide),if_pos rfl,if_neg (by decide),if_pos rfl];omega,⟨rfl,fun m hm=>(by
    show (if m=3 then _ else if m=7 then _ else 0)=(if m=3 then _ else if m=7 then _ else 0)
    by_cases e:m=3
    · rw [if_pos e,if_pos e]
    · rw [if_neg e,if_neg (by omega),if_neg e,if_neg (by omega)])⟩,⟨(h 43 rfl).trans (by push_cast;rfl),by show k.2+1<=_;omega⟩,(h 40 rfl).trans (congrArg Value.bool hbb),trivial⟩,
  fun σ W g h hp=>⟨_,h 8 rfl⟩,
  fun σ W g h hp=>by
   have k1:k.1<=40:=(h 3 rfl).2
   have k2:k.2<=l.length:=(h 7 rfl).2
   have hnf:¬ L8 (l.map rp) (rp a) (rp b) (fv (ptk k.1)) k.2:=decNo (vBx (h 8 rfl) (hp 8 0 false rfl))
   have hk:k.1≠40:=fun e=>hnf (by rw [e];exact fun j hj=>h40 j (by omega))
   exact ⟨(k.1+1,0),fun _=>by show (if 3=3 then 300-(k.1+1) else if 3=7 then l.length-0 else 0)<(if 3=3 then 300-k.1 else if 3=7 then l.length-k.2 else 0);rw [if_pos rfl,if_pos rfl];omega,⟨rfl,fun m hm=>(by show (if m=3 then _ else if m=7 then _ else 0)=(if m=3 then _ else if m=7 then _ else 0);rw [if_neg (by omega),if_neg (by omega),if_neg (by omega),if_neg (by omega)])⟩,⟨(h 49 rfl).trans (by push_cast;rfl),by show k.1+1<=40;omega⟩,h 45 rfl,trivial⟩,
  fun σ W g h hp=>by
   have k1:k.1<=40:=(h 3 rfl).2
   have k2:k.2<=l.length:=(h 7 rfl).2
   have hnf:¬ L8 (l.map rp) (rp a) (rp b) (fv (ptk k.1)) k.2:=decNo (vBx (h 8 rfl) (hp 8 0 false rfl))
   have hk:k.1≠40:=fun e=>hnf (by rw [e];exact fun j hj=>h40 j (by omega))
   exact ⟨(k.1+1,0),fun _=>by show (if 3=3 then 300-(k.1+1) else if 3=7 then l.length-0 else 0)<(if 3=3 then 300-k.1 else if 3=7 then l.length-k.2 else 0);rw [if_pos rfl,if_pos rfl];omega,⟨rfl,fun m hm=>(by show (if m=3 then _ else if m=7 then _ else 0)=(if m=3 then _ else if m=7 then _ else 0);rw [if_neg (by omega),if_neg (by omega),if_neg (by omega),if_neg (by omega)])⟩,⟨(h 50 rfl).trans (by push_cast;rfl),by show k.1+1<=40;omega⟩,h 48 rfl,trivial⟩,
  trivial⟩)
  (fun k hk=>⟨fun τ W g h hp hb=>by
   have k1:k.1<=40:=(h 3 rfl).2
   have k2:k.2<=l.length:=(h 7 rfl).2
   have q:=of_decide_eq_false (vBx (h 9 rfl) (hp 9 0 false rfl))
   have hfk:L8 (l.map rp) (rp a) (rp b) (fv (ptk k.1)) k.2:=jI (vBx (h 8 rfl) (hp 8 0 true rfl))
   have hsr:=(cO (E:=5) (by omega) ba bb za zb (eV k1)).2.2
   refine ⟨(fv (ptk k.1)),rJ _,fun j hj=>hfk j (by omega), ?_,g⟩
   rw [<- hsr]
   exact congrArg Ending.returned (ar1 (h 46 rfl)),
  trivial⟩)
end Go.Proofs.YtamdnbbgpacfkaaGreatDoor
