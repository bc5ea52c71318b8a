/- What the laws lean on, part 16. -/
import Derived.Below
import Derived.BigCall
import Derived.BigQuiet
import Derived.BigRegion
import Derived.ChangeOld
import Derived.Deep.AppendLies
import Derived.Deep.CutBlock
import Derived.Deep.CutRange
import Derived.Deep.DeepCutAuto
import Derived.Deep.DeepHandedRow
import Derived.Deep.LoopGhost
import Derived.Deep.MidRow
import Derived.Deep.QuietTactic
import Derived.Deep.RegionHeld3
import Derived.Deep.RegionLaw
import Derived.Deep.Slices
import Derived.Deep.Strs
import Derived.Deep.WholeRow
import Derived.Laws.AppendOwn
import Derived.Laws.Concat
import Derived.Laws.CopyOwn
import Derived.Laws.Externs
import Derived.Laws.IdiomStrings
import Derived.Lib.BitFns
import Derived.Lib.Bytealg
import Derived.Lib.Hide
import Derived.Lib.LaidTab
import Derived.Lib.Slices
import Derived.Lib.Small
import Derived.Lib.Strings
import Derived.Lib.Walk
import Derived.LoopIn
import Derived.LoopN
import Derived.LoopNIn
import Derived.Maps.AppendAt
import Derived.OpenShut
import Derived.OrdersHeld
import Derived.OrdersIn
import Derived.Outline
import Derived.OwnWalk
import Derived.OwnWalkIn
import Derived.ProofKit
import Derived.RangeFuncBound
import Derived.RangeFuncCalls
import Derived.RangeFuncLeaves
import Derived.RangeFuncNested
import Derived.RangeFuncOwn
import Derived.Shelf.Abstract
import Derived.Shelf.Bits.Mul64
import Derived.Shelf.RegionOpen
import Derived.Shelf.Spec.TrailingZeros
import Derived.StillTailTactics
import Derived.TacticsInMore
import Derived.WalkKit
import Derived.WalkLawsBesides
import Derived.WalkSpells
import Derived.WideKeyArgs
import Derived.Test.YtamdnbbgpacfkaaDoorCards
import Derived.Test.YtamdnbbgpacfkaaDoorProg
import Derived.Test.YtamdnbbgpacfkaaDoorRows
import Derived.Test.YtamdnbbgpacfkaaDoorTie
import Derived.Test.YtamdnbbgpacfkaaDoorMe15
set_option linter.unusedVariables false
set_option linter.unusedSimpArgs false
set_option maxRecDepth 100000
namespace Go.Proofs.YtamdnbbgpacfkaaDoor
open Go.RowKit Mat Ex PM
def sRf (f s0:Nat) (m:Pq):Sp where
 sh := .fnp f
 F v W:=RayV f W v m /\ ∀ q,fpF v q->s0<=q
 fits v W h:=by obtain ⟨⟨q,u0,u1,u2,u3,u4,u5,u6,u7,rfl,_⟩,_⟩:=h;exact ⟨fun _ => .pointer (some ⟨q,0,none⟩),fun _=>rfl,rfl⟩
 row:=true
 fp v _ q:=fpF v q
 lasts v W W' k hq h:=⟨⟨h.1.keeps k hq,h.2⟩,fun _ h=>h⟩
 inb v W h q hq:=h.1.inb q hq
 flat h:=by cases h
theorem toRf {P:Program} {f:FuncId} {n:Nat} {args:Array Value} {W:World} {m:Pq} {old:Nat->Prop} {s0:Nat} (hs:s0<=W.heap.size) (h:Calls P f args W (bU n W m)):Calls P f args W (RetS W (sRf n s0 m) old):=
 h.mono fun _ _ ⟨q,u0,u1,u2,u3,u4,u5,u6,u7,a,h1,h2,h3,g⟩=>⟨_,a,⟨⟨q,u0,u1,u2,u3,u4,u5,u6,u7,rfl,h1,h2⟩,fun q' hq=>by obtain ⟨f',e⟩:=hq;cases e;omega⟩,g,fun q' hq => .inl (by obtain ⟨f',e⟩:=hq;cases e;exact h3)⟩
def sZZ (a b:Int):Sp := .of (.tup [(none,0),(none,0)]) (fun v _=>v = .tuple #[.int .i64 a,.int .i64 b]) (fun v W h=>Y4 (u := .bool true) (cs:=[.int .i64 a,.int .i64 b]) (by simp [Value.oneCell']) h) (fun _ _ _ _ h=>h)
theorem szz1 {a b:Int} {u v:Value} {W:World} : (sZZ a b).F (.tuple #[u,v]) W->u = .int .i64 a:=fun h=>by cases h;rfl
theorem szz2 {a b:Int} {u v:Value} {W:World} : (sZZ a b).F (.tuple #[u,v]) W->v = .int .i64 b:=fun h=>by cases h;rfl
theorem toSZZ {P:Program} {f:FuncId} {args:Array Value} {W:World} {a b:Int} (h:Calls P f args W (fun e w'=>e = .returned (.tuple #[.int .i64 a,.int .i64 b])/\W.grownBy w' none)):Calls P f args W (Ret W (sZZ a b).F):=h.mono fun _ _ ⟨a,g⟩=>⟨_,a,rfl,g⟩
def besR (lf:Pq->Int) (m b:Pq) (l:List Pq):Int × Int:=if 0<lf b then (cyL (ahd lf m) l+cyL (thr lf m) l,cyL (ahd lf m) l) else (cyL (ahd lf m) l,cyL (ahd lf m) l+cyL (thr lf m) l)
def bes (l:List Pq) (a b:Pq):Int × Int:=if H6 a b=0 then (0,0) else if G4 a.2 b.2=0 then besR (upr (H7 a b)) (H7 a b) b l else besR (lvl (H7 a b)) (H7 a b) b l
theorem cy_b {f:Pq->Pq->Int} (hf:∀ a b, -1<=f a b/\f a b<=1) (l:List Pq) : -(l.length:Int)<=cyL f l/\cyL f l<=l.length:=by
 rw [<- qT]
 have:∀ k:Nat, -(k:Int)<=upS f l k/\upS f l k<=k:=by
  intro k
  induction k with
  | zero=>exact ⟨Int.le_refl _,Int.le_refl _⟩
  | succ k ih=>
    have:=hf (pt0 l k) (nxt l k)
    show -((k+1:Nat):Int)<=upS f l k+f (pt0 l k) (nxt l k)/\upS f l k+f (pt0 l k) (nxt l k)<=((k+1:Nat):Int)
    omega
 exact this l.length
theorem vBy {v:Value} {a b:Bool} (h:v = .bool a) (h2:v = .bool b):a=b:=by rw [h] at h2;exact Value.bool.inj h2
theorem WBeside_any (w:World) (va vb:Value) (l:List Pq) (a b:Pq) (K:Nat) (Ha:PtsV w va l) (Hb:SgV w vb a b) (hK : 1<=K/\K<=2000) (hn:l.length<=200) (hbd:∀ p ∈ l,Bp K p) (ba:Bp K a) (bb:Bp K b) (hTab:Tab w) :
 Calls Tryd.prog 42 #[va,vb] w (fun e w'=>e = .returned (.tuple #[.int .i64 (bes l a b).1,.int .i64 (bes l a b).2])/\w.grownBy w' none):=by
 have bm:=ba.mid bb hK.1
 have hbd':∀ p ∈ l,Bp (4*K+2) p:=fun p hp=>(hbd p hp).mono (by omega)
 rcases (show H6 a b=0\/(H6 a b≠0/\G4 a.2 b.2=0)\/(H6 a b≠0/\G4 a.2 b.2≠0) by omega) with h0 | ⟨h0,h1⟩ | ⟨h0,h1⟩
 · skip
   unfold bes
   rw [if_pos h0]
   refine A6 B3 Tryd.func42 [eR 0 l,sSg a b] [sZ (H6 a b),sV (.bool true)] (.cons ⟨Ha,fun _ _=>Nat.zero_le _⟩ (.cons Hb .nil)) (rs:=[cl 2 48 [ag 8 1,.v true [.an 1 8,.an 1 9,.an 1 10,.an 1 11,.an 1 12,.an 1 13,.an 1 14,.an 1 15]],co 3 (.binOp .eql 3 (.tmp 14) (.const (.int .i64 0)) 3) 4 [on 2,.v false [.lit (.int .i64 0)]] [0,1,2] []]) (out := .tup [(false,[.lit (.int .i64 0)]),(false,[.lit (.int .i64 0)])]) (nc:=4) (by kernel_rfl)
    ⟨fun σ W g h hb=>toZ (D6 W _ _ a b K (sg1 (h 1 rfl)) (sg2 (h 1 rfl)) (by omega) ba bb) rfl,
    fun σ W g h hb=>fun ρ o ho _ hv=>⟨_,C8 true ho ((A1 hv).1.trans (h 2 rfl)) (A1 hv).2 (decide_eq_true h0),rfl⟩,
    trivial⟩ fun τ W g h=>⟨rfl,g⟩
 · skip
   unfold bes
   rw [if_neg h0,if_pos h1]
   have b1:=cy_b (ahd_b (upr (H7 a b)) (H7 a b)) l
   have b2:=cy_b (thr_b (upr (H7 a b)) (H7 a b)) l
   refine bI B3 Tryd.func42 [eR 0 l,sSg a b] [sZ (H6 a b),sV (.bool false),sPt (H7 a b),sRf 112 0 (H7 a b),sZZ (cyL (ahd (upr (H7 a b)) (H7 a b)) l) (cyL (thr (upr (H7 a b)) (H7 a b)) l),sZ (upr (H7 a b) b),sC (.bool (decide (0<upr (H7 a b) b))) rfl,sZ (cyL (ahd (upr (H7 a b)) (H7 a b)) l+cyL (thr (upr (H7 a b)) (H7 a b)) l),sZ (cyL (ahd (upr (H7 a b)) (H7 a b)) l+cyL (thr (upr (H7 a b)) (H7 a b)) l)] [] [] (.cons ⟨Ha,fun _ _=>Nat.zero_le _⟩ (.cons Hb .nil)) (rs:=[(cl 2 48 [ag 8 1,.v true [.an 1 8,.an 1 9,.an 1 10,.an 1 11,.an 1 12,.an 1 13,.an 1 14,.an 1 15]],[]),(co 3 (.binOp .eql 3 (.tmp 14) (.const (.int .i64 0)) 3) 4 [on 2,.v false [.lit (.int .i64 0)]] [0,1,2] [],[]),(cl 4 73 [ag 16 1],[]),(cl 5 74 [ag 16 1,ag 8 4],[]),(cl 6 40 [on 0,ag 8 4,.fn 112 [.an 5 0]],[]),(cl 7 112 [.v true [.an 1 8,.an 1 9,.an 1 10,.an 1 11,.an 1 12,.an 1 13,.an 1 14,.an 1 15],on 5],[]),(co 8 (.binOp .gtr 3 (.tmp 31) (.const (.int .i64 0)) 3) 4 [on 7,.v false [.lit (.int .i64 0)]] [0,1,2,3,4,5,6,7] [],[]),(co 9 (.binOp .add 3 (.tmp 33) (.tmp 34) 3) 3 [on 6,.v false [.an 6 1]] [0,1,2,3,4,5,6,7,8] [],[(8,0,true)]),(co 10 (.binOp .add 3 (.tmp 38) (.tmp 39) 3) 3 [on 6,.v false [.an 6 1]] [0,1,2,3,4,5,6,7,8] [],[(8,0,false)])]) (js:=[.test 8 0 (List.range 9) []]) (outs:=[⟨.tup [(false,[.an 9 0]),(false,[.an 6 0])],(List.range 10),[(8,0,true)],[],[]⟩,⟨.tup [(false,[.an 6 0]),(false,[.an 10 0])],[0,1,2,3,4,5,6,7,8,10],[(8,0,false)],[],[]⟩]) (nc:=11) (by kernel_rfl)
    ⟨fun σ W g h hp hb=>toZ (D6 W _ _ a b K (sg1 (h 1 rfl)) (sg2 (h 1 rfl)) (by omega) ba bb) rfl,
    fun σ W g h hp hb=>fun ρ o ho _ hv=>⟨_,C8 false ho ((A1 hv).1.trans (h 2 rfl)) (A1 hv).2 (decide_eq_false h0),rfl⟩,
    fun σ W g h hp hb=>iX W _ a b K (h 1 rfl) (by omega) ba bb (hTab.kept g (by simp)),
    fun σ W g h hp hb=>toRf (Nat.zero_le _) (sM W _ _ a b _ K (h 1 rfl) (h 4 rfl) (by omega) ba bb h1),
    fun σ W g h hp hb=>by
     obtain ⟨⟨q,u0,u1,u2,u3,u4,u5,u6,u7,e1,e2,e3⟩,e9⟩:=h 5 rfl
     have e1:Value.func (.func 112) #[] #[σ.an 5 0]=_:=e1
     have e1 : σ.an 5 0 = .pointer (some ⟨q,0,none⟩):=by simpa using e1
     have e4:PtsV W (σ.an 0 0) l:=(h 0 rfl).1
     show Calls _ _ #[σ.an 0 0,.agg #[σ.an 4 0, σ.an 4 1, σ.an 4 2, σ.an 4 3, σ.an 4 4, σ.an 4 5, σ.an 4 6, σ.an 4 7],.func (.func 112) #[] #[σ.an 5 0]] W _
     rw [e1]
     exact toSZZ (WCrossU_any W _ q _ _ _ _ _ _ _ _ u0 u1 u2 u3 u4 u5 u6 u7 l (H7 a b) (4*K+2) e4 (h 4 rfl) e2 e3 (by omega) (by omega) hbd' bm (hTab.kept g (by simp)) (by obtain ⟨s,n,c,e,_⟩:=e4;rw [e];rfl)),
    fun σ W g h hp hb=>by
     obtain ⟨⟨q,u0,u1,u2,u3,u4,u5,u6,u7,e1,e2,e3⟩,e9⟩:=h 5 rfl
     have e1:Value.func (.func 112) #[] #[σ.an 5 0]=_:=e1
     have e1 : σ.an 5 0 = .pointer (some ⟨q,0,none⟩):=by simpa using e1
     show Calls _ _ #[_, σ.an 5 0] W _
     rw [e1]
     exact toZ (W8 W _ q u0 u1 u2 u3 u4 u5 u6 u7 b (H7 a b) (4*K+2) (sg2 (h 1 rfl)) e2 e3 (by omega) (bb.mono (by omega)) bm) rfl,
    fun σ W g h hp hb=>fun ρ o ho _ hv=>⟨_,E9 _ ho ((A1 hv).1.trans (h 7 rfl)) (A1 hv).2 rfl,rfl⟩,
    fun σ W g h hp hb=>fun ρ o ho _ hv=>⟨_,B7 ho ((A1 hv).1.trans (szz1 (h 6 rfl))) ((A1 hv).2.trans (szz2 (h 6 rfl))) (M3 (by omega) (by omega)),rfl⟩,
    fun σ W g h hp hb=>fun ρ o ho _ hv=>⟨_,B7 ho ((A1 hv).1.trans (szz1 (h 6 rfl))) ((A1 hv).2.trans (szz2 (h 6 rfl))) (M3 (by omega) (by omega)),rfl⟩,
    trivial⟩
    ⟨fun σ W g h hp=>⟨_,h 8 rfl⟩,
    trivial⟩
    ⟨fun τ W g h hp hb=>by
     have q:=of_decide_eq_true (vBy (h 8 rfl) (hp 8 0 true rfl))
     refine ⟨?_,g⟩
     unfold besR
     rw [if_pos q]
     have e1 : τ.an 9 0=_:=h 9 rfl
     have e2 : τ.an 6 0=_:=szz1 (h 6 rfl)
     show Ending.returned (.tuple #[τ.an 9 0, τ.an 6 0])=_
     rw [e1,e2],
    fun τ W g h hp hb=>by
     have q:=of_decide_eq_false (vBy (h 8 rfl) (hp 8 0 false rfl))
     refine ⟨?_,g⟩
     unfold besR
     rw [if_neg q]
     have e1 : τ.an 10 0=_:=h 10 rfl
     have e2 : τ.an 6 0=_:=szz1 (h 6 rfl)
     show Ending.returned (.tuple #[τ.an 6 0, τ.an 10 0])=_
     rw [e1,e2],
    trivial⟩
 · skip
   unfold bes
   rw [if_neg h0,if_neg h1]
   have b1:=cy_b (ahd_b (lvl (H7 a b)) (H7 a b)) l
   have b2:=cy_b (thr_b (lvl (H7 a b)) (H7 a b)) l
   refine bI B3 Tryd.func42 [eR 0 l,sSg a b] [sZ (H6 a b),sV (.bool false),sPt (H7 a b),sRf 72 0 (H7 a b),sZZ (cyL (ahd (lvl (H7 a b)) (H7 a b)) l) (cyL (thr (lvl (H7 a b)) (H7 a b)) l),sZ (lvl (H7 a b) b),sC (.bool (decide (0<lvl (H7 a b) b))) rfl,sZ (cyL (ahd (lvl (H7 a b)) (H7 a b)) l+cyL (thr (lvl (H7 a b)) (H7 a b)) l),sZ (cyL (ahd (lvl (H7 a b)) (H7 a b)) l+cyL (thr (lvl (H7 a b)) (H7 a b)) l)] [] [] (.cons ⟨Ha,fun _ _=>Nat.zero_le _⟩ (.cons Hb .nil)) (rs:=[(cl 2 48 [ag 8 1,.v true [.an 1 8,.an 1 9,.an 1 10,.an 1 11,.an 1 12,.an 1 13,.an 1 14,.an 1 15]],[]),(co 3 (.binOp .eql 3 (.tmp 14) (.const (.int .i64 0)) 3) 4 [on 2,.v false [.lit (.int .i64 0)]] [0,1,2] [],[]),(cl 4 73 [ag 16 1],[]),(cl 5 74 [ag 16 1,ag 8 4],[]),(cl 6 40 [on 0,ag 8 4,.fn 72 [.an 5 0]],[]),(cl 7 72 [.v true [.an 1 8,.an 1 9,.an 1 10,.an 1 11,.an 1 12,.an 1 13,.an 1 14,.an 1 15],on 5],[]),(co 8 (.binOp .gtr 3 (.tmp 31) (.const (.int .i64 0)) 3) 4 [on 7,.v false [.lit (.int .i64 0)]] [0,1,2,3,4,5,6,7] [],[]),(co 9 (.binOp .add 3 (.tmp 33) (.tmp 34) 3) 3 [on 6,.v false [.an 6 1]] [0,1,2,3,4,5,6,7,8] [],[(8,0,true)]),(co 10 (.binOp .add 3 (.tmp 38) (.tmp 39) 3) 3 [on 6,.v false [.an 6 1]] [0,1,2,3,4,5,6,7,8] [],[(8,0,false)])]) (js:=[.test 8 0 (List.range 9) []]) (outs:=[⟨.tup [(false,[.an 9 0]),(false,[.an 6 0])],(List.range 10),[(8,0,true)],[],[]⟩,⟨.tup [(false,[.an 6 0]),(false,[.an 10 0])],[0,1,2,3,4,5,6,7,8,10],[(8,0,false)],[],[]⟩]) (nc:=11) (by kernel_rfl)
    ⟨fun σ W g h hp hb=>toZ (D6 W _ _ a b K (sg1 (h 1 rfl)) (sg2 (h 1 rfl)) (by omega) ba bb) rfl,
    fun σ W g h hp hb=>fun ρ o ho _ hv=>⟨_,C8 false ho ((A1 hv).1.trans (h 2 rfl)) (A1 hv).2 (decide_eq_false h0),rfl⟩,
    fun σ W g h hp hb=>iX W _ a b K (h 1 rfl) (by omega) ba bb (hTab.kept g (by simp)),
    fun σ W g h hp hb=>toRf (Nat.zero_le _) (sO W _ _ a b _ K (h 1 rfl) (h 4 rfl) (by omega) ba bb h1),
    fun σ W g h hp hb=>by
     obtain ⟨⟨q,u0,u1,u2,u3,u4,u5,u6,u7,e1,e2,e3⟩,e9⟩:=h 5 rfl
     have e1:Value.func (.func 72) #[] #[σ.an 5 0]=_:=e1
     have e1 : σ.an 5 0 = .pointer (some ⟨q,0,none⟩):=by simpa using e1
     have e4:PtsV W (σ.an 0 0) l:=(h 0 rfl).1
     show Calls _ _ #[σ.an 0 0,.agg #[σ.an 4 0, σ.an 4 1, σ.an 4 2, σ.an 4 3, σ.an 4 4, σ.an 4 5, σ.an 4 6, σ.an 4 7],.func (.func 72) #[] #[σ.an 5 0]] W _
     rw [e1]
     exact toSZZ (iY W _ q _ _ _ _ _ _ _ _ u0 u1 u2 u3 u4 u5 u6 u7 l (H7 a b) (4*K+2) e4 (h 4 rfl) e2 e3 (by omega) (by omega) hbd' bm (hTab.kept g (by simp)) (by obtain ⟨s,n,c,e,_⟩:=e4;rw [e];rfl)),
    fun σ W g h hp hb=>by
     obtain ⟨⟨q,u0,u1,u2,u3,u4,u5,u6,u7,e1,e2,e3⟩,e9⟩:=h 5 rfl
     have e1:Value.func (.func 72) #[] #[σ.an 5 0]=_:=e1
     have e1 : σ.an 5 0 = .pointer (some ⟨q,0,none⟩):=by simpa using e1
     show Calls _ _ #[_, σ.an 5 0] W _
     rw [e1]
     exact toZ (bR W _ q u0 u1 u2 u3 u4 u5 u6 u7 b (H7 a b) (4*K+2) (sg2 (h 1 rfl)) e2 e3 (by omega) (bb.mono (by omega)) bm) rfl,
    fun σ W g h hp hb=>fun ρ o ho _ hv=>⟨_,E9 _ ho ((A1 hv).1.trans (h 7 rfl)) (A1 hv).2 rfl,rfl⟩,
    fun σ W g h hp hb=>fun ρ o ho _ hv=>⟨_,B7 ho ((A1 hv).1.trans (szz1 (h 6 rfl))) ((A1 hv).2.trans (szz2 (h 6 rfl))) (M3 (by omega) (by omega)),rfl⟩,
    fun σ W g h hp hb=>fun ρ o ho _ hv=>⟨_,B7 ho ((A1 hv).1.trans (szz1 (h 6 rfl))) ((A1 hv).2.trans (szz2 (h 6 rfl))) (M3 (by omega) (by omega)),rfl⟩,
    trivial⟩
    ⟨fun σ W g h hp=>⟨_,h 8 rfl⟩,
    trivial⟩
    ⟨fun τ W g h hp hb=>by
     have q:=of_decide_eq_true (vBy (h 8 rfl) (hp 8 0 true rfl))
     refine ⟨?_,g⟩
     unfold besR
     rw [if_pos q]
     have e1 : τ.an 9 0=_:=h 9 rfl
     have e2 : τ.an 6 0=_:=szz1 (h 6 rfl)
     show Ending.returned (.tuple #[τ.an 9 0, τ.an 6 0])=_
     rw [e1,e2],
    fun τ W g h hp hb=>by
     have q:=of_decide_eq_false (vBy (h 8 rfl) (hp 8 0 false rfl))
     refine ⟨?_,g⟩
     unfold besR
     rw [if_neg q]
     have e1 : τ.an 10 0=_:=h 10 rfl
     have e2 : τ.an 6 0=_:=szz1 (h 6 rfl)
     show Ending.returned (.tuple #[τ.an 6 0, τ.an 10 0])=_
     rw [e1,e2],
    trivial⟩
def onB (l:List Pq) (p:Pq):Bool:=(List.range l.length).any fun i=>decide (A3 (pt0 l i) (nxt l i) p=0) && decide (pdot p (pt0 l i) (nxt l i)<=0)
theorem rI (l:List Pq) (p:Pq):dec (OnR l p)=onB l p:=by
 have key:OnR l p ↔ onB l p=true:=by
  unfold OnR onB
  rw [List.any_eq_true]
  constructor
  · rintro ⟨i,hi,h⟩
    have:=ins_doc.1 h
    exact ⟨i,List.mem_range.2 hi,by rw [Bool.and_eq_true];exact ⟨decide_eq_true this.1,decide_eq_true this.2⟩⟩
  · rintro ⟨i,hi,h⟩
    rw [Bool.and_eq_true] at h
    exact ⟨i,List.mem_range.1 hi,ins_doc.2 ⟨of_decide_eq_true h.1,of_decide_eq_true h.2⟩⟩
 cases hb:onB l p with
 | true=>exact mN (key.2 hb)
 | false=>exact V9 fun e=>by rw [key.1 e] at hb;cases hb
def arB (l:List Pq) (p:Pq):Int:=if onB l p=true then 0 else S3 l p
theorem arB_is (l:List Pq) (p:Pq):arN l p=arB l p:=by unfold arN arB;rw [rI]
def rowK:List G2:=[(0,0),(4,0),(4,4),(0,4)]
theorem eU:∀ d ∈ rowK,eD d:=by
 intro d hd
 unfold eD
 simp [rowK] at hd
 rcases hd with rfl | rfl | rfl | rfl<;>refine ⟨⟨?_, ?_⟩, ?_, ?_⟩<;>decide
theorem eT:rowK.length<=200:=by decide
theorem glK_len:(gl rowK).length<=200:=by decide
theorem jK {W:World} {q:Nat} (hb:W.heap[q]?=some (.cells #[.int .i64 0,.int .i64 0,.int .i64 4,.int .i64 0,.int .i64 4,.int .i64 4,.int .i64 0,.int .i64 4] 48 (0,0))):GsV W.heap.size W (.slice (some ⟨q,0,none⟩) 4 4) rowK:=by
 refine ⟨_,_,_,rfl,rfl,by omega,.inr ⟨q,0,rfl,(Array.getElem?_eq_some_iff.1 hb).1,fun i hi=>?_⟩⟩
 match i,hi with
 | 0,_=>constructor<;>(unfold World.cell?;rw [hb];rfl)
 | 1,_=>constructor<;>(unfold World.cell?;rw [hb];rfl)
 | 2,_=>constructor<;>(unfold World.cell?;rw [hb];rfl)
 | 3,_=>constructor<;>(unfold World.cell?;rw [hb];rfl)
theorem kn1:arN (gl rowK) (B0 1 1)=1/\dec (OnR (gl rowK) (B0 1 1))=false:=by rw [arB_is,rI];constructor<;>decide +kernel
theorem kn2:arN (gl rowK) (B0 5 5)=0/\dec (OnR (gl rowK) (B0 5 5))=false:=by rw [arB_is,rI];constructor<;>decide +kernel
theorem kn3:arN (gl rowK) (B0 4 2)=0/\dec (OnR (gl rowK) (B0 4 2))=true:=by rw [arB_is,rI];constructor<;>decide +kernel
theorem kn4:(bes (gl rowK) (B0 0 0) (B0 4 0)).1=1/\(bes (gl rowK) (B0 0 0) (B0 4 0)).2=0:=by constructor<;>decide +kernel
theorem glK_b:∀ p ∈ gl rowK,Bp 1 p:=by
 intro p hp
 obtain ⟨d,hd,rfl⟩:=List.mem_map.1 hp
 have:=eU d hd
 exact K6 this.1.1 this.1.2 this.2.1 this.2.2
theorem gk_b {x y:Int} (hx : 0<=x/\x<=5) (hy : 0<=y/\y<=5):Bp 1 (B0 x y):=K6 (by omega) (by omega) (by omega) (by omega)
theorem O0 (w:World) (hTab:Tab w) :
 Calls Tryd.prog 15 #[] w (fun e w'=>e = .returned (.bool true)/\w.grownBy w' none):=by
 refine bI B3 Tryd.func15 [] [sPt (B0 1 1),sVV (.int .i64 1) (.bool false),sPt (B0 5 5),sVV (.int .i64 0) (.bool false),sPt (B0 4 2),sVV (.int .i64 0) (.bool true),eR 0 (gl rowK),sPt (B0 0 0),sPt (B0 4 0),sVV (.int .i64 1) (.int .i64 0)] [] [] .nil (rs:=[(cl 0 21 [.v true [.lit (.int .i64 1),.lit (.int .i64 1)]],[]),(clb 1 14 [.v false [.row 0 0 4 4],ag 8 0] [0] [(0,48,[.lit (.int .i64 0),.lit (.int .i64 0),.lit (.int .i64 4),.lit (.int .i64 0),.lit (.int .i64 4),.lit (.int .i64 4),.lit (.int .i64 0),.lit (.int .i64 4)])],[]),(cl 2 21 [.v true [.lit (.int .i64 5),.lit (.int .i64 5)]],[]),(clb 3 14 [.v false [.row 0 0 4 4],ag 8 2] [0,1,2] [(0,48,[.lit (.int .i64 0),.lit (.int .i64 0),.lit (.int .i64 4),.lit (.int .i64 0),.lit (.int .i64 4),.lit (.int .i64 4),.lit (.int .i64 0),.lit (.int .i64 4)])],[]),(cl 4 21 [.v true [.lit (.int .i64 4),.lit (.int .i64 2)]],[]),(clb 5 14 [.v false [.row 0 0 4 4],ag 8 4] [0,1,2,3,4] [(0,48,[.lit (.int .i64 0),.lit (.int .i64 0),.lit (.int .i64 4),.lit (.int .i64 0),.lit (.int .i64 4),.lit (.int .i64 4),.lit (.int .i64 0),.lit (.int .i64 4)])],[]),(clb 6 37 [.v false [.row 0 0 4 4]] [0,1,2,3,4,5] [(0,48,[.lit (.int .i64 0),.lit (.int .i64 0),.lit (.int .i64 4),.lit (.int .i64 0),.lit (.int .i64 4),.lit (.int .i64 4),.lit (.int .i64 0),.lit (.int .i64 4)])],[]),(cl 7 21 [.v true [.lit (.int .i64 0),.lit (.int .i64 0)]],[]),(cl 8 21 [.v true [.lit (.int .i64 4),.lit (.int .i64 0)]],[]),(cl 9 42 [on 6,.v true [.an 7 0,.an 7 1,.an 7 2,.an 7 3,.an 7 4,.an 7 5,.an 7 6,.an 7 7,.an 8 0,.an 8 1,.an 8 2,.an 8 3,.an 8 4,.an 8 5,.an 8 6,.an 8 7]],[])]) (js:=[]) (outs:=[⟨.v false [.lit (.bool true)],(List.range 10),[],[],[]⟩]) (nc:=10) (by kernel_rfl)
  ⟨fun σ W g h hp hb=>O4 W 1 1 (by omega) (by omega) (by omega) (by omega),
  fun σ W g h hp hb=>toVV (D3 W _ _ rowK (B0 1 1) 1 (jK (hb.1 _ (.head _))) (h 0 rfl) (by omega) eT eU (gk_b (by omega) (by omega)) (hTab.kept g (by simp))) (congrArg (Value.int .i64) kn1.1) (congrArg Value.bool kn1.2),
  fun σ W g h hp hb=>O4 W 5 5 (by omega) (by omega) (by omega) (by omega),
  fun σ W g h hp hb=>toVV (D3 W _ _ rowK (B0 5 5) 1 (jK (hb.1 _ (.head _))) (h 2 rfl) (by omega) eT eU (gk_b (by omega) (by omega)) (hTab.kept g (by simp))) (congrArg (Value.int .i64) kn2.1) (congrArg Value.bool kn2.2),
  fun σ W g h hp hb=>O4 W 4 2 (by omega) (by omega) (by omega) (by omega),
  fun σ W g h hp hb=>toVV (D3 W _ _ rowK (B0 4 2) 1 (jK (hb.1 _ (.head _))) (h 4 rfl) (by omega) eT eU (gk_b (by omega) (by omega)) (hTab.kept g (by simp))) (congrArg (Value.int .i64) kn3.1) (congrArg Value.bool kn3.2),
  fun σ W g h hp hb=>dI (Nat.zero_le _) (qN W _ rowK (jK (hb.1 _ (.head _))) eT eU),
  fun σ W g h hp hb=>O4 W 0 0 (by omega) (by omega) (by omega) (by omega),
  fun σ W g h hp hb=>O4 W 4 0 (by omega) (by omega) (by omega) (by omega),
  fun σ W g h hp hb=>toVV (WBeside_any W _ _ (gl rowK) (B0 0 0) (B0 4 0) 1 (h 6 rfl).1 (mksg (h 7 rfl) (h 8 rfl)) (by omega) glK_len glK_b (gk_b (by omega) (by omega)) (gk_b (by omega) (by omega)) (hTab.kept g (by simp))) (congrArg (Value.int .i64) kn4.1) (congrArg (Value.int .i64) kn4.2),
  trivial⟩
  trivial
  ⟨fun τ W g h hp hb=>⟨rfl,g⟩,
  trivial⟩
theorem GsV.up {b B:Nat} {w:World} {v:Value} {l:List G2} (h:GsV b w v l) (hB:b<=B):GsV B w v l:=by
 obtain ⟨s,n,c,rfl,h1,h2,h3⟩:=h
 exact ⟨s,n,c,rfl,h1,h2,h3.imp_right fun ⟨q,off,e,hq,hd⟩=>⟨q,off,e,Nat.lt_of_lt_of_le hq hB,hd⟩⟩
theorem GsV.rebase {b B:Nat} {w:World} {v:Value} {l:List G2} (h:GsV b w v l) (hB:∀ q,fpS v q->q<B):GsV B w v l:=by
 obtain ⟨s,n,c,rfl,h1,h2,h3⟩:=h
 refine ⟨s,n,c,rfl,h1,h2, ?_⟩
 by_cases h0:l=[]
 · exact .inl h0
 · obtain ⟨q,off,rfl,hq,hd⟩:=h3.resolve_left h0
   obtain ⟨m,rfl⟩:∃ m,n=m+1:=⟨n-1,by have:=List.length_pos_iff.2 h0;omega⟩
   exact .inr ⟨q,off,rfl,hB q ⟨off,m,c,rfl⟩,hd⟩
theorem aZ {α : Type} (kd:N9 α) {t:TypeId} (ht:Tryd.prog.underlying t=some (.slice kd.T)) (hz:I3 Tryd.prog kd.T=some kd.z) {W:World} {base:Nat} (hb:base<=W.heap.size) {ρ : Operand->Value} {o:Oper} (ho:o.op = .buildSlice t 0 #[]) :
 ∃ v W',(execOp ρ o).run Tryd.prog W = .ok (.value v) W'/\W.grownBy W' none/\OwV kd base W' v ([]:List α)/\v.ownBlock=some W.heap.size:=by
 refine ⟨.slice (some ⟨W.heap.size,0,none⟩) 0 0,W.alloc (.cells #[] kd.T), ?_,World.grownBy_alloc _ _ _, ?_,rfl⟩
 · have hra:Array.range 0 = #[]:=by decide
   simp [hra,execOp,ho,Instr.buildSlice,Sem.run_bind,run_underlying ht W,Result.andThen_ok,C6 Tryd.prog hz W,Instr.fill,newRow,newObj]
   rfl
 · exact ⟨[],⟨by simp,.inr ⟨W.heap.size,0, #[],rfl,hb,A9 _ _ _ rfl,Nat.le_refl _,Nat.zero_le _,by simp,by simp⟩⟩,fun i hi=>absurd hi (by simp)⟩
theorem M0 {W:World} {cs:List Value} {d:G2} (h:kG.A W cs d):∀ u ∈ cs,u.oneCell'=true:=by
 have h:cs=[.int .i64 d.1,.int .i64 d.2]:=h
 subst h
 intro u hu
 rcases List.mem_cons.1 hu with rfl | hu
 · rfl
 · rcases List.mem_cons.1 hu with rfl | hu
   · rfl
   · cases hu
section
variable {ρ : Operand->Value} {o:Oper} {W:World}
end
section
variable {ρ : Operand->Value} {o:Oper} {W:World}
end
def sGe (base:Nat) (va:Value) (l:List G2):Sp where
 sh := .one
 F v W:=v=va/\GsV base W v l
 fits v W h:=by obtain ⟨_,s,n,c,rfl,_⟩:=h;exact ⟨fun _ => .slice s n c,fun _=>rfl,rfl⟩
 row:=true
 fp v _ q:=fpS v q
 lasts v W W' k hq h:=⟨⟨h.1,h.2.keeps hq⟩,fun _ h=>h⟩
 inb v W h q hq:=(h.2.block hq).2
 flat h:=by cases h
def FewV (base:Nat) (va:Value) (l:List G2) (v:Value) (W:World):Prop:=∃ a b,v = .tuple #[a,b]/\GsV base W a l/\(∀ q,fpS a q->fpS va q)/\HrV W b (hrl l) /\ ∀ q,fpS b q->base<=q
def oA (base:Nat) (va:Value) (l:List G2):Sp where
 sh := .tup [(none,0),(none,0)]
 F v W:=FewV base va l v W
 fits v W h:=by
  obtain ⟨a,b,rfl,⟨s,n,c,rfl,_⟩,_,⟨s',n',c',rfl,_⟩,_⟩:=h
  exact Y4 (u := .bool true) (cs:=[.slice s n c,.slice s' n' c']) (by simp [Value.oneCell']) rfl
 row:=true
 fp v _ q:=∃ a b,v = .tuple #[a,b]/\(fpS a q\/fpS b q)
 lasts v W W' k hq h:=by
  obtain ⟨a,b,rfl,h1,h2,h3,h4⟩:=h
  exact ⟨⟨a,b,rfl,h1.keeps fun q hf=>hq q ⟨a,b,rfl,.inl hf⟩,h2,h3.keeps k fun q hf=>hq q ⟨a,b,rfl,.inr hf⟩,h4⟩,fun _ h=>h⟩
 inb v W h q hq:=by
  obtain ⟨a,b,rfl,h1,h2,h3,h4⟩:=h
  obtain ⟨a',b',e,hq⟩:=hq
  cases e
  rcases hq with hq | hq
  · exact (h1.block hq).2
  · exact h3.inb q hq
 flat h:=by cases h
theorem oN {P:Program} {f:FuncId} {args:Array Value} {W:World} {base:Nat} {va:Value} {l:List G2} {old:Nat->Prop} (hb:base<=W.heap.size) (ho:∀ q,fpS va q->old q) (hlt:∀ q,fpS va q->q<base) (h:Calls P f args W (RetFew W va l)):Calls P f args W (RetS W (oA base va l) old):=
 h.mono fun _ _ ⟨v,u,a,h1,h2,h3,h4,g⟩=>⟨_,a,⟨v,u,rfl,h1.rebase fun q hq=>hlt q (h2 q hq),h2,h3,fun q hq=>Nat.le_trans hb (h4 q hq)⟩,g,fun q hq=>by
  obtain ⟨a',b',e,hq⟩:=hq
  cases e
  rcases hq with hq | hq
  · exact .inr (ho q (h2 q hq))
  · exact .inl (h4 q hq)⟩
theorem L5 {base:Nat} {va:Value} {l:List G2} {a b:Value} {W:World} : (oA base va l).F (.tuple #[a,b]) W->GsV base W a l:=fun ⟨_,_,e,h,_⟩=>by cases e;exact h
def sAr (n:Int) (b:Bool):Sp := .of (.tup [(none,0),(none,0)]) (fun v _=>v = .tuple #[.int .i64 n,.bool b]) (fun v W h=>Y4 (u := .bool true) (cs:=[.int .i64 n,.bool b]) (by simp [Value.oneCell']) h) (fun _ _ _ _ h=>h)
theorem toAr {P:Program} {f:FuncId} {args:Array Value} {W:World} {n:Int} {b:Bool} (h:Calls P f args W (fun e w'=>e = .returned (.tuple #[.int .i64 n,.bool b])/\W.grownBy w' none)):Calls P f args W (Ret W (sAr n b).F):=h.mono fun _ _ ⟨a,g⟩=>⟨_,a,rfl,g⟩
section
variable {ρ : Operand->Value} {o:Oper} {W:World}
end
theorem N7 {base:Nat} {va:Value} {l l0:List G2} {u:Value} {W:World} {v:Value} (h:(oA base va l).F u W) (ho:OwV kG base W v l0) {q:Nat} (hq:(oA base va l).fp u W q):v.ownBlock≠some q:=by
 obtain ⟨a,b,rfl,h1,h2,h3,h4⟩:=h
 obtain ⟨a',b',e,hq⟩:=hq
 cases e
 rcases hq with hq | hq
 · exact C0 ho (h1.block hq)
 · intro e
   obtain ⟨_,_,c,hc⟩:=ho.inb e
   obtain ⟨s,n,c',rfl,hl,hn,hd⟩:=h3
   obtain ⟨off,m,c'',e2⟩:=hq
   cases e2
   rcases hd with hd | ⟨b,off',cs,e3,hb,_⟩
   · rw [hd] at hl;simp at hl
   · cases e3
     rw [hc] at hb
     simp only [Option.some.injEq,Obj.cells.injEq] at hb
     exact absurd hb.2.1 (by decide)
theorem J1:∃ i z,Tryd.prog.info? kG.T=some i/\i.zero=some z/\i.size=kG.z/\i.bytes<=1000000/\z.cells.size=kG.z:=lW 48 2 (by kernel_rfl)
theorem Q8 {a b:Option Nat} {q:Nat} (h:a≠b) (hb:b=some q):a≠some q:=fun e=>h (e.trans hb.symm)
theorem upS_le (f:Pq->Pq->Int) (hf:∀ a b, -1<=f a b/\f a b<=1) (l:List Pq):∀ k:Nat, -(k:Int)<=upS f l k/\upS f l k<=(k:Int)
 | 0=>by unfold upS;omega
 | k+1=>by
   have h1:=upS_le f hf l k
   have h2:=hf (pt0 l k) (nxt l k)
   show -((k+1:Nat):Int)<=upS f l k+f (pt0 l k) (nxt l k)/\upS f l k+f (pt0 l k) (nxt l k)<=((k+1:Nat):Int)
   omega
theorem sJ (l:List Pq) (hl:l.length<=500) (p:Pq) : -500<=arN l p/\arN l p<=500:=by
 unfold arN
 split
 · omega
 · have h1:=upS_le (ahd (lvl p) p) (fun a b=>by
    unfold ahd
    split
    · rcases pass_or (lvl p a) (lvl p b) with h | h | h<;>omega
    · omega) l l.length
   rw [qT] at h1
   unfold S3
   omega
end Go.Proofs.YtamdnbbgpacfkaaDoor
namespace Go.Proofs.YtamdnbbgpacfkaaDoor
open Go.ChangeShapes Go.WideShapes Go.ChangeAt Go.RowKit Go.ChangeMaps
section
variable {H:Type} {enc:TypeId × Value->H} {W:World} {sp:Nat->Bool}
theorem pt_cells:Tryd.prog.cellsOf 48=2:=by kernel_rfl
theorem pt_fields:∃ f0 f1:Field,Tryd.prog.underlying 48=some (.struct #[f0,f1])/\f0.offset=0/\f1.offset=1/\f0.type=3/\f1.type=3:=⟨_,_,Tryd.underlying48,rfl,rfl,rfl,rfl⟩
end
end Go.Proofs.YtamdnbbgpacfkaaDoor
namespace Go.Proofs.YtamdnbbgpacfkaaDoor
open Go.ChangeShapes Go.WideShapes Go.ChangeAt Go.RowKit Go.ChangeMaps Go.Deep
section
variable {H:Type} {enc:TypeId × Value->H} {W:World} {sp:Nat->Bool}
theorem open_gs {a0:Option Addr} {len cap:Nat} {d:DataW H} {p:List MemPlace} (h:DataW.Trod enc Tryd.prog W 0 sp true 43 (.slice a0 len cap) d p) :
 ∃ l:List G2,GsV W.heap.size W (.slice a0 len cap) l /\ ∀ d ∈ l,eD d:=by
 obtain ⟨n,hn⟩:=h
 rcases open_slice Tryd.underlying43 hn with ⟨hcs,_⟩ | ⟨a,ln,cp,m,k,D,Pl,hcs,_,hl,hm,hmm,_,hx⟩
 · simp [Value.cells] at hcs
   obtain ⟨rfl,rfl,rfl⟩:=hcs
   exact ⟨[],⟨none,0,0,rfl,rfl,Nat.le_refl _,.inl rfl⟩,fun d hd=>by cases hd⟩
 · simp [Value.cells] at hcs
   obtain ⟨rfl,rfl,rfl⟩:=hcs
   have hlm:len<=m:=by rw [hmm];split<;>omega
   obtain ⟨f0,f1,he,o0,o1,t0,t1⟩:=pt_fields
   have each:∀ i,i<len -> ∃ q:G2,W.cell? (a.add (i*2))=some (.int .i64 q.1)/\W.cell? (a.add (i*2+1))=some (.int .i64 q.2)/\eD q:=fun i hi=>by
    obtain ⟨cs',h1,h2⟩:=hx i (by omega)
    rw [pt_cells] at h1
    obtain ⟨_,hlen,hcell⟩:=World.cells?_some h1
    obtain ⟨xs,k',_,_,_,hxl,hf⟩:=DataW.trod_struct he h2
    match xs,hxl,cs',hlen with
    | [y0,y1],_,[v0,v1],_=>
      have g0:=hf 0 f0 rfl
      have g1:=hf 1 f1 rfl
      simp [o0,o1,t0,t1,gT] at g0 g1
      have e0:=hcell 0 (by omega)
      have e1:=hcell 1 (by omega)
      rw [Go.Deep.add_add] at e0 e1
      obtain ⟨x0,hx0,_,w0⟩:=DataW.trod_int Tryd.underlying3 g0
      obtain ⟨x1,hx1,_,w1⟩:=DataW.trod_int Tryd.underlying3 g1
      simp at hx0 hx1
      subst hx0;subst hx1
      exact ⟨(x0,x1),by simpa using e0,by simpa using e1,U6 w0,U6 w1⟩
   obtain ⟨q,hq⟩:=choose_lt (α:=G2) each
   refine ⟨(List.range len).map q,⟨some a,len,cap,rfl,by simp,hl, ?_⟩,fun d hd=>?_⟩
   · by_cases h0:len=0
     · subst h0;exact .inl rfl
     · obtain ⟨c0,_⟩:=hq 0 (by omega)
       obtain ⟨b,off,spot⟩:=a
       have hs:=qG c0
       have hs:spot=none:=by simpa [Addr.add] using hs
       subst hs
       refine .inr ⟨b,off,rfl, ?_,fun i hi=>?_⟩
       · rw [Addr.add_lit] at c0;exact W4 c0
       · have hi:i<len:=by simpa using hi
         obtain ⟨c0,c1,_⟩:=hq i hi
         rw [Addr.add_lit] at c0 c1
         rw [Nat.mul_comm] at c0 c1
         simp only [List.getElem_map,List.getElem_range]
         exact ⟨c0,c1⟩
   · obtain ⟨i,hi,rfl⟩:=List.mem_map.1 hd
     exact (hq i (by simpa using hi)).2.2
end
end Go.Proofs.YtamdnbbgpacfkaaDoor
