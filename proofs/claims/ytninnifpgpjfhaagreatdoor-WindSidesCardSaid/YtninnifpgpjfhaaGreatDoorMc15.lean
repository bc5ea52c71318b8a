/- What the laws lean on, part 15. -/
import Derived.Below
import Derived.BigCall
import Derived.BigQuiet
import Derived.BigRegion
import Derived.ChangeOld
import Derived.Deep.AppendLies
import Derived.Deep.CutBlock
import Derived.Deep.CutRange
import Derived.Deep.DeepCutAuto
import Derived.Deep.DeepHandedRow
import Derived.Deep.LoopGhost
import Derived.Deep.MidRow
import Derived.Deep.QuietTactic
import Derived.Deep.RegionHeld3
import Derived.Deep.RegionLaw
import Derived.Deep.Slices
import Derived.Deep.Strs
import Derived.Deep.WholeRow
import Derived.Laws.AppendOwn
import Derived.Laws.Concat
import Derived.Laws.CopyOwn
import Derived.Laws.Externs
import Derived.Laws.IdiomStrings
import Derived.Lib.BitFns
import Derived.Lib.Bytealg
import Derived.Lib.Hide
import Derived.Lib.LaidTab
import Derived.Lib.Slices
import Derived.Lib.Small
import Derived.Lib.Strings
import Derived.Lib.Walk
import Derived.LoopIn
import Derived.LoopN
import Derived.LoopNIn
import Derived.Maps.AppendAt
import Derived.OpenShut
import Derived.OrdersHeld
import Derived.OrdersIn
import Derived.Outline
import Derived.OwnWalk
import Derived.OwnWalkIn
import Derived.ProofKit
import Derived.RangeFuncBound
import Derived.RangeFuncCalls
import Derived.RangeFuncLeaves
import Derived.RangeFuncNested
import Derived.RangeFuncOwn
import Derived.Shelf.Abstract
import Derived.Shelf.Bits.Mul64
import Derived.Shelf.RegionOpen
import Derived.Shelf.Spec.TrailingZeros
import Derived.StillTailTactics
import Derived.TacticsInMore
import Derived.WalkKit
import Derived.WalkLawsBesides
import Derived.WalkSpells
import Derived.WideKeyArgs
import Derived.Test.YtninnifpgpjfhaaGreatDoorCards
import Derived.Test.YtninnifpgpjfhaaGreatDoorProg
import Derived.Test.YtninnifpgpjfhaaGreatDoorRows
import Derived.Test.YtninnifpgpjfhaaGreatDoorTie
import Derived.Test.YtninnifpgpjfhaaGreatDoorMc14
set_option linter.unusedVariables false
set_option linter.unusedSimpArgs false
set_option maxRecDepth 100000
namespace Go.Proofs.YtninnifpgpjfhaaGreatDoor
open Go.RowKit Mat Ex PM
def sRf (f s0:Nat) (m:Pq):Sp where
 sh := .fnp f
 F v W:=RayV f W v m /\ ∀ q,fpF v q->s0<=q
 fits v W h:=by obtain ⟨⟨q,u0,u1,u2,u3,u4,u5,u6,u7,rfl,_⟩,_⟩:=h;exact ⟨fun _ => .pointer (some ⟨q,0,none⟩),fun _=>rfl,rfl⟩
 row:=true
 fp v _ q:=fpF v q
 lasts v W W' k hq h:=⟨⟨h.1.keeps k hq,h.2⟩,fun _ h=>h⟩
 inb v W h q hq:=h.1.inb q hq
 flat h:=by cases h
theorem toRf {P:Program} {f:FuncId} {n:Nat} {args:Array Value} {W:World} {m:Pq} {old:Nat->Prop} {s0:Nat} (hs:s0<=W.heap.size) (h:Calls P f args W (Y2 n W m)):Calls P f args W (RetS W (sRf n s0 m) old):=
 h.mono fun _ _ ⟨q,u0,u1,u2,u3,u4,u5,u6,u7,a,h1,h2,h3,g⟩=>⟨_,a,⟨⟨q,u0,u1,u2,u3,u4,u5,u6,u7,rfl,h1,h2⟩,fun q' hq=>by obtain ⟨f',e⟩:=hq;cases e;omega⟩,g,fun q' hq => .inl (by obtain ⟨f',e⟩:=hq;cases e;exact h3)⟩
def sZZ (a b:Int):Sp := .of (.tup [(none,0),(none,0)]) (fun v _=>v = .tuple #[.int .i64 a,.int .i64 b]) (fun v W h=>V4 (u := .bool true) (cs:=[.int .i64 a,.int .i64 b]) (by simp [Value.oneCell']) h) (fun _ _ _ _ h=>h)
theorem lV {a b:Int} {u v:Value} {W:World} : (sZZ a b).F (.tuple #[u,v]) W->u = .int .i64 a:=fun h=>by cases h;rfl
theorem szz2 {a b:Int} {u v:Value} {W:World} : (sZZ a b).F (.tuple #[u,v]) W->v = .int .i64 b:=fun h=>by cases h;rfl
theorem toSZZ {P:Program} {f:FuncId} {args:Array Value} {W:World} {a b:Int} (h:Calls P f args W (fun e w'=>e = .returned (.tuple #[.int .i64 a,.int .i64 b])/\W.grownBy w' none)):Calls P f args W (Ret W (sZZ a b).F):=h.mono fun _ _ ⟨a,g⟩=>⟨_,a,rfl,g⟩
def cL (lf:Pq->Int) (m b:Pq) (l:List Pq):Int × Int:=if 0<lf b then (cyL (ahd lf m) l+cyL (thr lf m) l,cyL (ahd lf m) l) else (cyL (ahd lf m) l,cyL (ahd lf m) l+cyL (thr lf m) l)
def bes (l:List Pq) (a b:Pq):Int × Int:=if F0 a b=0 then (0,0) else if G3 a.2 b.2=0 then cL (upr (B7 a b)) (B7 a b) b l else cL (lvl (B7 a b)) (B7 a b) b l
theorem cy_b {f:Pq->Pq->Int} (hf:∀ a b, -1<=f a b/\f a b<=1) (l:List Pq) : -(l.length:Int)<=cyL f l/\cyL f l<=l.length:=by
 rw [<- upS_cy]
 have:∀ k:Nat, -(k:Int)<=upS f l k/\upS f l k<=k:=by
  intro k
  induction k with
  | zero=>exact ⟨Int.le_refl _,Int.le_refl _⟩
  | succ k ih=>
    have:=hf (pt0 l k) (nxt l k)
    show -((k+1:Nat):Int)<=upS f l k+f (pt0 l k) (nxt l k)/\upS f l k+f (pt0 l k) (nxt l k)<=((k+1:Nat):Int)
    omega
 exact this l.length
theorem vBy {v:Value} {a b:Bool} (h:v = .bool a) (h2:v = .bool b):a=b:=by rw [h] at h2;exact Value.bool.inj h2
theorem eN (w:World) (va vb:Value) (l:List Pq) (a b:Pq) (K:Nat) (Ha:PtsV w va l) (Hb:SgV w vb a b) (hK : 1<=K/\K<=2000) (hn:l.length<=200) (hbd:∀ p ∈ l,Bp K p) (ba:Bp K a) (bb:Bp K b) (hTab:Tab w) :
 Calls Tryz.prog 18 #[va,vb] w (fun e w'=>e = .returned (.tuple #[.int .i64 (bes l a b).1,.int .i64 (bes l a b).2])/\w.grownBy w' none):=by
 have bm:=ba.mid bb hK.1
 have hbd':∀ p ∈ l,Bp (4*K+2) p:=fun p hp=>(hbd p hp).mono (by omega)
 rcases (show F0 a b=0\/(F0 a b≠0/\G3 a.2 b.2=0)\/(F0 a b≠0/\G3 a.2 b.2≠0) by omega) with h0 | ⟨h0,h1⟩ | ⟨h0,h1⟩
 · skip
   unfold bes
   rw [if_pos h0]
   refine A5 B1 Tryz.func18 [sPts 0 l,sSg a b] [sZ (F0 a b),sV (.bool true)] (.cons ⟨Ha,fun _ _=>Nat.zero_le _⟩ (.cons Hb .nil)) (rs:=[cl 2 55 [ag 8 1,.v true [.an 1 8,.an 1 9,.an 1 10,.an 1 11,.an 1 12,.an 1 13,.an 1 14,.an 1 15]],co 3 (.binOp .eql 3 (.tmp 14) (.const (.int .i64 0)) 3) 4 [on 2,.v false [.lit (.int .i64 0)]] [0,1,2] []]) (out := .tup [(false,[.lit (.int .i64 0)]),(false,[.lit (.int .i64 0)])]) (nc:=4) (by kernel_rfl)
    ⟨fun σ W g h hb=>toZ (I5 W _ _ a b K (sg1 (h 1 rfl)) (sg2 (h 1 rfl)) (by omega) ba bb) rfl,
    fun σ W g h hb=>fun ρ o ho _ hv=>⟨_,E7 true ho ((A0 hv).1.trans (h 2 rfl)) (A0 hv).2 (decide_eq_true h0),rfl⟩,
    trivial⟩ fun τ W g h=>⟨rfl,g⟩
 · skip
   unfold bes
   rw [if_neg h0,if_pos h1]
   have b1:=cy_b (ahd_b (upr (B7 a b)) (B7 a b)) l
   have b2:=cy_b (thr_b (upr (B7 a b)) (B7 a b)) l
   refine X2 B1 Tryz.func18 [sPts 0 l,sSg a b] [sZ (F0 a b),sV (.bool false),sPt (B7 a b),sRf 128 0 (B7 a b),sZZ (cyL (ahd (upr (B7 a b)) (B7 a b)) l) (cyL (thr (upr (B7 a b)) (B7 a b)) l),sZ (upr (B7 a b) b),sC (.bool (decide (0<upr (B7 a b) b))) rfl,sZ (cyL (ahd (upr (B7 a b)) (B7 a b)) l+cyL (thr (upr (B7 a b)) (B7 a b)) l),sZ (cyL (ahd (upr (B7 a b)) (B7 a b)) l+cyL (thr (upr (B7 a b)) (B7 a b)) l)] [] [] (.cons ⟨Ha,fun _ _=>Nat.zero_le _⟩ (.cons Hb .nil)) (rs:=[(cl 2 55 [ag 8 1,.v true [.an 1 8,.an 1 9,.an 1 10,.an 1 11,.an 1 12,.an 1 13,.an 1 14,.an 1 15]],[]),(co 3 (.binOp .eql 3 (.tmp 14) (.const (.int .i64 0)) 3) 4 [on 2,.v false [.lit (.int .i64 0)]] [0,1,2] [],[]),(cl 4 56 [ag 16 1],[]),(cl 5 57 [ag 16 1,ag 8 4],[]),(cl 6 51 [on 0,ag 8 4,.fn 128 [.an 5 0]],[]),(cl 7 128 [.v true [.an 1 8,.an 1 9,.an 1 10,.an 1 11,.an 1 12,.an 1 13,.an 1 14,.an 1 15],on 5],[]),(co 8 (.binOp .gtr 3 (.tmp 31) (.const (.int .i64 0)) 3) 4 [on 7,.v false [.lit (.int .i64 0)]] [0,1,2,3,4,5,6,7] [],[]),(co 9 (.binOp .add 3 (.tmp 33) (.tmp 34) 3) 3 [on 6,.v false [.an 6 1]] [0,1,2,3,4,5,6,7,8] [],[(8,0,true)]),(co 10 (.binOp .add 3 (.tmp 38) (.tmp 39) 3) 3 [on 6,.v false [.an 6 1]] [0,1,2,3,4,5,6,7,8] [],[(8,0,false)])]) (js:=[.test 8 0 (List.range 9) []]) (outs:=[⟨.tup [(false,[.an 9 0]),(false,[.an 6 0])],(List.range 10),[(8,0,true)],[],[]⟩,⟨.tup [(false,[.an 6 0]),(false,[.an 10 0])],[0,1,2,3,4,5,6,7,8,10],[(8,0,false)],[],[]⟩]) (nc:=11) (by kernel_rfl)
    ⟨fun σ W g h hp hb=>toZ (I5 W _ _ a b K (sg1 (h 1 rfl)) (sg2 (h 1 rfl)) (by omega) ba bb) rfl,
    fun σ W g h hp hb=>fun ρ o ho _ hv=>⟨_,E7 false ho ((A0 hv).1.trans (h 2 rfl)) (A0 hv).2 (decide_eq_false h0),rfl⟩,
    fun σ W g h hp hb=>eK W _ a b K (h 1 rfl) (by omega) ba bb (hTab.kept g (by simp)),
    fun σ W g h hp hb=>toRf (Nat.zero_le _) (nG W _ _ a b _ K (h 1 rfl) (h 4 rfl) (by omega) ba bb h1),
    fun σ W g h hp hb=>by
     obtain ⟨⟨q,u0,u1,u2,u3,u4,u5,u6,u7,e1,e2,e3⟩,e9⟩:=h 5 rfl
     have e1:Value.func (.func 128) #[] #[σ.an 5 0]=_:=e1
     have e1 : σ.an 5 0 = .pointer (some ⟨q,0,none⟩):=by simpa using e1
     have e4:PtsV W (σ.an 0 0) l:=(h 0 rfl).1
     show Calls _ _ #[σ.an 0 0,.agg #[σ.an 4 0, σ.an 4 1, σ.an 4 2, σ.an 4 3, σ.an 4 4, σ.an 4 5, σ.an 4 6, σ.an 4 7],.func (.func 128) #[] #[σ.an 5 0]] W _
     rw [e1]
     exact toSZZ (WCrossU_any W _ q _ _ _ _ _ _ _ _ u0 u1 u2 u3 u4 u5 u6 u7 l (B7 a b) (4*K+2) e4 (h 4 rfl) e2 e3 (by omega) (by omega) hbd' bm (hTab.kept g (by simp)) (by obtain ⟨s,n,c,e,_⟩:=e4;rw [e];rfl)),
    fun σ W g h hp hb=>by
     obtain ⟨⟨q,u0,u1,u2,u3,u4,u5,u6,u7,e1,e2,e3⟩,e9⟩:=h 5 rfl
     have e1:Value.func (.func 128) #[] #[σ.an 5 0]=_:=e1
     have e1 : σ.an 5 0 = .pointer (some ⟨q,0,none⟩):=by simpa using e1
     show Calls _ _ #[_, σ.an 5 0] W _
     rw [e1]
     exact toZ (R8 W _ q u0 u1 u2 u3 u4 u5 u6 u7 b (B7 a b) (4*K+2) (sg2 (h 1 rfl)) e2 e3 (by omega) (bb.mono (by omega)) bm) rfl,
    fun σ W g h hp hb=>fun ρ o ho _ hv=>⟨_,O8 _ ho ((A0 hv).1.trans (h 7 rfl)) (A0 hv).2 rfl,rfl⟩,
    fun σ W g h hp hb=>fun ρ o ho _ hv=>⟨_,B9 ho ((A0 hv).1.trans (lV (h 6 rfl))) ((A0 hv).2.trans (szz2 (h 6 rfl))) (J7 (by omega) (by omega)),rfl⟩,
    fun σ W g h hp hb=>fun ρ o ho _ hv=>⟨_,B9 ho ((A0 hv).1.trans (lV (h 6 rfl))) ((A0 hv).2.trans (szz2 (h 6 rfl))) (J7 (by omega) (by omega)),rfl⟩,
    trivial⟩
    ⟨fun σ W g h hp=>⟨_,h 8 rfl⟩,
    trivial⟩
    ⟨fun τ W g h hp hb=>by
     have q:=of_decide_eq_true (vBy (h 8 rfl) (hp 8 0 true rfl))
     refine ⟨?_,g⟩
     unfold cL
     rw [if_pos q]
     have e1 : τ.an 9 0=_:=h 9 rfl
     have e2 : τ.an 6 0=_:=lV (h 6 rfl)
     show Ending.returned (.tuple #[τ.an 9 0, τ.an 6 0])=_
     rw [e1,e2],
    fun τ W g h hp hb=>by
     have q:=of_decide_eq_false (vBy (h 8 rfl) (hp 8 0 false rfl))
     refine ⟨?_,g⟩
     unfold cL
     rw [if_neg q]
     have e1 : τ.an 10 0=_:=h 10 rfl
     have e2 : τ.an 6 0=_:=lV (h 6 rfl)
     show Ending.returned (.tuple #[τ.an 6 0, τ.an 10 0])=_
     rw [e1,e2],
    trivial⟩
 · skip
   unfold bes
   rw [if_neg h0,if_neg h1]
   have b1:=cy_b (ahd_b (lvl (B7 a b)) (B7 a b)) l
   have b2:=cy_b (thr_b (lvl (B7 a b)) (B7 a b)) l
   refine X2 B1 Tryz.func18 [sPts 0 l,sSg a b] [sZ (F0 a b),sV (.bool false),sPt (B7 a b),sRf 95 0 (B7 a b),sZZ (cyL (ahd (lvl (B7 a b)) (B7 a b)) l) (cyL (thr (lvl (B7 a b)) (B7 a b)) l),sZ (lvl (B7 a b) b),sC (.bool (decide (0<lvl (B7 a b) b))) rfl,sZ (cyL (ahd (lvl (B7 a b)) (B7 a b)) l+cyL (thr (lvl (B7 a b)) (B7 a b)) l),sZ (cyL (ahd (lvl (B7 a b)) (B7 a b)) l+cyL (thr (lvl (B7 a b)) (B7 a b)) l)] [] [] (.cons ⟨Ha,fun _ _=>Nat.zero_le _⟩ (.cons Hb .nil)) (rs:=[(cl 2 55 [ag 8 1,.v true [.an 1 8,.an 1 9,.an 1 10,.an 1 11,.an 1 12,.an 1 13,.an 1 14,.an 1 15]],[]),(co 3 (.binOp .eql 3 (.tmp 14) (.const (.int .i64 0)) 3) 4 [on 2,.v false [.lit (.int .i64 0)]] [0,1,2] [],[]),(cl 4 56 [ag 16 1],[]),(cl 5 57 [ag 16 1,ag 8 4],[]),(cl 6 51 [on 0,ag 8 4,.fn 95 [.an 5 0]],[]),(cl 7 95 [.v true [.an 1 8,.an 1 9,.an 1 10,.an 1 11,.an 1 12,.an 1 13,.an 1 14,.an 1 15],on 5],[]),(co 8 (.binOp .gtr 3 (.tmp 31) (.const (.int .i64 0)) 3) 4 [on 7,.v false [.lit (.int .i64 0)]] [0,1,2,3,4,5,6,7] [],[]),(co 9 (.binOp .add 3 (.tmp 33) (.tmp 34) 3) 3 [on 6,.v false [.an 6 1]] [0,1,2,3,4,5,6,7,8] [],[(8,0,true)]),(co 10 (.binOp .add 3 (.tmp 38) (.tmp 39) 3) 3 [on 6,.v false [.an 6 1]] [0,1,2,3,4,5,6,7,8] [],[(8,0,false)])]) (js:=[.test 8 0 (List.range 9) []]) (outs:=[⟨.tup [(false,[.an 9 0]),(false,[.an 6 0])],(List.range 10),[(8,0,true)],[],[]⟩,⟨.tup [(false,[.an 6 0]),(false,[.an 10 0])],[0,1,2,3,4,5,6,7,8,10],[(8,0,false)],[],[]⟩]) (nc:=11) (by kernel_rfl)
    ⟨fun σ W g h hp hb=>toZ (I5 W _ _ a b K (sg1 (h 1 rfl)) (sg2 (h 1 rfl)) (by omega) ba bb) rfl,
    fun σ W g h hp hb=>fun ρ o ho _ hv=>⟨_,E7 false ho ((A0 hv).1.trans (h 2 rfl)) (A0 hv).2 (decide_eq_false h0),rfl⟩,
    fun σ W g h hp hb=>eK W _ a b K (h 1 rfl) (by omega) ba bb (hTab.kept g (by simp)),
    fun σ W g h hp hb=>toRf (Nat.zero_le _) (nH W _ _ a b _ K (h 1 rfl) (h 4 rfl) (by omega) ba bb h1),
    fun σ W g h hp hb=>by
     obtain ⟨⟨q,u0,u1,u2,u3,u4,u5,u6,u7,e1,e2,e3⟩,e9⟩:=h 5 rfl
     have e1:Value.func (.func 95) #[] #[σ.an 5 0]=_:=e1
     have e1 : σ.an 5 0 = .pointer (some ⟨q,0,none⟩):=by simpa using e1
     have e4:PtsV W (σ.an 0 0) l:=(h 0 rfl).1
     show Calls _ _ #[σ.an 0 0,.agg #[σ.an 4 0, σ.an 4 1, σ.an 4 2, σ.an 4 3, σ.an 4 4, σ.an 4 5, σ.an 4 6, σ.an 4 7],.func (.func 95) #[] #[σ.an 5 0]] W _
     rw [e1]
     exact toSZZ (eM W _ q _ _ _ _ _ _ _ _ u0 u1 u2 u3 u4 u5 u6 u7 l (B7 a b) (4*K+2) e4 (h 4 rfl) e2 e3 (by omega) (by omega) hbd' bm (hTab.kept g (by simp)) (by obtain ⟨s,n,c,e,_⟩:=e4;rw [e];rfl)),
    fun σ W g h hp hb=>by
     obtain ⟨⟨q,u0,u1,u2,u3,u4,u5,u6,u7,e1,e2,e3⟩,e9⟩:=h 5 rfl
     have e1:Value.func (.func 95) #[] #[σ.an 5 0]=_:=e1
     have e1 : σ.an 5 0 = .pointer (some ⟨q,0,none⟩):=by simpa using e1
     show Calls _ _ #[_, σ.an 5 0] W _
     rw [e1]
     exact toZ (X7 W _ q u0 u1 u2 u3 u4 u5 u6 u7 b (B7 a b) (4*K+2) (sg2 (h 1 rfl)) e2 e3 (by omega) (bb.mono (by omega)) bm) rfl,
    fun σ W g h hp hb=>fun ρ o ho _ hv=>⟨_,O8 _ ho ((A0 hv).1.trans (h 7 rfl)) (A0 hv).2 rfl,rfl⟩,
    fun σ W g h hp hb=>fun ρ o ho _ hv=>⟨_,B9 ho ((A0 hv).1.trans (lV (h 6 rfl))) ((A0 hv).2.trans (szz2 (h 6 rfl))) (J7 (by omega) (by omega)),rfl⟩,
    fun σ W g h hp hb=>fun ρ o ho _ hv=>⟨_,B9 ho ((A0 hv).1.trans (lV (h 6 rfl))) ((A0 hv).2.trans (szz2 (h 6 rfl))) (J7 (by omega) (by omega)),rfl⟩,
    trivial⟩
    ⟨fun σ W g h hp=>⟨_,h 8 rfl⟩,
    trivial⟩
    ⟨fun τ W g h hp hb=>by
     have q:=of_decide_eq_true (vBy (h 8 rfl) (hp 8 0 true rfl))
     refine ⟨?_,g⟩
     unfold cL
     rw [if_pos q]
     have e1 : τ.an 9 0=_:=h 9 rfl
     have e2 : τ.an 6 0=_:=lV (h 6 rfl)
     show Ending.returned (.tuple #[τ.an 9 0, τ.an 6 0])=_
     rw [e1,e2],
    fun τ W g h hp hb=>by
     have q:=of_decide_eq_false (vBy (h 8 rfl) (hp 8 0 false rfl))
     refine ⟨?_,g⟩
     unfold cL
     rw [if_neg q]
     have e1 : τ.an 10 0=_:=h 10 rfl
     have e2 : τ.an 6 0=_:=lV (h 6 rfl)
     show Ending.returned (.tuple #[τ.an 6 0, τ.an 10 0])=_
     rw [e1,e2],
    trivial⟩
def onB (l:List Pq) (p:Pq):Bool:=(List.range l.length).any fun i=>decide (B5 (pt0 l i) (nxt l i) p=0) && decide (jZ p (pt0 l i) (nxt l i)<=0)
theorem mN (l:List Pq) (p:Pq):dec (OnR l p)=onB l p:=by
 have key:OnR l p ↔ onB l p=true:=by
  unfold OnR onB
  rw [List.any_eq_true]
  constructor
  · rintro ⟨i,hi,h⟩
    have:=ins_doc.1 h
    exact ⟨i,List.mem_range.2 hi,by rw [Bool.and_eq_true];exact ⟨decide_eq_true this.1,decide_eq_true this.2⟩⟩
  · rintro ⟨i,hi,h⟩
    rw [Bool.and_eq_true] at h
    exact ⟨i,List.mem_range.1 hi,ins_doc.2 ⟨of_decide_eq_true h.1,of_decide_eq_true h.2⟩⟩
 cases hb:onB l p with
 | true=>exact iQ (key.2 hb)
 | false=>exact X5 fun e=>by rw [key.1 e] at hb;cases hb
def arB (l:List Pq) (p:Pq):Int:=if onB l p=true then 0 else winds l p
theorem arB_is (l:List Pq) (p:Pq):arN l p=arB l p:=by unfold arN arB;rw [mN]
def rowK:List G2:=[(0,0),(4,0),(4,4),(0,4)]
theorem bZ:∀ d ∈ rowK,eU d:=by
 intro d hd
 unfold eU
 simp [rowK] at hd
 rcases hd with rfl | rfl | rfl | rfl<;>refine ⟨⟨?_, ?_⟩, ?_, ?_⟩<;>decide
theorem bX:rowK.length<=200:=by decide
theorem glK_len:(gl rowK).length<=200:=by decide
theorem eW {W:World} {q:Nat} (hb:W.heap[q]?=some (.cells #[.int .i64 0,.int .i64 0,.int .i64 4,.int .i64 0,.int .i64 4,.int .i64 4,.int .i64 0,.int .i64 4] 60 (0,0))):GsV W.heap.size W (.slice (some ⟨q,0,none⟩) 4 4) rowK:=by
 refine ⟨_,_,_,rfl,rfl,by omega,.inr ⟨q,0,rfl,(Array.getElem?_eq_some_iff.1 hb).1,fun i hi=>?_⟩⟩
 match i,hi with
 | 0,_=>constructor<;>(unfold World.cell?;rw [hb];rfl)
 | 1,_=>constructor<;>(unfold World.cell?;rw [hb];rfl)
 | 2,_=>constructor<;>(unfold World.cell?;rw [hb];rfl)
 | 3,_=>constructor<;>(unfold World.cell?;rw [hb];rfl)
theorem kn1:arN (gl rowK) (E4 1 1)=1/\dec (OnR (gl rowK) (E4 1 1))=false:=by rw [arB_is,mN];constructor<;>decide +kernel
theorem kn2:arN (gl rowK) (E4 5 5)=0/\dec (OnR (gl rowK) (E4 5 5))=false:=by rw [arB_is,mN];constructor<;>decide +kernel
theorem kn3:arN (gl rowK) (E4 4 2)=0/\dec (OnR (gl rowK) (E4 4 2))=true:=by rw [arB_is,mN];constructor<;>decide +kernel
theorem kn4:(bes (gl rowK) (E4 0 0) (E4 4 0)).1=1/\(bes (gl rowK) (E4 0 0) (E4 4 0)).2=0:=by constructor<;>decide +kernel
theorem glK_b:∀ p ∈ gl rowK,Bp 1 p:=by
 intro p hp
 obtain ⟨d,hd,rfl⟩:=List.mem_map.1 hp
 have:=bZ d hd
 exact dM this.1.1 this.1.2 this.2.1 this.2.2
theorem gk_b {x y:Int} (hx : 0<=x/\x<=5) (hy : 0<=y/\y<=5):Bp 1 (E4 x y):=dM (by omega) (by omega) (by omega) (by omega)
theorem N6 (w:World) (hTab:Tab w) :
 Calls Tryz.prog 17 #[] w (fun e w'=>e = .returned (.bool true)/\w.grownBy w' none):=by
 refine X2 B1 Tryz.func17 [] [sPt (E4 1 1),sVV (.int .i64 1) (.bool false),sPt (E4 5 5),sVV (.int .i64 0) (.bool false),sPt (E4 4 2),sVV (.int .i64 0) (.bool true),sPts 0 (gl rowK),sPt (E4 0 0),sPt (E4 4 0),sVV (.int .i64 1) (.int .i64 0)] [] [] .nil (rs:=[(cl 0 25 [.v true [.lit (.int .i64 1),.lit (.int .i64 1)]],[]),(clb 1 15 [.v false [.row 0 0 4 4],ag 8 0] [0] [(0,60,[.lit (.int .i64 0),.lit (.int .i64 0),.lit (.int .i64 4),.lit (.int .i64 0),.lit (.int .i64 4),.lit (.int .i64 4),.lit (.int .i64 0),.lit (.int .i64 4)])],[]),(cl 2 25 [.v true [.lit (.int .i64 5),.lit (.int .i64 5)]],[]),(clb 3 15 [.v false [.row 0 0 4 4],ag 8 2] [0,1,2] [(0,60,[.lit (.int .i64 0),.lit (.int .i64 0),.lit (.int .i64 4),.lit (.int .i64 0),.lit (.int .i64 4),.lit (.int .i64 4),.lit (.int .i64 0),.lit (.int .i64 4)])],[]),(cl 4 25 [.v true [.lit (.int .i64 4),.lit (.int .i64 2)]],[]),(clb 5 15 [.v false [.row 0 0 4 4],ag 8 4] [0,1,2,3,4] [(0,60,[.lit (.int .i64 0),.lit (.int .i64 0),.lit (.int .i64 4),.lit (.int .i64 0),.lit (.int .i64 4),.lit (.int .i64 4),.lit (.int .i64 0),.lit (.int .i64 4)])],[]),(clb 6 19 [.v false [.row 0 0 4 4]] [0,1,2,3,4,5] [(0,60,[.lit (.int .i64 0),.lit (.int .i64 0),.lit (.int .i64 4),.lit (.int .i64 0),.lit (.int .i64 4),.lit (.int .i64 4),.lit (.int .i64 0),.lit (.int .i64 4)])],[]),(cl 7 25 [.v true [.lit (.int .i64 0),.lit (.int .i64 0)]],[]),(cl 8 25 [.v true [.lit (.int .i64 4),.lit (.int .i64 0)]],[]),(cl 9 18 [on 6,.v true [.an 7 0,.an 7 1,.an 7 2,.an 7 3,.an 7 4,.an 7 5,.an 7 6,.an 7 7,.an 8 0,.an 8 1,.an 8 2,.an 8 3,.an 8 4,.an 8 5,.an 8 6,.an 8 7]],[])]) (js:=[]) (outs:=[⟨.v false [.lit (.bool true)],(List.range 10),[],[],[]⟩]) (nc:=10) (by kernel_rfl)
  ⟨fun σ W g h hp hb=>K9 W 1 1 (by omega) (by omega) (by omega) (by omega),
  fun σ W g h hp hb=>toVV (X8 W _ _ rowK (E4 1 1) 1 (eW (hb.1 _ (.head _))) (h 0 rfl) (by omega) bX bZ (gk_b (by omega) (by omega)) (hTab.kept g (by simp))) (congrArg (Value.int .i64) kn1.1) (congrArg Value.bool kn1.2),
  fun σ W g h hp hb=>K9 W 5 5 (by omega) (by omega) (by omega) (by omega),
  fun σ W g h hp hb=>toVV (X8 W _ _ rowK (E4 5 5) 1 (eW (hb.1 _ (.head _))) (h 2 rfl) (by omega) bX bZ (gk_b (by omega) (by omega)) (hTab.kept g (by simp))) (congrArg (Value.int .i64) kn2.1) (congrArg Value.bool kn2.2),
  fun σ W g h hp hb=>K9 W 4 2 (by omega) (by omega) (by omega) (by omega),
  fun σ W g h hp hb=>toVV (X8 W _ _ rowK (E4 4 2) 1 (eW (hb.1 _ (.head _))) (h 4 rfl) (by omega) bX bZ (gk_b (by omega) (by omega)) (hTab.kept g (by simp))) (congrArg (Value.int .i64) kn3.1) (congrArg Value.bool kn3.2),
  fun σ W g h hp hb=>toPts (Nat.zero_le _) (dW W _ rowK (eW (hb.1 _ (.head _))) bX bZ),
  fun σ W g h hp hb=>K9 W 0 0 (by omega) (by omega) (by omega) (by omega),
  fun σ W g h hp hb=>K9 W 4 0 (by omega) (by omega) (by omega) (by omega),
  fun σ W g h hp hb=>toVV (eN W _ _ (gl rowK) (E4 0 0) (E4 4 0) 1 (h 6 rfl).1 (mksg (h 7 rfl) (h 8 rfl)) (by omega) glK_len glK_b (gk_b (by omega) (by omega)) (gk_b (by omega) (by omega)) (hTab.kept g (by simp))) (congrArg (Value.int .i64) kn4.1) (congrArg (Value.int .i64) kn4.2),
  trivial⟩
  trivial
  ⟨fun τ W g h hp hb=>⟨rfl,g⟩,
  trivial⟩
def kG:dY G2:=⟨60,2,fun _ cs d=>cs=[.int .i64 d.1,.int .i64 d.2],fun h _=>h,by kernel_rfl⟩
theorem OwV.gs {base:Nat} {W:World} {v:Value} {l:List G2} (h:OwV kG base W v l):GsV W.heap.size W v l:=by
 obtain ⟨xs,⟨hl,h2⟩,hA⟩:=h
 rcases h2 with ⟨rfl,h0⟩ | ⟨g,cap,cur,rfl,hbg,hg,hnc,hcm,hcs,htk⟩
 · exact ⟨none,0,0,rfl,h0,Nat.le_refl _,.inl (List.eq_nil_of_length_eq_zero h0)⟩
 · refine ⟨_,_,_,rfl,rfl,hnc,.inr ⟨g,0,rfl,(Array.getElem?_eq_some_iff.1 hg).1,fun i hi=>?_⟩⟩
   have e:(xs.drop (2*i)).take 2=[.int .i64 l[i].1,.int .i64 l[i].2]:=hA i hi
   have hx:∀ r u,r<2->((xs.drop (2*i)).take 2)[r]?=some u->W.cell? ⟨g,0+2*i+r,none⟩=some u:=fun r u hr hu=>by
    rw [List.getElem?_take_of_lt hr,List.getElem?_drop] at hu
    have hlt : 2*i+r<l.length*2:=by omega
    have:cur[2*i+r]?=some u:=by
     rw [<- Array.getElem?_toList]
     have h3:(cur.toList.take (l.length*2))[2*i+r]?=some u:=by
      have htk':cur.toList.take (l.length*2)=xs:=htk
      rw [htk'];exact hu
     rwa [List.getElem?_take_of_lt hlt] at h3
    rw [Nat.zero_add]
    unfold World.cell?
    rw [hg]
    exact this
   exact ⟨hx 0 _ (by omega) (by rw [e];rfl),hx 1 _ (by omega) (by rw [e];rfl)⟩
theorem GsV.up {b B:Nat} {w:World} {v:Value} {l:List G2} (h:GsV b w v l) (hB:b<=B):GsV B w v l:=by
 obtain ⟨s,n,c,rfl,h1,h2,h3⟩:=h
 exact ⟨s,n,c,rfl,h1,h2,h3.imp_right fun ⟨q,off,e,hq,hd⟩=>⟨q,off,e,Nat.lt_of_lt_of_le hq hB,hd⟩⟩
theorem GsV.rebase {b B:Nat} {w:World} {v:Value} {l:List G2} (h:GsV b w v l) (hB:∀ q,fpS v q->q<B):GsV B w v l:=by
 obtain ⟨s,n,c,rfl,h1,h2,h3⟩:=h
 refine ⟨s,n,c,rfl,h1,h2, ?_⟩
 by_cases h0:l=[]
 · exact .inl h0
 · obtain ⟨q,off,rfl,hq,hd⟩:=h3.resolve_left h0
   obtain ⟨m,rfl⟩:∃ m,n=m+1:=⟨n-1,by have:=List.length_pos_iff.2 h0;omega⟩
   exact .inr ⟨q,off,rfl,hB q ⟨off,m,c,rfl⟩,hd⟩
theorem X0 (l:List H3) (k:Nat) (h:k<l.length):rp (hg l k)=pt0 (l.map rp) k:=by simp [hg,pt0,h]
theorem aY (l:List H3) (k:Nat) (h:k<l.length):rp (hg l ((k+1)%l.length))=nxt (l.map rp) k:=by
 have:=Nat.mod_lt (k+1) (show 0<l.length by omega)
 unfold nxt
 rw [X0 l _ this,List.length_map]
theorem vBx {v:Value} {a b:Bool} (h:v = .bool a) (h2:v = .bool b):a=b:=by rw [h] at h2;exact Value.bool.inj h2
def sGe (base:Nat) (va:Value) (l:List G2):Sp where
 sh := .one
 F v W:=v=va/\GsV base W v l
 fits v W h:=by obtain ⟨_,s,n,c,rfl,_⟩:=h;exact ⟨fun _ => .slice s n c,fun _=>rfl,rfl⟩
 row:=true
 fp v _ q:=fpS v q
 lasts v W W' k hq h:=⟨⟨h.1,h.2.keeps hq⟩,fun _ h=>h⟩
 inb v W h q hq:=(h.2.block hq).2
 flat h:=by cases h
def FewV (base:Nat) (va:Value) (l:List G2) (v:Value) (W:World):Prop:=∃ a b,v = .tuple #[a,b]/\GsV base W a l/\(∀ q,fpS a q->fpS va q)/\HrV W b (hrl l) /\ ∀ q,fpS b q->base<=q
def sFew (base:Nat) (va:Value) (l:List G2):Sp where
 sh := .tup [(none,0),(none,0)]
 F v W:=FewV base va l v W
 fits v W h:=by
  obtain ⟨a,b,rfl,⟨s,n,c,rfl,_⟩,_,⟨s',n',c',rfl,_⟩,_⟩:=h
  exact V4 (u := .bool true) (cs:=[.slice s n c,.slice s' n' c']) (by simp [Value.oneCell']) rfl
 row:=true
 fp v _ q:=∃ a b,v = .tuple #[a,b]/\(fpS a q\/fpS b q)
 lasts v W W' k hq h:=by
  obtain ⟨a,b,rfl,h1,h2,h3,h4⟩:=h
  exact ⟨⟨a,b,rfl,h1.keeps fun q hf=>hq q ⟨a,b,rfl,.inl hf⟩,h2,h3.keeps k fun q hf=>hq q ⟨a,b,rfl,.inr hf⟩,h4⟩,fun _ h=>h⟩
 inb v W h q hq:=by
  obtain ⟨a,b,rfl,h1,h2,h3,h4⟩:=h
  obtain ⟨a',b',e,hq⟩:=hq
  cases e
  rcases hq with hq | hq
  · exact (h1.block hq).2
  · exact h3.inb q hq
 flat h:=by cases h
theorem toFew {P:Program} {f:FuncId} {args:Array Value} {W:World} {base:Nat} {va:Value} {l:List G2} {old:Nat->Prop} (hb:base<=W.heap.size) (ho:∀ q,fpS va q->old q) (hlt:∀ q,fpS va q->q<base) (h:Calls P f args W (RetFew W va l)):Calls P f args W (RetS W (sFew base va l) old):=
 h.mono fun _ _ ⟨v,u,a,h1,h2,h3,h4,g⟩=>⟨_,a,⟨v,u,rfl,h1.rebase fun q hq=>hlt q (h2 q hq),h2,h3,fun q hq=>Nat.le_trans hb (h4 q hq)⟩,g,fun q hq=>by
  obtain ⟨a',b',e,hq⟩:=hq
  cases e
  rcases hq with hq | hq
  · exact .inr (ho q (h2 q hq))
  · exact .inl (h4 q hq)⟩
theorem few1 {base:Nat} {va:Value} {l:List G2} {a b:Value} {W:World} : (sFew base va l).F (.tuple #[a,b]) W->GsV base W a l:=fun ⟨_,_,e,h,_⟩=>by cases e;exact h
theorem few2 {base:Nat} {va:Value} {l:List G2} {a b:Value} {W:World} : (sFew base va l).F (.tuple #[a,b]) W->HrV W b (hrl l):=fun ⟨_,_,e,_,_,h,_⟩=>by cases e;exact h
section
variable {ρ : Operand->Value} {o:Oper} {W:World}
end
theorem gridRp (x y:Int):rp ⟨x,y,1⟩=E4 x y:=by
 unfold rp E4
 refine Prod.ext ?_ ?_<;>simp only [q_of]<;>rw [show ((1:Int):Rat)=1 from rfl,Rat.div_def,show (1:Rat)⁻¹ = 1 by decide +kernel,Rat.mul_one]
theorem hrl_rp (l:List G2):(hrl l).map rp=gl l:=by
 unfold hrl gl
 rw [List.map_map]
 exact List.map_congr_left fun d _=>gridRp d.1 d.2
theorem hrl_b {l:List G2} (h:∀ d ∈ l,eU d):∀ p ∈ hrl l,HB 5 p/\0<p.z:=by
 intro p hp
 obtain ⟨d,hd,rfl⟩:=List.mem_map.1 hp
 have:=h d hd
 have h1:=lat_h (d:=0) this.1.1 this.1.2 this.2.1 this.2.2
 exact ⟨⟨h1.1,h1.2.1,dint (n:=1) (by decide) (by decide)⟩,(by decide:(0:Int)<1)⟩
end Go.Proofs.YtninnifpgpjfhaaGreatDoor
namespace Go.Proofs.YtninnifpgpjfhaaGreatDoor.PM
def gI (s v u:Int):Int:=if s<0 then (if v<=0/\0<u then -1 else 0) else (if 0<v/\u<=0 then 1 else 0)
def gO (v u:Int):Int:=if v<0\/v=0/\0<u then -1 else 0
def crs (n e:Pq):Rat:=n.1*e.2-n.2*e.1
def prp (n:Pq):Pq:=(n.2, -n.1)
def gA (a b e:Pq) (x:Pq):Int:=
 if x=B7 a b then (if 0<rsg (crs (nrm a b) e)/\0<ld e (B7 a b) b then 1 else 0)
 else if rsg (crs (nrm a b) e)=0 then (if 0<ld e (B7 a b) b then gO (ld (nrm a b) (B7 a b) x) (ld (prp (nrm a b)) (B7 a b) x) else 0)
 else gI (rsg (crs (nrm a b) e)) (ld (nrm a b) (B7 a b) x) (ld e (B7 a b) x)
def gB (n p x:Pq):Int:=if rsg (crs n (1,0))=0 then (if n.1<0 then gO (ld n p x) (ld (prp n) p x) else 0) else gI (rsg (crs n (1,0))) (ld n p x) (ld (1,0) p x)
def Fair (a b x y:Pq):Prop:=¬ InS x y (B7 a b)\/B5 a b x=0/\B5 a b y=0
end Go.Proofs.YtninnifpgpjfhaaGreatDoor.PM
namespace Go.Proofs.YtninnifpgpjfhaaGreatDoor
open Go.RowKit Mat Ex PM
def S7 (a b:H3):H3:=⟨a.x*b.z+b.x*a.z,a.y*b.z+b.y*a.z,2*(a.z*b.z)⟩
theorem I4 {a b:H3} (za : 0<a.z) (zb : 0<b.z) : 0<(S7 a b).z:=Int.mul_pos (by decide) (Int.mul_pos za zb)
theorem mid_frac {p q r s:Rat} (hq:q≠0) (hs:s≠0):(p*s+r*q) / (2*(q*s))=(p / q+r / s)*(1 / 2):=by
 have h1:p=p / q*q:=(Rat.div_mul_cancel hq).symm
 have h2:r=r / s*s:=(Rat.div_mul_cancel hs).symm
 have hd:(2:Rat)*(q*s)≠0:=by
  intro e
  rcases Rat.mul_eq_zero.1 e with e | e
  · exact absurd e (by decide)
  · rcases Rat.mul_eq_zero.1 e with e | e
    · exact hq e
    · exact hs e
 have key:p*s+r*q=(p / q+r / s)*(1 / 2)*(2*(q*s)):=by
  generalize p / q=u at *
  generalize r / s=v at *
  rw [h1,h2];grind
 rw [key];exact Rat.mul_div_cancel hd
theorem K4 {a b:H3} (za : 0<a.z) (zb : 0<b.z):rp (S7 a b)=B7 (rp a) (rp b):=by
 have h1:=hz za
 have h2:=hz zb
 unfold rp S7 B7
 refine Prod.ext ?_ ?_<;>simp only [q_of,Rat.intCast_add,Rat.intCast_mul]<;>rw [show ((2:Int):Rat)=2 from rfl]
 · exact mid_frac h1 h2
 · exact mid_frac h1 h2
theorem HB.mid {E:Nat} {a b:H3} (ha:HB E a) (hb:HB E b) (hE : 1<=E):HB (2*E+2) (S7 a b):=by
 unfold S7
 have d2:(2:Int).natAbs<D^1:=by unfold D;decide
 refine ⟨dpw (aH (C5 ha.1 hb.2.2) (C5 hb.1 ha.2.2)) (by omega),dpw (aH (C5 ha.2.1 hb.2.2) (C5 hb.2.1 ha.2.2)) (by omega),dpw (C5 d2 (C5 ha.2.2 hb.2.2)) (by omega)⟩
theorem kP (w:World) (va:Value) (a b:H3) (E:Nat) (Ha:HsV w va a b) (hE:E<=10000) (ba:HB E a) (bb:HB E b) :
 Calls Tryz.prog 23 #[va] w (RetH w (S7 a b)):=by
 refine A5 B1 Tryz.func23 [sHs a b] [sR (a.x*b.z),sR (b.x*a.z),sR (a.x*b.z+b.x*a.z),sR (a.y*b.z),sR (b.y*a.z),sR (a.y*b.z+b.y*a.z),sR 2,sR (a.z*b.z),sR (2*(a.z*b.z))] (.cons Ha .nil) (rs:=[cl 1 61 [ag 2 0,.v true [.an 0 10,.an 0 11]],cl 2 61 [.v true [.an 0 6,.an 0 7],.v true [.an 0 4,.an 0 5]],cl 3 60 [ag 2 1,ag 2 2],cl 4 61 [.v true [.an 0 2,.an 0 3],.v true [.an 0 10,.an 0 11]],cl 5 61 [.v true [.an 0 8,.an 0 9],.v true [.an 0 4,.an 0 5]],cl 6 60 [ag 2 4,ag 2 5],cl 7 28 [.v false [.lit (.int .i64 2)]],cl 8 61 [.v true [.an 0 4,.an 0 5],.v true [.an 0 10,.an 0 11]],cl 9 61 [ag 2 7,ag 2 8]]) (out := .v true [.an 3 0,.an 3 1,.an 6 0,.an 6 1,.an 9 0,.an 9 1]) (nc:=10) (by kernel_rfl)
  ⟨fun σ W g h hb=>M3 W _ _ _ _ (h31 (hs1 (h 0 rfl))) (h33 (hs2 (h 0 rfl))) (dp6 ba.1 (by omega)) (dp6 bb.2.2 (by omega)),
  fun σ W g h hb=>M3 W _ _ _ _ (h31 (hs2 (h 0 rfl))) (h33 (hs1 (h 0 rfl))) (dp6 bb.1 (by omega)) (dp6 ba.2.2 (by omega)),
  fun σ W g h hb=>Z4 W _ _ _ _ (h 1 rfl) (h 2 rfl) (dp6 (C5 ba.1 bb.2.2) (by omega)) (dp6 (C5 bb.1 ba.2.2) (by omega)),
  fun σ W g h hb=>M3 W _ _ _ _ (h32 (hs1 (h 0 rfl))) (h33 (hs2 (h 0 rfl))) (dp6 ba.2.1 (by omega)) (dp6 bb.2.2 (by omega)),
  fun σ W g h hb=>M3 W _ _ _ _ (h32 (hs2 (h 0 rfl))) (h33 (hs1 (h 0 rfl))) (dp6 bb.2.1 (by omega)) (dp6 ba.2.2 (by omega)),
  fun σ W g h hb=>Z4 W _ _ _ _ (h 4 rfl) (h 5 rfl) (dp6 (C5 ba.2.1 bb.2.2) (by omega)) (dp6 (C5 bb.2.1 ba.2.2) (by omega)),
  fun σ W g h hb=>cB W 2 (by omega) (by omega),
  fun σ W g h hb=>M3 W _ _ _ _ (h33 (hs1 (h 0 rfl))) (h33 (hs2 (h 0 rfl))) (dp6 ba.2.2 (by omega)) (dp6 bb.2.2 (by omega)),
  fun σ W g h hb=>M3 W _ _ _ _ (h 7 rfl) (h 8 rfl) (dp6 (by unfold D;decide:(2:Int).natAbs<D^1) (by omega)) (dp6 (C5 ba.2.2 bb.2.2) (by omega)),
  trivial⟩ fun τ W g h=>⟨_,rfl,mkh (h 3 rfl) (h 6 rfl) (h 9 rfl),g⟩
def fairK (l:List Pq) (a b:Pq) (k:Nat):Prop:=∀ i,i<k->PM.Fair a b (pt0 l i) (nxt l i)
def cR (l:List Pq) (a b:Pq):Prop:=fairK l a b l.length
theorem hbm {E M:Nat} {p:H3} (h:HB E p) (hm:E<=M):HB M p:=⟨dpw h.1 hm,dpw h.2.1 hm,dpw h.2.2 hm⟩
theorem rHFair_any (w:World) (va vb:Value) (l:List H3) (a b:H3) (E:Nat) (Ha:HrV w va l) (Hb:HsV w vb a b) (hE : 1<=E/\E<=4000) (hn:l.length<=40) (hl:∀ p ∈ l,HB E p/\0<p.z) (ba:HB E a) (bb:HB E b) (za : 0<a.z) (zb : 0<b.z) :
 Calls Tryz.prog 21 #[va,vb] w (RetB w (dec (cR (l.map rp) (rp a) (rp b)))):=by
 have bm:=ba.mid bb hE.1
 refine N8 B1 Tryz.func21 [sHr 0 l,sHs a b] (fun k:Nat=>[sH (S7 a b),sZc (k<=l.length/\fairK (l.map rp) (rp a) (rp b) k) (k:Int),sZ l.length,sC (.bool (decide (k<l.length))) rfl,sHa (hg l (k)),sH (hg l (k)),sZ ((k:Int)+1),sZ l.length,sZ (((k+1)%l.length:Nat):Int),sHa (hg l (((k+1)%l.length))),sH (hg l (((k+1)%l.length))),sC (.bool (dec (InS (rp (hg l k)) (rp (hg l ((k+1)%l.length))) (B7 (rp a) (rp b))))) rfl,sC (.bool (decide (rsg (B5 (rp a) (rp b) (rp (hg l k)))≠0))) rfl,sV (.bool true),sZ (rsg (B5 (rp a) (rp b) (rp (hg l k)))),sV (.bool true),sV (.bool true),sZ (rsg (B5 (rp a) (rp b) (rp (hg l k)))),sV (.bool false),sZ (rsg (B5 (rp a) (rp b) (rp (hg l ((k+1)%l.length))))),sC (.bool (decide (rsg (B5 (rp a) (rp b) (rp (hg l ((k+1)%l.length))))≠0))) rfl,sV (.bool false),sZ ((k:Int)+1),sZ ((k:Int)+1)]) (fun m k=>if m=3 then l.length-k else 0) (0) (fun _=>rfl) [1000000,6] [some [[.t 7,.t 8,.t 11,.t 12,.t 13,.t 14,.t 15,.t 16,.t 17,.t 18,.t 19,.t 20,.t 21,.t 22,.t 23,.t 24,.t 25,.t 26,.t 27,.t 28,.t 29,.t 30,.t 31,.t 32,.t 33,.t 34,.t 35,.t 36,.t 37,.t 38,.t 39,.t 40,.t 41,.t 42,.t 43,.t 44,.t 45,.t 46,.t 47,.t 48,.t 49,.t 50,.t 51],[.t 6]]] (.cons ⟨Ha,fun _ _=>Nat.zero_le _⟩ (.cons Hb .nil)) (rs:=[(cl 2 23 [ag 12 1],[]),(co 4 (.call ⟨.builtin .len, #[(.tmp 12)], #[24]⟩) 3 [on 0] [0,1,2,3] [],[]),(co 5 (.binOp .lss 3 (.tmp 11) (.tmp 13) 3) 4 [on 3,on 4] [0,1,2,3,4] [],[]),(co 6 (.indexAddr 24 (.tmp 17) (.tmp 18)) 0 [on 0,on 3] [0,1,2,3,4,5] [],[(5,0,true)]),(co 7 (.load 43 (.tmp 19)) 43 [on 6] [0,1,2,3,4,5,6] [],[(5,0,true)]),(co 8 (.binOp .add 3 (.tmp 22) (.const (.int .i64 1)) 3) 3 [on 3,.v false [.lit (.int .i64 1)]] [0,1,2,3,4,5] [],[(5,0,true)]),(co 9 (.call ⟨.builtin .len, #[(.tmp 24)], #[24]⟩) 3 [on 0] [0,1,2,3,4,5] [],[(5,0,true)]),(co 10 (.binOp .rem 3 (.tmp 23) (.tmp 25) 3) 3 [on 8,on 9] [0,1,2,3,4,5,8,9] [],[(5,0,true)]),(co 11 (.indexAddr 24 (.tmp 21) (.tmp 26)) 0 [on 0,on 10] [0,1,2,3,4,5,8,9,10] [],[(5,0,true)]),(co 12 (.load 43 (.tmp 27)) 43 [on 11] [0,1,2,3,4,5,8,9,10,11] [],[(5,0,true)]),(cl 15 24 [.v true [.an 7 0,.an 7 1,.an 7 2,.an 7 3,.an 7 4,.an 7 5,.an 12 0,.an 12 1,.an 12 2,.an 12 3,.an 12 4,.an 12 5],ag 6 2],[(14,0,true),(13,0,true),(5,0,true)]),(cl 16 54 [ag 6 1,.v true [.an 1 6,.an 1 7,.an 1 8,.an 1 9,.an 1 10,.an 1 11],ag 6 7],[(14,0,true),(13,0,true),(5,0,true)]),(co 17 (.binOp .neq 3 (.tmp 40) (.const (.int .i64 0)) 3) 4 [on 16,.v false [.lit (.int .i64 0)]] [0,1,2,3,4,5,6,7,8,9,10,11,12,13,14,15,16] [],[(14,0,true),(13,0,true),(5,0,true)]),(cla 18 24 [.v true [.an 7 0,.an 7 1,.an 7 2,.an 7 3,.an 7 4,.an 7 5,.an 12 0,.an 12 1,.an 12 2,.an 12 3,.an 12 4,.an 12 5],ag 6 2] [0,1,2,3,4,5,6,7,8,9,10,11,12,13,14],[(14,0,false),(13,0,true),(5,0,true)]),(cla 19 54 [ag 6 1,.v true [.an 1 6,.an 1 7,.an 1 8,.an 1 9,.an 1 10,.an 1 11],ag 6 7] [0,1,2,3,4,5,6,7,8,9,10,11,12,13,14,18],[(14,0,false),(13,0,true),(5,0,true)]),(co 20 (.binOp .neq 3 (.tmp 40) (.const (.int .i64 0)) 3) 4 [on 19,.v false [.lit (.int .i64 0)]] [0,1,2,3,4,5,6,7,8,9,10,11,12,13,14,18,19] [],[(14,0,false),(13,0,true),(5,0,true)]),(cla 21 54 [ag 6 1,.v true [.an 1 6,.an 1 7,.an 1 8,.an 1 9,.an 1 10,.an 1 11],ag 6 12] [0,1,2,3,4,5,6,7,8,9,10,11,12,13,14,18,19,20],[(14,0,false),(13,0,true),(5,0,true)]),(co 22 (.binOp .neq 3 (.tmp 48) (.const (.int .i64 0)) 3) 4 [on 21,.v false [.lit (.int .i64 0)]] [0,1,2,3,4,5,6,7,8,9,10,11,12,13,14,18,19,20,21] [],[(14,0,false),(13,0,true),(5,0,true)]),(cla 23 24 [.v true [.an 7 0,.an 7 1,.an 7 2,.an 7 3,.an 7 4,.an 7 5,.an 12 0,.an 12 1,.an 12 2,.an 12 3,.an 12 4,.an 12 5],ag 6 2] [0,1,2,3,4,5,6,7,8,9,10,11,12,13],[(13,0,false),(5,0,true)]),(co 24 (.binOp .add 3 (.tmp 15) (.const (.int .i64 1)) 3) 3 [on 3,.v false [.lit (.int .i64 1)]] [0,1,2,3,4,5,6,7,8,9,10,11,12,13,14,18,19,20,21,22] [],[(22,0,false),(14,0,false),(13,0,true),(5,0,true)]),(co 25 (.binOp .add 3 (.tmp 15) (.const (.int .i64 1)) 3) 3 [on 3,.v false [.lit (.int .i64 1)]] [0,1,2,3,4,5,6,7,8,9,10,11,12,13,23] [],[(13,0,false),(5,0,true)])]) (js:=[.loop false 3 [(3,.v false [.lit (.int .i64 0)])] (List.range 3) [],.test 5 0 (List.range 6) [],.ghost 13 (List.range 13) [(5,0,true)],.ghost 14 (List.range 14) [(13,0,true),(5,0,true)],.test 22 0 [0,1,2,3,4,5,6,7,8,9,10,11,12,13,14,18,19,20,21,22] [(14,0,false),(13,0,true),(5,0,true)],.loop true 3 [(3,on 24)] [0,1,2,3,4,5,6,7,8,9,10,11,12,13,14,18,19,20,21,22,24] [(22,0,false),(14,0,false),(13,0,true),(5,0,true)],.loop true 3 [(3,on 25)] [0,1,2,3,4,5,6,7,8,9,10,11,12,13,23,25] [(13,0,false),(5,0,true)]]) (outs:=[⟨.v false [.lit (.bool false)],(List.range 18),[(14,0,true),(13,0,true),(5,0,true)],[],[]⟩,⟨.v false [.lit (.bool false)],[0,1,2,3,4,5,6,7,8,9,10,11,12,13,14,18,19,20,21,22],[(22,0,true),(14,0,false),(13,0,true),(5,0,true)],[],[]⟩,⟨.v false [.lit (.bool true)],(List.range 6),[(5,0,false)],[],[]⟩]) (nc:=26) (by kernel_rfl)
  (fun k=>⟨fun σ W g h hp hb=>kP W _ a b E (h 1 rfl) (by omega) ba bb,
  fun σ W g h hp hb=>fun ρ o ho _ hv=>⟨_,gZ (h 0 rfl).1 ho (C1 hv) ⟨43,by kernel_rfl⟩,rfl⟩,
  fun σ W g h hp hb=>fun ρ o ho _ hv=>⟨_,hr_lt ho ((A0 hv).1.trans (h 3 rfl).1) ((A0 hv).2.trans (h 4 rfl)) rfl rfl,rfl⟩,
  fun σ W g h hp hb=>fun ρ o ho _ hv=>by
   have q:=of_decide_eq_true (C6 (h 5 rfl) (hp 5 0 true rfl))
   obtain ⟨u,h1,h2,h3⟩:=dK (P:=Tryz.prog) (h 0 rfl).1 ho (A0 hv).1 (k) _ rfl (by omega) ((A0 hv).2.trans (h 3 rfl).1)
   exact ⟨u,h1,h2,fun q hq=>⟨0,rfl,h3 q hq⟩⟩,
  fun σ W g h hp hb=>fun ρ o ho _ hv=>aD (h 6 rfl) ho (C1 hv),
  fun σ W g h hp hb=>fun ρ o ho _ hv=>by
   have q:=of_decide_eq_true (C6 (h 5 rfl) (hp 5 0 true rfl))
   exact ⟨_,B9 ho ((A0 hv).1.trans (h 3 rfl).1) (A0 hv).2 (J7 (by omega) (by omega)),rfl⟩,
  fun σ W g h hp hb=>fun ρ o ho _ hv=>⟨_,gZ (h 0 rfl).1 ho (C1 hv) ⟨43,by kernel_rfl⟩,rfl⟩,
  fun σ W g h hp hb=>fun ρ o ho _ hv=>by
   have q:=of_decide_eq_true (C6 (h 5 rfl) (hp 5 0 true rfl))
   exact ⟨_,mD ho ((A0 hv).1.trans (h 8 rfl)) ((A0 hv).2.trans (h 9 rfl)) (by omega) (by omega) (by omega),congrArg (Value.int .i64) (by push_cast;rfl)⟩,
  fun σ W g h hp hb=>fun ρ o ho _ hv=>by
   have q:=of_decide_eq_true (C6 (h 5 rfl) (hp 5 0 true rfl))
   obtain ⟨u,h1,h2,h3⟩:=dK (P:=Tryz.prog) (h 0 rfl).1 ho (A0 hv).1 (((k+1)%l.length)) _ rfl (Nat.mod_lt _ (by omega)) ((A0 hv).2.trans (h 10 rfl))
   exact ⟨u,h1,h2,fun q hq=>⟨0,rfl,h3 q hq⟩⟩,
  fun σ W g h hp hb=>fun ρ o ho _ hv=>aD (h 11 rfl) ho (C1 hv),
  fun σ W g h hp hb=>by
   have q:=of_decide_eq_true (C6 (h 5 rfl) (hp 5 0 true rfl))
   have a0:=hl _ (B6 (l:=l) (k:=k) (by omega))
   have a1:=hl _ (B6 (l:=l) (k:=(k+1)%l.length) (Nat.mod_lt _ (by omega)))
   have hh:=L5 W _ _ _ _ (S7 a b) (2*E+2) (gR (h 7 rfl) (h 12 rfl)) (h 2 rfl) (by omega) (hbm a0.1 (by omega)) (hbm a1.1 (by omega)) bm a0.2 a1.2 (I4 za zb)
   rw [K4 za zb,vBx (h 13 rfl) (hp 13 0 true rfl)] at hh
   exact hh.mono fun _ _ ⟨a,g⟩=>⟨_,a,rfl,g⟩,
  fun σ W g h hp hb=>by
   have q:=of_decide_eq_true (C6 (h 5 rfl) (hp 5 0 true rfl))
   have a0:=hl _ (B6 (l:=l) (k:=k) (by omega))
   have a1:=hl _ (B6 (l:=l) (k:=(k+1)%l.length) (Nat.mod_lt _ (by omega)))
   exact (M5 W _ _ _ a b _ E (hs1 (h 1 rfl)) (hs2 (h 1 rfl)) (h 7 rfl) (by omega) ba bb a0.1 za zb a0.2).mono fun _ _ ⟨a,g⟩=>⟨_,a,rfl,g⟩,
  fun σ W g h hp hb=>fun ρ o ho _ hv=>⟨_,N2 true ho ((A0 hv).1.trans (h 16 rfl)) (A0 hv).2 (decide_eq_false (of_decide_eq_true (vBx (h 14 rfl) (hp 14 0 true rfl)))),rfl⟩,
  fun σ W g h hp hb=>by
   have q:=of_decide_eq_true (C6 (h 5 rfl) (hp 5 0 true rfl))
   have a0:=hl _ (B6 (l:=l) (k:=k) (by omega))
   have a1:=hl _ (B6 (l:=l) (k:=(k+1)%l.length) (Nat.mod_lt _ (by omega)))
   have hh:=L5 W _ _ _ _ (S7 a b) (2*E+2) (gR (h 7 rfl) (h 12 rfl)) (h 2 rfl) (by omega) (hbm a0.1 (by omega)) (hbm a1.1 (by omega)) bm a0.2 a1.2 (I4 za zb)
   rw [K4 za zb,vBx (h 13 rfl) (hp 13 0 true rfl)] at hh
   exact hh.mono fun _ _ ⟨a,g⟩=>⟨_,a,rfl,g⟩,
  fun σ W g h hp hb=>by
   have q:=of_decide_eq_true (C6 (h 5 rfl) (hp 5 0 true rfl))
   have a0:=hl _ (B6 (l:=l) (k:=k) (by omega))
   have a1:=hl _ (B6 (l:=l) (k:=(k+1)%l.length) (Nat.mod_lt _ (by omega)))
   exact (M5 W _ _ _ a b _ E (hs1 (h 1 rfl)) (hs2 (h 1 rfl)) (h 7 rfl) (by omega) ba bb a0.1 za zb a0.2).mono fun _ _ ⟨a,g⟩=>⟨_,a,rfl,g⟩,
  fun σ W g h hp hb=>fun ρ o ho _ hv=>by
   have q:=of_decide_eq_false (vBx (h 14 rfl) (hp 14 0 false rfl))
   exact ⟨_,N2 false ho ((A0 hv).1.trans (h 19 rfl)) (A0 hv).2 (decide_eq_true (by omega)),rfl⟩,
  fun σ W g h hp hb=>by
   have q:=of_decide_eq_true (C6 (h 5 rfl) (hp 5 0 true rfl))
   have a0:=hl _ (B6 (l:=l) (k:=k) (by omega))
   have a1:=hl _ (B6 (l:=l) (k:=(k+1)%l.length) (Nat.mod_lt _ (by omega)))
   exact (M5 W _ _ _ a b _ E (hs1 (h 1 rfl)) (hs2 (h 1 rfl)) (h 12 rfl) (by omega) ba bb a1.1 za zb a1.2).mono fun _ _ ⟨a,g⟩=>⟨_,a,rfl,g⟩,
  fun σ W g h hp hb=>fun ρ o ho _ hv=>⟨_,N2 _ ho ((A0 hv).1.trans (h 21 rfl)) (A0 hv).2 (by by_cases e:rsg (B5 (rp a) (rp b) (rp (hg l ((k+1)%l.length))))=0<;>simp [e]),rfl⟩,
  fun σ W g h hp hb=>by
   have q:=of_decide_eq_true (C6 (h 5 rfl) (hp 5 0 true rfl))
   have a0:=hl _ (B6 (l:=l) (k:=k) (by omega))
   have a1:=hl _ (B6 (l:=l) (k:=(k+1)%l.length) (Nat.mod_lt _ (by omega)))
   have hh:=L5 W _ _ _ _ (S7 a b) (2*E+2) (gR (h 7 rfl) (h 12 rfl)) (h 2 rfl) (by omega) (hbm a0.1 (by omega)) (hbm a1.1 (by omega)) bm a0.2 a1.2 (I4 za zb)
   rw [K4 za zb,vBx (h 13 rfl) (hp 13 0 false rfl)] at hh
   exact hh.mono fun _ _ ⟨a,g⟩=>⟨_,a,rfl,g⟩,
  fun σ W g h hp hb=>fun ρ o ho _ hv=>by
   have q:=of_decide_eq_true (C6 (h 5 rfl) (hp 5 0 true rfl))
   exact ⟨_,B9 ho ((A0 hv).1.trans (h 3 rfl).1) (A0 hv).2 (J7 (by omega) (by omega)),rfl⟩,
  fun σ W g h hp hb=>fun ρ o ho _ hv=>by
   have q:=of_decide_eq_true (C6 (h 5 rfl) (hp 5 0 true rfl))
   exact ⟨_,B9 ho ((A0 hv).1.trans (h 3 rfl).1) (A0 hv).2 (J7 (by omega) (by omega)),rfl⟩,
  trivial⟩)
  (fun k=>⟨fun σ W g h hp=>⟨0,(fun e=>nomatch e),⟨rfl,fun m hm=>(if_neg (by omega)).trans (if_neg (by omega)).symm⟩,⟨rfl,Nat.zero_le _,fun i hi=>absurd hi (Nat.not_lt_zero i)⟩,trivial⟩,
  fun σ W g h hp=>⟨_,h 5 rfl⟩,
  fun σ W g h hp=>⟨rfl,_,rfl⟩,
  fun σ W g h hp=>⟨rfl,_,rfl⟩,
  fun σ W g h hp=>⟨_,h 22 rfl⟩,
  fun σ W g h hp=>by
   have q:=of_decide_eq_true (C6 (h 5 rfl) (hp 5 0 true rfl))
   have hc:=(h 3 rfl).2
   refine ⟨k+1,fun _=>by show (if 3=3 then l.length-(k+1) else 0)<(if 3=3 then l.length-k else 0);rw [if_pos rfl,if_pos rfl];omega,⟨rfl,fun m hm=>(if_neg (by omega)).trans (if_neg (by omega)).symm⟩,⟨(h 24 rfl).trans (by push_cast;rfl),by omega, ?_⟩,trivial⟩
   intro i hi
   by_cases e:i=k
   · rw [e, <- X0 l k (by omega), <- aY l k (by omega)]
     exact .inr ⟨rsg_zero.1 (by have:=of_decide_eq_false (vBx (h 14 rfl) (hp 14 0 false rfl));omega),rsg_zero.1 (by have:=of_decide_eq_false (vBx (h 22 rfl) (hp 22 0 false rfl));omega)⟩
   · exact hc.2 i (by omega),
  fun σ W g h hp=>by
   have q:=of_decide_eq_true (C6 (h 5 rfl) (hp 5 0 true rfl))
   have hc:=(h 3 rfl).2
   refine ⟨k+1,fun _=>by show (if 3=3 then l.length-(k+1) else 0)<(if 3=3 then l.length-k else 0);rw [if_pos rfl,if_pos rfl];omega,⟨rfl,fun m hm=>(if_neg (by omega)).trans (if_neg (by omega)).symm⟩,⟨(h 25 rfl).trans (by push_cast;rfl),by omega, ?_⟩,trivial⟩
   intro i hi
   by_cases e:i=k
   · rw [e, <- X0 l k (by omega), <- aY l k (by omega)]
     exact .inl (decNo (vBx (h 13 rfl) (hp 13 0 false rfl)))
   · exact hc.2 i (by omega),
  trivial⟩)
  (fun k hk=>⟨fun τ W g h hp hb=>by
   have q:=of_decide_eq_true (C6 (h 5 rfl) (hp 5 0 true rfl))
   have hin:=decOf (vBx (h 13 rfl) (hp 13 0 true rfl))
   have hs:=of_decide_eq_true (vBx (h 14 rfl) (hp 14 0 true rfl))
   have hx:¬ cR (l.map rp) (rp a) (rp b):=by
    intro hf
    have:=hf k (by rw [List.length_map];exact q)
    rw [<- X0 l k (by omega), <- aY l k (by omega)] at this
    rcases this with e | ⟨e1,e2⟩
    · exact e hin
    · exact hs (rsg_zero.2 e1)
   exact ⟨by rw [X5 hx];rfl,g⟩,
  fun τ W g h hp hb=>by
   have q:=of_decide_eq_true (C6 (h 5 rfl) (hp 5 0 true rfl))
   have hin:=decOf (vBx (h 13 rfl) (hp 13 0 true rfl))
   have hs:=of_decide_eq_true (vBx (h 22 rfl) (hp 22 0 true rfl))
   have hx:¬ cR (l.map rp) (rp a) (rp b):=by
    intro hf
    have:=hf k (by rw [List.length_map];exact q)
    rw [<- X0 l k (by omega), <- aY l k (by omega)] at this
    rcases this with e | ⟨e1,e2⟩
    · exact e hin
    · exact hs (rsg_zero.2 e2)
   exact ⟨by rw [X5 hx];rfl,g⟩,
  fun τ W g h hp hb=>by
   have q:=of_decide_eq_false (C6 (h 5 rfl) (hp 5 0 false rfl))
   have hc:=(h 3 rfl).2
   have hx:cR (l.map rp) (rp a) (rp b):=by
    intro i hi
    rw [List.length_map] at hi
    exact hc.2 i (by omega)
   exact ⟨by rw [iQ hx];rfl,g⟩,
  trivial⟩)
end Go.Proofs.YtninnifpgpjfhaaGreatDoor
namespace Go.Proofs.YtninnifpgpjfhaaGreatDoor
open Go.ChangeShapes Go.WideShapes Go.ChangeAt Go.RowKit Go.ChangeMaps
theorem hU {W W':World} (h:W.grownBy W' none) {p:MemPlace} (hp:p.block<W.heap.size):W.sameAt W' p:=by
 cases p with
 | cell b o=>exact World.cell?_of_block (w:=W) (h.block b hp (by simp))
 | map b=>exact h.block b hp (by simp)
theorem mT {W W':World} (h:W.grownBy W' none) {b off:Nat} (hp:b<W.heap.size):W'.frozen? ⟨b,off,none⟩=W.frozen? ⟨b,off,none⟩:=by
 unfold World.frozen?
 rw [h.block b hp (by simp)]
theorem post_places {H:Type} {enc:TypeId × Value->H} {P:Program} {f:Func} {s:ChangeSpec} {apart fresh handsOn again:Bool} {W W':World} {args:Array Value} {v:Value} {ds gs:List (DataW H)} {before:List MemPlace}
 (hW:DataW.Whole enc P f.params.toList s.vars apart W args.toList ds gs before)
 (hlt:∀ p ∈ before,p.block<W.heap.size)
 (hres:∀ (b:Nat) (sp:Nat->Bool) (hd:Bool),DataW.TrodAll enc P W' b sp hd f.resultTypes.toList (v.resultList f.resultTypes.size) (s.fn H (ds++gs)).results [])
 (hargs:∀ sp:Nat->Bool,(∀ p ∈ before,sp p.block=true)->DataW.TrodAll enc P W' 0 sp true f.params.toList args.toList (s.fn H (ds++gs)).args before)
 (hvars:∀ sp:Nat->Bool,DataW.TrodVars enc P W' sp s.vars (s.fn H (ds++gs)).vars [])
 (hg:W.grownBy W' none)
 (hok:∀ (j:Nat) (t:TypeId) (r:Value),f.resultTypes[j]?=some t->(v.resultList f.resultTypes.size)[j]?=some r->Value.okWide P W' .any 0 t r) :
 s.post enc P f apart fresh handsOn again W args v W':=by
 have hW2:=hW
 obtain ⟨_,_,_,_,_,hfz,hnd⟩:=hW2
 have hA:=hargs (fun b=>decide (b<W.heap.size)) (fun p hp=>decide_eq_true (hlt p hp))
 refine ⟨ds,gs,before,[],before,[],hW,hres _ _ _,hA,hvars _,World.keptBut_mono (fun p hp=>hp.elim) (kB hg),fun _=>?_⟩
 refine ⟨hok,_,_,before,⟨before,[],trodAll_append (hargs (fun _=>true) (fun _ _=>rfl)) (hres _ _ _),hvars _,(List.append_nil _).symm, ?_,hnd⟩,fun p hp _=>hp⟩
 intro b off hp
 rw [mT hg (show b<W.heap.size from hlt _ hp)]
 exact hfz b off hp
end Go.Proofs.YtninnifpgpjfhaaGreatDoor
namespace Go.Proofs.YtninnifpgpjfhaaGreatDoor
open Go.ChangeShapes Go.WideShapes Go.ChangeAt Go.RowKit Go.ChangeMaps Mat
theorem kI : Tryz.prog.globalNamed "math/bits.deBruijn64tab" = some 2 := by kernel_rfl
theorem tab_typed:(Tryz.prog.globals[2]?).map (·.type)=some 195:=by kernel_rfl
theorem tab_cells:Tryz.prog.cellsOf 195=64:=by kernel_rfl
theorem u8_cells:Tryz.prog.cellsOf 5=1:=by kernel_rfl
theorem tab_of {W : World} (h : laidMetH Tryz.prog [("math/bits.deBruijn64tab", Rows.laid_math_bits_deBruijn64tab)] W) : Tab W := by
 have h1 : Lib.TabIs Tryz.prog W "math/bits.deBruijn64tab" .u8 (Lib.deBruijn64tab.map fun n : Nat => (n : Int)) := Lib.tabIs_of_head (rest := []) kI tab_typed Tryz.underlying195 Tryz.underlying5 u8_cells tab_cells h
 intro j hj
 rw [h1.cell kI j (by simpa using hj)]
 simp [List.getD_eq_getElem?_getD,List.getElem?_map,List.getElem?_eq_getElem hj]
noncomputable def dJ (os:Os):World:=
 { World.holding Tryz.prog os ⟨#[], #[],[]⟩ with heap:=(World.holding Tryz.prog os ⟨#[], #[],[]⟩).heap.modify 2 fun
  | .cells _ t frozen => .cells (Lib.deBruijn64tab.map fun z:Nat=>Value.int .u8 (z:Int)).toArray t frozen
  | o=>o }
end Go.Proofs.YtninnifpgpjfhaaGreatDoor
namespace Go.Proofs.YtninnifpgpjfhaaGreatDoor
open Go.ChangeShapes Go.WideShapes Go.ChangeAt Go.RowKit Go.ChangeMaps
section
variable {H:Type} {enc:TypeId × Value->H} {W:World} {sp:Nat->Bool}
theorem mR {n:Int} (h:(Lit.int .i64 n).wf=true) : -9223372036854775808<=n/\n<=9223372036854775807:=by
 simp [Lit.wf,IntKind.min,IntKind.max,IntKind.signed,IntKind.bits] at h
 omega
theorem int_cells:Tryz.prog.cellsOf 3=1:=by kernel_rfl
theorem pt_cells:Tryz.prog.cellsOf 60=2:=by kernel_rfl
theorem pt_fields:∃ f0 f1:Field,Tryz.prog.underlying 60=some (.struct #[f0,f1])/\f0.offset=0/\f1.offset=1/\f0.type=3/\f1.type=3:=⟨_,_,Tryz.underlying60,rfl,rfl,rfl,rfl⟩
end
end Go.Proofs.YtninnifpgpjfhaaGreatDoor
namespace Go.Proofs.YtninnifpgpjfhaaGreatDoor
open Go.ChangeShapes Go.WideShapes Go.ChangeAt Go.RowKit Go.ChangeMaps Go.Deep
section
variable {H:Type} {enc:TypeId × Value->H} {W:World} {sp:Nat->Bool}
theorem cell_spot {w:World} {a:Addr} {v:Value} (h:w.cell? a=some v):a.spot=none:=by
 unfold World.cell? at h
 cases hs:a.spot with
 | none=>rfl
 | some x=>rw [hs] at h;revert h;cases w.heap[a.block]? with
   | none=>intro h;cases h
   | some o=>cases o<;>simp
end
section
variable {H:Type} {enc:TypeId × Value->H} {W:World} {sp:Nat->Bool}
theorem open_gs {a0:Option Addr} {len cap:Nat} {d:DataW H} {p:List MemPlace} (h:DataW.Trod enc Tryz.prog W 0 sp true 53 (.slice a0 len cap) d p) :
 ∃ l:List G2,GsV W.heap.size W (.slice a0 len cap) l /\ ∀ d ∈ l,eU d:=by
 obtain ⟨n,hn⟩:=h
 rcases open_slice Tryz.underlying53 hn with ⟨hcs,_⟩ | ⟨a,ln,cp,m,k,D,Pl,hcs,_,hl,hm,hmm,_,hx⟩
 · simp [Value.cells] at hcs
   obtain ⟨rfl,rfl,rfl⟩:=hcs
   exact ⟨[],⟨none,0,0,rfl,rfl,Nat.le_refl _,.inl rfl⟩,fun d hd=>by cases hd⟩
 · simp [Value.cells] at hcs
   obtain ⟨rfl,rfl,rfl⟩:=hcs
   have hlm:len<=m:=by rw [hmm];split<;>omega
   obtain ⟨f0,f1,he,o0,o1,t0,t1⟩:=pt_fields
   have each:∀ i,i<len -> ∃ q:G2,W.cell? (a.add (i*2))=some (.int .i64 q.1)/\W.cell? (a.add (i*2+1))=some (.int .i64 q.2)/\eU q:=fun i hi=>by
    obtain ⟨cs',h1,h2⟩:=hx i (by omega)
    rw [pt_cells] at h1
    obtain ⟨_,hlen,hcell⟩:=World.cells?_some h1
    obtain ⟨xs,k',_,_,_,hxl,hf⟩:=DataW.trod_struct he h2
    match xs,hxl,cs',hlen with
    | [y0,y1],_,[v0,v1],_=>
      have g0:=hf 0 f0 rfl
      have g1:=hf 1 f1 rfl
      simp [o0,o1,t0,t1,int_cells] at g0 g1
      have e0:=hcell 0 (by omega)
      have e1:=hcell 1 (by omega)
      rw [Go.Deep.add_add] at e0 e1
      obtain ⟨x0,hx0,_,w0⟩:=DataW.trod_int Tryz.underlying3 g0
      obtain ⟨x1,hx1,_,w1⟩:=DataW.trod_int Tryz.underlying3 g1
      simp at hx0 hx1
      subst hx0;subst hx1
      exact ⟨(x0,x1),by simpa using e0,by simpa using e1,mR w0,mR w1⟩
   obtain ⟨q,hq⟩:=choose_lt (α:=G2) each
   refine ⟨(List.range len).map q,⟨some a,len,cap,rfl,by simp,hl, ?_⟩,fun d hd=>?_⟩
   · by_cases h0:len=0
     · subst h0;exact .inl rfl
     · obtain ⟨c0,_⟩:=hq 0 (by omega)
       obtain ⟨b,off,spot⟩:=a
       have hs:=cell_spot c0
       have hs:spot=none:=by simpa [Addr.add] using hs
       subst hs
       refine .inr ⟨b,off,rfl, ?_,fun i hi=>?_⟩
       · rw [Addr.add_lit] at c0;exact aJ c0
       · have hi:i<len:=by simpa using hi
         obtain ⟨c0,c1,_⟩:=hq i hi
         rw [Addr.add_lit] at c0 c1
         rw [Nat.mul_comm] at c0 c1
         simp only [List.getElem_map,List.getElem_range]
         exact ⟨c0,c1⟩
   · obtain ⟨i,hi,rfl⟩:=List.mem_map.1 hd
     exact (hq i (by simpa using hi)).2.2
end
end Go.Proofs.YtninnifpgpjfhaaGreatDoor
