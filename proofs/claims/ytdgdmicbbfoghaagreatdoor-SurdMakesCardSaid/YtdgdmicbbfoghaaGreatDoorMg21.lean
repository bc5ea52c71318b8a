/- What the laws lean on, part 21. -/
import Derived.Below
import Derived.BigCall
import Derived.BigQuiet
import Derived.BigRegion
import Derived.Deep.AppendLies
import Derived.Deep.CutBlock
import Derived.Deep.CutRange
import Derived.Deep.DeepCutAuto
import Derived.Deep.DeepHandedRow
import Derived.Deep.LoopGhost
import Derived.Deep.MidRow
import Derived.Deep.QuietTactic
import Derived.Deep.RegionHeld3
import Derived.Deep.RegionLaw
import Derived.Deep.WholeRow
import Derived.Laws.AppendOwn
import Derived.Laws.Concat
import Derived.Laws.CopyOwn
import Derived.Laws.CopyRow
import Derived.Laws.Externs
import Derived.Laws.IdiomStrings
import Derived.Lib.BitFns
import Derived.Lib.Bytealg
import Derived.Lib.Hide
import Derived.Lib.Slices
import Derived.Lib.Small
import Derived.Lib.Strings
import Derived.Lib.Walk
import Derived.LoopN
import Derived.Maps.AppendAt
import Derived.OpenShut
import Derived.OrdersHeld
import Derived.OrdersIn
import Derived.Outline
import Derived.OwnWalk
import Derived.ProofKit
import Derived.RangeFuncCalls
import Derived.RangeFuncNested
import Derived.RangeFuncOwn
import Derived.Shelf.Bits.Mul64
import Derived.Shelf.Spec.TrailingZeros
import Derived.StillTailTactics
import Derived.WalkKit
import Derived.WalkLawsBesides
import Derived.WalkSpells
import Derived.Test.YtdgdmicbbfoghaaGreatDoorProg
import Derived.Test.YtdgdmicbbfoghaaGreatDoorRows
import Derived.Test.YtdgdmicbbfoghaaGreatDoorMg20
set_option linter.unusedVariables false
set_option linter.unusedSimpArgs false
set_option maxRecDepth 100000
namespace Go.Proofs.YtdgdmicbbfoghaaGreatDoor
open Go.RowKit Mat Ex
def pv (l:List ByteArray) (i:Nat):Rat:=(l.map eG).getD i 0
def mGood (t:ByteArray):Prop:=t.size<=25/\R7 t=0
def mOK (m n:Int) (l:List ByteArray):Prop:=0<=m/\0<=n/\l.length<=4 /\ ∀ t ∈ l,mGood t
theorem mGood.bd {t:ByteArray} (h:mGood t):Bd1 2 (eG t):=⟨fval_nb t h.1 (by omega),fval_db t h.1 (by omega) (by omega)⟩
def nV (w:World) (m n:Int) (a b c d:Rat) (e:Ending) (w':World):Prop:=∃ v u,e = .returned (.tuple #[v,u,.bool true])/\SurdV w' v m n a b c d/\RdV w' u m n a b c d 7/\w.grownBy w' none
def RetNone (w:World) (m n:Int) (e:Ending) (w':World):Prop:=∃ v u,e = .returned (.tuple #[v,u,.bool false])/\SurdV w' v 0 0 0 0 0 0/\(∃ a b c d,RdV w' u m n a b c d 7)/\w.grownBy w' none
theorem qc2 {r:Rat} {c:Int} {a b:Value} {W:World} : (sQC r c).F (.tuple #[a,b]) W->b = .int .i64 c:=by rintro ⟨u,e,h⟩;cases e;rfl
theorem R4 {n:Int} (h1 : -9223372036854775808<=n) (h2:n<=9223372036854775807):n.natAbs<B^2:=by unfold B;omega
def tx (l:List ByteArray) (k:Nat):ByteArray:=l.getD k { data := #[] }
theorem tx_at {l:List ByteArray} {k:Nat} (h:k<l.length):l[k]=tx l k:=by simp [tx,h]
def fv (l:List ByteArray) (k:Nat):Rat:=eG (tx l k)
theorem bt {v:Value} {a b:Bool} (h:v = .bool a) (h2:v = .bool b):a=b:=by rw [h] at h2;exact Value.bool.inj h2
theorem X3 {ρ : Operand->Value} {o:Oper} {W:World} {x y:Operand} {v:Value} {l:List ByteArray} {base:Nat} (h:StV base W v l) (ho:o.op = .indexAddr 49 x y) (hx : ρ x=v) (k:Nat) (hk:k<l.length) (hy : ρ y = .int .i64 k) :
 ∃ u,(execOp ρ o).run Tryz.prog W = .ok (.value u) W/\SaV base W u (tx l k) /\ ∀ q,fpP u q->fpS v q:=tx_at hk ▸ st_at h ho hx k hk hy
theorem qc1 {r:Rat} {c:Int} {a b:Value} {W:World} : (sQC r c).F (.tuple #[a,b]) W->RatV W a r:=by rintro ⟨u,e,h⟩;cases e;exact h
theorem O4 {r:Rat} {E:Nat} {c:Int} {a b:Value} {W:World} : (sRqC r E c).F (.tuple #[a,b]) W->RQ W a r E:=by rintro ⟨u,e,h⟩;cases e;exact h
theorem rqc2 {r:Rat} {E:Nat} {c:Int} {a b:Value} {W:World} : (sRqC r E c).F (.tuple #[a,b]) W->b = .int .i64 c:=by rintro ⟨u,e,h⟩;cases e;rfl
theorem take_map {l:List ByteArray} {n:Nat} (h:¬ n<l.length):∀ k,n<=k->(l.map eG).getD k 0=0:=fun k hk=>by simp [List.getD_eq_getElem?_getD,List.getElem?_eq_none (show (l.map eG).length<=k by simp;omega)]
theorem gX {l:List ByteArray} {k:Nat} (h:k<l.length):fv l k=pv l k:=by simp [fv,tx,pv,h]
def uQ (p:Prop) (m n:Int) (a b c d:Rat):Sp := .of (.tup [(none,21),(none,0)]) (fun v W=>∃ u e,v = .tuple #[u,.int .i64 e]/\(p->SurdV W u m n a b c d/\e=0)/\(¬p->SurdV W u 0 0 0 0 0 0/\e=1)) (fun v W h=>by
 obtain ⟨u,e,rfl,h1,h2⟩:=h
 have h3:∃ m n a b c d,SurdV W u m n a b c d:=by
  by_cases hp:p
  · exact ⟨_,_,_,_,_,_,(h1 hp).1⟩
  · exact ⟨_,_,_,_,_,_,(h2 hp).1⟩
 obtain ⟨_,_,_,_,_,_,s0,x0,b0,s1,x1,b1,s2,x2,b2,s3,x3,b3,s4,x4,b4,s5,x5,b5,s6,x6,b6,s7,x7,b7,s8,x8,b8,s9,x9,b9,rfl,_⟩:=h3
 exact X6 (u := .bool true) (cs:=[.slice s0 x0.length x0.length,.bool b0,.slice s1 x1.length x1.length,.bool b1,.slice s2 x2.length x2.length,.bool b2,.slice s3 x3.length x3.length,.bool b3,.slice s4 x4.length x4.length,.bool b4,.slice s5 x5.length x5.length,.bool b5,.slice s6 x6.length x6.length,.bool b6,.slice s7 x7.length x7.length,.bool b7,.slice s8 x8.length x8.length,.bool b8,.slice s9 x9.length x9.length,.bool b9,.int .i64 e]) (by simp [Value.oneCell']) rfl) (fun v W W' k h=>by obtain ⟨u,e,q,h1,h2⟩:=h;exact ⟨u,e,q,fun z=>⟨(h1 z).1.keeps k,(h1 z).2⟩,fun z=>⟨(h2 z).1.keeps k,(h2 z).2⟩⟩)
theorem rS {p:Prop} {m n:Int} {a b c d:Rat} {x y:Value} {W:World} (h:(uQ p m n a b c d).F (.tuple #[x,y]) W) (hp:p):SurdV W x m n a b c d/\y = .int .i64 0:=by
 obtain ⟨u,e,q,h1,_⟩:=h
 cases q;exact ⟨(h1 hp).1,by rw [(h1 hp).2]⟩
theorem rR {p:Prop} {m n:Int} {a b c d:Rat} {x y:Value} {W:World} (h:(uQ p m n a b c d).F (.tuple #[x,y]) W) (hp:¬p):SurdV W x 0 0 0 0 0 0/\y = .int .i64 1:=by
 obtain ⟨u,e,q,_,h1⟩:=h
 cases q;exact ⟨(h1 hp).1,by rw [(h1 hp).2]⟩
theorem oB {P:Program} {f:FuncId} {args:Array Value} {W:World} {p:Prop} {m n:Int} {a b c d:Rat} (hp:p) (h:Calls P f args W (J5 W m n a b c d 0)):Calls P f args W (Ret W (uQ p m n a b c d).F):=
 h.mono fun _ _ ⟨v,e,h1,g⟩=>⟨_,e,⟨v,0,rfl,fun _=>⟨h1,rfl⟩,fun z=>absurd hp z⟩,g⟩
theorem oA {P:Program} {f:FuncId} {args:Array Value} {W:World} {p:Prop} {m n:Int} {a b c d:Rat} (hp:¬p) (h:Calls P f args W (J5 W 0 0 0 0 0 0 1)):Calls P f args W (Ret W (uQ p m n a b c d).F):=
 h.mono fun _ _ ⟨v,e,h1,g⟩=>⟨_,e,⟨v,1,rfl,fun z=>absurd z hp,fun _=>⟨h1,rfl⟩⟩,g⟩
theorem tx_mem {l:List ByteArray} {k:Nat} (h:k<l.length):tx l k ∈ l:=tx_at h ▸ List.getElem_mem h
theorem nK {M N:Int} {l:List ByteArray} {k:Nat} (h:k<l.length) (h2 : 25<(tx l k).size):¬ mOK M N l:=fun z=>absurd (z.2.2.2 _ (tx_mem h)).1 (by omega)
theorem vD {M N:Int} {l:List ByteArray} {k:Nat} (h:k<l.length) (h2:R7 (tx l k)≠0):¬ mOK M N l:=fun z=>h2 (z.2.2.2 _ (tx_mem h)).2
theorem pK {M N:Int} {l:List ByteArray} (p0 : 0<=M) (p1 : 0<=N) (hl:l.length<=4) (h:∀ k,k<l.length->mGood (tx l k)):mOK M N l:=⟨p0,p1,hl,fun t ht=>by
 obtain ⟨k,hk,rfl⟩:=List.getElem_of_mem ht
 rw [tx_at hk];exact h k hk⟩
theorem bF {l:List ByteArray} {n k:Nat} (h:¬ n<l.length) (hk:n<=k):pv l k=0:=take_map h k hk
set_option maxHeartbeats 16000000 in
theorem LMade_all (w:World) (va:Value) (M N:Int) (l:List ByteArray) (Ha:NmV w.heap.size w va M N l) (hM : -9223372036854775808<=M/\M<=9223372036854775807) (hN : -9223372036854775808<=N/\N<=9223372036854775807) (hTab:Tab w) :
 Calls Tryz.prog 19 #[va] w (fun e w'=>(mOK M N l->nV w M N (pv l 0) (pv l 1) (pv l 2) (pv l 3) e w')/\(¬ mOK M N l->RetNone w M N e w')):=by
 refine eH B5 Tryz.func19 [sNm w.heap.size M N l] (sR M :: sR N :: sRd M N 0 0 0 0 5 :: sZ (l.length:Nat) :: sB (decide ((0:Int)<(l.length:Nat))) :: sSa w.heap.size (tx l 0) :: sC (.string (tx l 0)) rfl :: sZ ((tx l 0).size:Int) :: sB (decide ((25:Int)<(tx l 0).size)) :: sSa w.heap.size (tx l 0) :: sC (.string (tx l 0)) rfl :: sQC (fv l 0) (R7 (tx l 0)) :: sSa w.heap.size (tx l 0) :: sC (.string (tx l 0)) rfl :: sRqC (fv l 0) 7 (R7 (tx l 0)) :: sB (decide (R7 (tx l 0)=0)) :: sV (.bool false) :: sV (.bool false) :: sV (.bool true) :: sOw kRat w.heap.size [fv l 0] :: sZ (l.length:Nat) :: sB (decide ((1:Int)<(l.length:Nat))) :: sSa w.heap.size (tx l 1) :: sC (.string (tx l 1)) rfl :: sZ ((tx l 1).size:Int) :: sB (decide ((25:Int)<(tx l 1).size)) :: sSa w.heap.size (tx l 1) :: sC (.string (tx l 1)) rfl :: sQC (fv l 1) (R7 (tx l 1)) :: sSa w.heap.size (tx l 1) :: sC (.string (tx l 1)) rfl :: sRqC (fv l 1) 7 (R7 (tx l 1)) :: sB (decide (R7 (tx l 1)=0)) :: sV (.bool false) :: sV (.bool false) :: sV (.bool true) :: sOw kRat w.heap.size [fv l 0,fv l 1] :: sZ (l.length:Nat) :: sB (decide ((2:Int)<(l.length:Nat))) :: sSa w.heap.size (tx l 2) :: sC (.string (tx l 2)) rfl :: sZ ((tx l 2).size:Int) :: sB (decide ((25:Int)<(tx l 2).size)) :: sSa w.heap.size (tx l 2) :: sC (.string (tx l 2)) rfl :: sQC (fv l 2) (R7 (tx l 2)) :: sSa w.heap.size (tx l 2) :: sC (.string (tx l 2)) rfl :: sRqC (fv l 2) 7 (R7 (tx l 2)) :: sB (decide (R7 (tx l 2)=0)) :: sV (.bool false) :: sV (.bool false) :: sV (.bool true) :: sOw kRat w.heap.size [fv l 0,fv l 1,fv l 2] :: sZ (l.length:Nat) :: sB (decide ((3:Int)<(l.length:Nat))) :: sSa w.heap.size (tx l 3) :: sC (.string (tx l 3)) rfl :: sZ ((tx l 3).size:Int) :: sB (decide ((25:Int)<(tx l 3).size)) :: sSa w.heap.size (tx l 3) :: sC (.string (tx l 3)) rfl :: sQC (fv l 3) (R7 (tx l 3)) :: sSa w.heap.size (tx l 3) :: sC (.string (tx l 3)) rfl :: sRqC (fv l 3) 7 (R7 (tx l 3)) :: sB (decide (R7 (tx l 3)=0)) :: sV (.bool false) :: sV (.bool false) :: sV (.bool true) :: sOw kRat w.heap.size [fv l 0,fv l 1,fv l 2,fv l 3] :: sZ (l.length:Nat) :: sB (decide ((4:Int)<(l.length:Nat))) :: sI M :: sI N :: uQ (0<=M/\0<=N) M N (fv l 0) (fv l 1) (fv l 2) (fv l 3) :: sB (decide (0<=M/\0<=N)) :: sV (.bool true) :: sV (.bool true) :: sV (.bool true) :: sV (.bool false) :: sI M :: sI N :: uQ (0<=M/\0<=N) M N (fv l 0) (fv l 1) (fv l 2) 0 :: sB (decide (0<=M/\0<=N)) :: sV (.bool true) :: sV (.bool true) :: sV (.bool true) :: sV (.bool false) :: sI M :: sI N :: uQ (0<=M/\0<=N) M N (fv l 0) (fv l 1) 0 0 :: sB (decide (0<=M/\0<=N)) :: sV (.bool true) :: sV (.bool true) :: sV (.bool true) :: sV (.bool false) :: sI M :: sI N :: uQ (0<=M/\0<=N) M N (fv l 0) 0 0 0 :: sB (decide (0<=M/\0<=N)) :: sV (.bool true) :: sV (.bool true) :: sV (.bool true) :: sV (.bool false) :: sI M :: sI N :: uQ (0<=M/\0<=N) M N 0 0 0 0 :: sB (decide (0<=M/\0<=N)) :: sV (.bool true) :: sV (.bool true) :: sV (.bool true) :: sV (.bool false) :: []) [10,15] [] (.cons Ha .nil) (rs:=((cl 1 61 [on 0],[]) :: (cl 2 61 [.v false [.an 0 1]],[]) :: (cl 3 60 [ag 2 1,ag 2 2],[]) :: (co 4 (.call ⟨.builtin .len, #[(.tmp 23)], #[49]⟩) 3 [.v false [.an 0 2]] [0,1,2,3] [],[]) :: (co 5 (.binOp .lss 3 (.tmp 21) (.tmp 24) 3) 4 [.v false [.lit (.int .i64 0)],on 4] [0,1,2,3,4] [],[]) :: (co 6 (.indexAddr 49 (.tmp 32) (.tmp 33)) 0 [.v false [.an 0 2],.v false [.lit (.int .i64 0)]] [0,1,2,3,4,5] [],[(5,0,true)]) :: (co 7 (.load 9 (.tmp 34)) 9 [on 6] [0,1,2,3,4,5,6] [],[(5,0,true)]) :: (co 8 (.call ⟨.builtin .len, #[(.tmp 35)], #[9]⟩) 3 [on 7] (List.range 8) [],[(5,0,true)]) :: (co 9 (.binOp .gtr 3 (.tmp 36) (.const (.int .i64 25)) 3) 4 [on 8,.v false [.lit (.int .i64 25)]] (List.range 9) [],[(5,0,true)]) :: (co 10 (.indexAddr 49 (.tmp 43) (.tmp 44)) 0 [.v false [.an 0 2],.v false [.lit (.int .i64 0)]] (List.range 10) [],[(9,0,false),(5,0,true)]) :: (co 11 (.load 9 (.tmp 45)) 9 [on 10] (List.range 11) [],[(9,0,false),(5,0,true)]) :: (cl 12 62 [on 11],[(9,0,false),(5,0,true)]) :: (co 13 (.indexAddr 49 (.tmp 52) (.tmp 53)) 0 [.v false [.an 0 2],.v false [.lit (.int .i64 0)]] (List.range 13) [],[(9,0,false),(5,0,true)]) :: (co 14 (.load 9 (.tmp 54)) 9 [on 13] (List.range 14) [],[(9,0,false),(5,0,true)]) :: (cl 15 63 [on 14],[(9,0,false),(5,0,true)]) :: (co 17 (.binOp .neq 38 (.tmp 59) (.const (.int .i64 0)) 38) 4 [.v false [.an 12 4],.v false [.lit (.int .i64 0)]] (List.range 17) [],[(16,0,true),(9,0,false),(5,0,true)]) :: (co 18 (.binOp .neq 3 (.tmp 62) (.const (.int .i64 0)) 3) 4 [.v false [.an 15 4],.v false [.lit (.int .i64 0)]] (List.range 18) [],[(16,0,true),(9,0,false),(5,0,true)]) :: (co 19 (.binOp .neq 38 (.tmp 59) (.const (.int .i64 0)) 38) 4 [.v false [.an 12 4],.v false [.lit (.int .i64 0)]] (List.range 17) [],[(16,0,false),(9,0,false),(5,0,true)]) :: (cow 20 (.call ⟨.builtin .append, #[(.tmp 67),(.tmp 69)], #[23,23]⟩) 23 [.v false [.lit (.slice none 0 0)],.v false [.row 6 0 1 1]] (List.range 19) [(6,30,[.an 12 0,.an 12 1,.an 12 2,.an 12 3])],[(16,0,true),(9,0,false),(5,0,true)]) :: (co 21 (.call ⟨.builtin .len, #[(.tmp 23)], #[49]⟩) 3 [.v false [.an 0 2]] (List.range 19++[20]) [],[(16,0,true),(9,0,false),(5,0,true)]) :: (co 22 (.binOp .lss 3 (.tmp 21) (.tmp 24) 3) 4 [.v false [.lit (.int .i64 1)],on 21] (List.range 19++[20,21]) [],[(16,0,true),(9,0,false),(5,0,true)]) :: (co 23 (.indexAddr 49 (.tmp 32) (.tmp 33)) 0 [.v false [.an 0 2],.v false [.lit (.int .i64 1)]] (List.range 19++[20,21,22]) [],[(22,0,true),(16,0,true),(9,0,false),(5,0,true)]) :: (co 24 (.load 9 (.tmp 34)) 9 [on 23] (List.range 19++[20,21,22,23]) [],[(22,0,true),(16,0,true),(9,0,false),(5,0,true)]) :: (co 25 (.call ⟨.builtin .len, #[(.tmp 35)], #[9]⟩) 3 [on 24] (List.range 19++[20,21,22,23,24]) [],[(22,0,true),(16,0,true),(9,0,false),(5,0,true)]) :: (co 26 (.binOp .gtr 3 (.tmp 36) (.const (.int .i64 25)) 3) 4 [on 25,.v false [.lit (.int .i64 25)]] (List.range 19++List.range' 20 6) [],[(22,0,true),(16,0,true),(9,0,false),(5,0,true)]) :: (co 27 (.indexAddr 49 (.tmp 43) (.tmp 44)) 0 [.v false [.an 0 2],.v false [.lit (.int .i64 1)]] (List.range 19++List.range' 20 7) [],[(26,0,false),(22,0,true),(16,0,true),(9,0,false),(5,0,true)]) :: (co 28 (.load 9 (.tmp 45)) 9 [on 27] (List.range 19++List.range' 20 8) [],[(26,0,false),(22,0,true),(16,0,true),(9,0,false),(5,0,true)]) :: (cla 29 62 [on 28] (List.range 19++List.range' 20 9),[(26,0,false),(22,0,true),(16,0,true),(9,0,false),(5,0,true)]) :: (co 30 (.indexAddr 49 (.tmp 52) (.tmp 53)) 0 [.v false [.an 0 2],.v false [.lit (.int .i64 1)]] (List.range 19++List.range' 20 10) [],[(26,0,false),(22,0,true),(16,0,true),(9,0,false),(5,0,true)]) :: (co 31 (.load 9 (.tmp 54)) 9 [on 30] (List.range 19++List.range' 20 11) [],[(26,0,false),(22,0,true),(16,0,true),(9,0,false),(5,0,true)]) :: (cla 32 63 [on 31] (List.range 19++List.range' 20 12),[(26,0,false),(22,0,true),(16,0,true),(9,0,false),(5,0,true)]) :: (co 34 (.binOp .neq 38 (.tmp 59) (.const (.int .i64 0)) 38) 4 [.v false [.an 29 4],.v false [.lit (.int .i64 0)]] (List.range 19++List.range' 20 14) [],[(33,0,true),(26,0,false),(22,0,true),(16,0,true),(9,0,false),(5,0,true)]) :: (co 35 (.binOp .neq 3 (.tmp 62) (.const (.int .i64 0)) 3) 4 [.v false [.an 32 4],.v false [.lit (.int .i64 0)]] (List.range 19++List.range' 20 15) [],[(33,0,true),(26,0,false),(22,0,true),(16,0,true),(9,0,false),(5,0,true)]) :: (co 36 (.binOp .neq 38 (.tmp 59) (.const (.int .i64 0)) 38) 4 [.v false [.an 29 4],.v false [.lit (.int .i64 0)]] (List.range 19++List.range' 20 14) [],[(33,0,false),(26,0,false),(22,0,true),(16,0,true),(9,0,false),(5,0,true)]) :: (cow 37 (.call ⟨.builtin .append, #[(.tmp 67),(.tmp 69)], #[23,23]⟩) 23 [on 20,.v false [.row 9 0 1 1]] (List.range 19++List.range' 20 16) [(9,30,[.an 29 0,.an 29 1,.an 29 2,.an 29 3])],[(33,0,true),(26,0,false),(22,0,true),(16,0,true),(9,0,false),(5,0,true)]) :: (co 38 (.call ⟨.builtin .len, #[(.tmp 23)], #[49]⟩) 3 [.v false [.an 0 2]] (List.range 19++List.range' 20 16++[37]) [],[(33,0,true),(26,0,false),(22,0,true),(16,0,true),(9,0,false),(5,0,true)]) :: (co 39 (.binOp .lss 3 (.tmp 21) (.tmp 24) 3) 4 [.v false [.lit (.int .i64 2)],on 38] (List.range 19++List.range' 20 16++[37,38]) [],[(33,0,true),(26,0,false),(22,0,true),(16,0,true),(9,0,false),(5,0,true)]) :: (co 40 (.indexAddr 49 (.tmp 32) (.tmp 33)) 0 [.v false [.an 0 2],.v false [.lit (.int .i64 2)]] (List.range 19++List.range' 20 16++[37,38,39]) [],[(39,0,true),(33,0,true),(26,0,false),(22,0,true),(16,0,true),(9,0,false),(5,0,true)]) :: (co 41 (.load 9 (.tmp 34)) 9 [on 40] (List.range 19++List.range' 20 16++[37,38,39,40]) [],[(39,0,true),(33,0,true),(26,0,false),(22,0,true),(16,0,true),(9,0,false),(5,0,true)]) :: (co 42 (.call ⟨.builtin .len, #[(.tmp 35)], #[9]⟩) 3 [on 41] (List.range 19++List.range' 20 16++[37,38,39,40,41]) [],[(39,0,true),(33,0,true),(26,0,false),(22,0,true),(16,0,true),(9,0,false),(5,0,true)]) :: (co 43 (.binOp .gtr 3 (.tmp 36) (.const (.int .i64 25)) 3) 4 [on 42,.v false [.lit (.int .i64 25)]] (List.range 19++List.range' 20 16++List.range' 37 6) [],[(39,0,true),(33,0,true),(26,0,false),(22,0,true),(16,0,true),(9,0,false),(5,0,true)]) :: (co 44 (.indexAddr 49 (.tmp 43) (.tmp 44)) 0 [.v false [.an 0 2],.v false [.lit (.int .i64 2)]] (List.range 19++List.range' 20 16++List.range' 37 7) [],[(43,0,false),(39,0,true),(33,0,true),(26,0,false),(22,0,true),(16,0,true),(9,0,false),(5,0,true)]) :: (co 45 (.load 9 (.tmp 45)) 9 [on 44] (List.range 19++List.range' 20 16++List.range' 37 8) [],[(43,0,false),(39,0,true),(33,0,true),(26,0,false),(22,0,true),(16,0,true),(9,0,false),(5,0,true)]) :: (cla 46 62 [on 45] (List.range 19++List.range' 20 16++List.range' 37 9),[(43,0,false),(39,0,true),(33,0,true),(26,0,false),(22,0,true),(16,0,true),(9,0,false),(5,0,true)]) :: (co 47 (.indexAddr 49 (.tmp 52) (.tmp 53)) 0 [.v false [.an 0 2],.v false [.lit (.int .i64 2)]] (List.range 19++List.range' 20 16++List.range' 37 10) [],[(43,0,false),(39,0,true),(33,0,true),(26,0,false),(22,0,true),(16,0,true),(9,0,false),(5,0,true)]) :: (co 48 (.load 9 (.tmp 54)) 9 [on 47] (List.range 19++List.range' 20 16++List.range' 37 11) [],[(43,0,false),(39,0,true),(33,0,true),(26,0,false),(22,0,true),(16,0,true),(9,0,false),(5,0,true)]) :: (cla 49 63 [on 48] (List.range 19++List.range' 20 16++List.range' 37 12),[(43,0,false),(39,0,true),(33,0,true),(26,0,false),(22,0,true),(16,0,true),(9,0,false),(5,0,true)]) :: (co 51 (.binOp .neq 38 (.tmp 59) (.const (.int .i64 0)) 38) 4 [.v false [.an 46 4],.v false [.lit (.int .i64 0)]] (List.range 19++List.range' 20 16++List.range' 37 14) [],[(50,0,true),(43,0,false),(39,0,true),(33,0,true),(26,0,false),(22,0,true),(16,0,true),(9,0,false),(5,0,true)]) :: (co 52 (.binOp .neq 3 (.tmp 62) (.const (.int .i64 0)) 3) 4 [.v false [.an 49 4],.v false [.lit (.int .i64 0)]] (List.range 19++List.range' 20 16++List.range' 37 15) [],[(50,0,true),(43,0,false),(39,0,true),(33,0,true),(26,0,false),(22,0,true),(16,0,true),(9,0,false),(5,0,true)]) :: (co 53 (.binOp .neq 38 (.tmp 59) (.const (.int .i64 0)) 38) 4 [.v false [.an 46 4],.v false [.lit (.int .i64 0)]] (List.range 19++List.range' 20 16++List.range' 37 14) [],[(50,0,false),(43,0,false),(39,0,true),(33,0,true),(26,0,false),(22,0,true),(16,0,true),(9,0,false),(5,0,true)]) :: (cow 54 (.call ⟨.builtin .append, #[(.tmp 67),(.tmp 69)], #[23,23]⟩) 23 [on 37,.v false [.row 12 0 1 1]] (List.range 19++List.range' 20 16++List.range' 37 16) [(12,30,[.an 46 0,.an 46 1,.an 46 2,.an 46 3])],[(50,0,true),(43,0,false),(39,0,true),(33,0,true),(26,0,false),(22,0,true),(16,0,true),(9,0,false),(5,0,true)]) :: (co 55 (.call ⟨.builtin .len, #[(.tmp 23)], #[49]⟩) 3 [.v false [.an 0 2]] (List.range 19++List.range' 20 16++List.range' 37 16++[54]) [],[(50,0,true),(43,0,false),(39,0,true),(33,0,true),(26,0,false),(22,0,true),(16,0,true),(9,0,false),(5,0,true)]) :: (co 56 (.binOp .lss 3 (.tmp 21) (.tmp 24) 3) 4 [.v false [.lit (.int .i64 3)],on 55] (List.range 19++List.range' 20 16++List.range' 37 16++[54,55]) [],[(50,0,true),(43,0,false),(39,0,true),(33,0,true),(26,0,false),(22,0,true),(16,0,true),(9,0,false),(5,0,true)]) :: (co 57 (.indexAddr 49 (.tmp 32) (.tmp 33)) 0 [.v false [.an 0 2],.v false [.lit (.int .i64 3)]] (List.range 19++List.range' 20 16++List.range' 37 16++[54,55,56]) [],[(56,0,true),(50,0,true),(43,0,false),(39,0,true),(33,0,true),(26,0,false),(22,0,true),(16,0,true),(9,0,false),(5,0,true)]) :: (co 58 (.load 9 (.tmp 34)) 9 [on 57] (List.range 19++List.range' 20 16++List.range' 37 16++[54,55,56,57]) [],[(56,0,true),(50,0,true),(43,0,false),(39,0,true),(33,0,true),(26,0,false),(22,0,true),(16,0,true),(9,0,false),(5,0,true)]) :: (co 59 (.call ⟨.builtin .len, #[(.tmp 35)], #[9]⟩) 3 [on 58] (List.range 19++List.range' 20 16++List.range' 37 16++[54,55,56,57,58]) [],[(56,0,true),(50,0,true),(43,0,false),(39,0,true),(33,0,true),(26,0,false),(22,0,true),(16,0,true),(9,0,false),(5,0,true)]) :: (co 60 (.binOp .gtr 3 (.tmp 36) (.const (.int .i64 25)) 3) 4 [on 59,.v false [.lit (.int .i64 25)]] (List.range 19++List.range' 20 16++List.range' 37 16++List.range' 54 6) [],[(56,0,true),(50,0,true),(43,0,false),(39,0,true),(33,0,true),(26,0,false),(22,0,true),(16,0,true),(9,0,false),(5,0,true)]) :: (co 61 (.indexAddr 49 (.tmp 43) (.tmp 44)) 0 [.v false [.an 0 2],.v false [.lit (.int .i64 3)]] (List.range 19++List.range' 20 16++List.range' 37 16++List.range' 54 7) [],[(60,0,false),(56,0,true),(50,0,true),(43,0,false),(39,0,true),(33,0,true),(26,0,false),(22,0,true),(16,0,true),(9,0,false),(5,0,true)]) :: (co 62 (.load 9 (.tmp 45)) 9 [on 61] (List.range 19++List.range' 20 16++List.range' 37 16++List.range' 54 8) [],[(60,0,false),(56,0,true),(50,0,true),(43,0,false),(39,0,true),(33,0,true),(26,0,false),(22,0,true),(16,0,true),(9,0,false),(5,0,true)]) :: (cla 63 62 [on 62] (List.range 19++List.range' 20 16++List.range' 37 16++List.range' 54 9),[(60,0,false),(56,0,true),(50,0,true),(43,0,false),(39,0,true),(33,0,true),(26,0,false),(22,0,true),(16,0,true),(9,0,false),(5,0,true)]) :: (co 64 (.indexAddr 49 (.tmp 52) (.tmp 53)) 0 [.v false [.an 0 2],.v false [.lit (.int .i64 3)]] (List.range 19++List.range' 20 16++List.range' 37 16++List.range' 54 10) [],[(60,0,false),(56,0,true),(50,0,true),(43,0,false),(39,0,true),(33,0,true),(26,0,false),(22,0,true),(16,0,true),(9,0,false),(5,0,true)]) :: (co 65 (.load 9 (.tmp 54)) 9 [on 64] (List.range 19++List.range' 20 16++List.range' 37 16++List.range' 54 11) [],[(60,0,false),(56,0,true),(50,0,true),(43,0,false),(39,0,true),(33,0,true),(26,0,false),(22,0,true),(16,0,true),(9,0,false),(5,0,true)]) :: (cla 66 63 [on 65] (List.range 19++List.range' 20 16++List.range' 37 16++List.range' 54 12),[(60,0,false),(56,0,true),(50,0,true),(43,0,false),(39,0,true),(33,0,true),(26,0,false),(22,0,true),(16,0,true),(9,0,false),(5,0,true)]) :: (co 68 (.binOp .neq 38 (.tmp 59) (.const (.int .i64 0)) 38) 4 [.v false [.an 63 4],.v false [.lit (.int .i64 0)]] (List.range 19++List.range' 20 16++List.range' 37 16++List.range' 54 14) [],[(67,0,true),(60,0,false),(56,0,true),(50,0,true),(43,0,false),(39,0,true),(33,0,true),(26,0,false),(22,0,true),(16,0,true),(9,0,false),(5,0,true)]) :: (co 69 (.binOp .neq 3 (.tmp 62) (.const (.int .i64 0)) 3) 4 [.v false [.an 66 4],.v false [.lit (.int .i64 0)]] (List.range 19++List.range' 20 16++List.range' 37 16++List.range' 54 15) [],[(67,0,true),(60,0,false),(56,0,true),(50,0,true),(43,0,false),(39,0,true),(33,0,true),(26,0,false),(22,0,true),(16,0,true),(9,0,false),(5,0,true)]) :: (co 70 (.binOp .neq 38 (.tmp 59) (.const (.int .i64 0)) 38) 4 [.v false [.an 63 4],.v false [.lit (.int .i64 0)]] (List.range 19++List.range' 20 16++List.range' 37 16++List.range' 54 14) [],[(67,0,false),(60,0,false),(56,0,true),(50,0,true),(43,0,false),(39,0,true),(33,0,true),(26,0,false),(22,0,true),(16,0,true),(9,0,false),(5,0,true)]) :: (cow 71 (.call ⟨.builtin .append, #[(.tmp 67),(.tmp 69)], #[23,23]⟩) 23 [on 54,.v false [.row 15 0 1 1]] (List.range 19++List.range' 20 16++List.range' 37 16++List.range' 54 16) [(15,30,[.an 63 0,.an 63 1,.an 63 2,.an 63 3])],[(67,0,true),(60,0,false),(56,0,true),(50,0,true),(43,0,false),(39,0,true),(33,0,true),(26,0,false),(22,0,true),(16,0,true),(9,0,false),(5,0,true)]) :: (co 72 (.call ⟨.builtin .len, #[(.tmp 23)], #[49]⟩) 3 [.v false [.an 0 2]] (List.range 19++List.range' 20 16++List.range' 37 16++List.range' 54 16++[71]) [],[(67,0,true),(60,0,false),(56,0,true),(50,0,true),(43,0,false),(39,0,true),(33,0,true),(26,0,false),(22,0,true),(16,0,true),(9,0,false),(5,0,true)]) :: (co 73 (.binOp .lss 3 (.tmp 21) (.tmp 24) 3) 4 [.v false [.lit (.int .i64 4)],on 72] (List.range 19++List.range' 20 16++List.range' 37 16++List.range' 54 16++[71,72]) [],[(67,0,true),(60,0,false),(56,0,true),(50,0,true),(43,0,false),(39,0,true),(33,0,true),(26,0,false),(22,0,true),(16,0,true),(9,0,false),(5,0,true)]) :: (cla 74 10 [on 0] (List.range 19++List.range' 20 16++List.range' 37 16++List.range' 54 16++[71,72,73]),[(73,0,false),(67,0,true),(60,0,false),(56,0,true),(50,0,true),(43,0,false),(39,0,true),(33,0,true),(26,0,false),(22,0,true),(16,0,true),(9,0,false),(5,0,true)]) :: (cla 75 10 [.v false [.an 0 1]] (List.range 19++List.range' 20 16++List.range' 37 16++List.range' 54 16++[71,72,73,74]),[(73,0,false),(67,0,true),(60,0,false),(56,0,true),(50,0,true),(43,0,false),(39,0,true),(33,0,true),(26,0,false),(22,0,true),(16,0,true),(9,0,false),(5,0,true)]) :: (cla 76 11 [ag 2 74,ag 2 75,on 71] (List.range 19++List.range' 20 16++List.range' 37 16++List.range' 54 16++[71,72,73,74,75]),[(73,0,false),(67,0,true),(60,0,false),(56,0,true),(50,0,true),(43,0,false),(39,0,true),(33,0,true),(26,0,false),(22,0,true),(16,0,true),(9,0,false),(5,0,true)]) :: (co 78 (.binOp .eql 38 (.tmp 88) (.const (.int .i64 0)) 38) 4 [.v false [.an 76 20],.v false [.lit (.int .i64 0)]] (List.range 19++List.range' 20 16++List.range' 37 16++List.range' 54 16++List.range' 71 7) [],[(77,0,true),(73,0,false),(67,0,true),(60,0,false),(56,0,true),(50,0,true),(43,0,false),(39,0,true),(33,0,true),(26,0,false),(22,0,true),(16,0,true),(9,0,false),(5,0,true)]) :: (co 79 (.binOp .geq 3 (.tmp 92) (.const (.int .i64 0)) 3) 4 [on 0,.v false [.lit (.int .i64 0)]] (List.range 19++List.range' 20 16++List.range' 37 16++List.range' 54 16++List.range' 71 8) [],[(77,0,true),(73,0,false),(67,0,true),(60,0,false),(56,0,true),(50,0,true),(43,0,false),(39,0,true),(33,0,true),(26,0,false),(22,0,true),(16,0,true),(9,0,false),(5,0,true)]) :: (co 80 (.binOp .geq 3 (.tmp 97) (.const (.int .i64 0)) 3) 4 [.v false [.an 0 1],.v false [.lit (.int .i64 0)]] (List.range 19++List.range' 20 16++List.range' 37 16++List.range' 54 16++List.range' 71 9) [],[(77,0,true),(73,0,false),(67,0,true),(60,0,false),(56,0,true),(50,0,true),(43,0,false),(39,0,true),(33,0,true),(26,0,false),(22,0,true),(16,0,true),(9,0,false),(5,0,true)]) :: (co 81 (.binOp .eql 38 (.tmp 88) (.const (.int .i64 0)) 38) 4 [.v false [.an 76 20],.v false [.lit (.int .i64 0)]] (List.range 19++List.range' 20 16++List.range' 37 16++List.range' 54 16++List.range' 71 7) [],[(77,0,false),(73,0,false),(67,0,true),(60,0,false),(56,0,true),(50,0,true),(43,0,false),(39,0,true),(33,0,true),(26,0,false),(22,0,true),(16,0,true),(9,0,false),(5,0,true)]) :: (cla 82 10 [on 0] (List.range 19++List.range' 20 16++List.range' 37 16++[54,55,56]),[(56,0,false),(50,0,true),(43,0,false),(39,0,true),(33,0,true),(26,0,false),(22,0,true),(16,0,true),(9,0,false),(5,0,true)]) :: (cla 83 10 [.v false [.an 0 1]] (List.range 19++List.range' 20 16++List.range' 37 16++[54,55,56,82]),[(56,0,false),(50,0,true),(43,0,false),(39,0,true),(33,0,true),(26,0,false),(22,0,true),(16,0,true),(9,0,false),(5,0,true)]) :: (cla 84 11 [ag 2 82,ag 2 83,on 54] (List.range 19++List.range' 20 16++List.range' 37 16++[54,55,56,82,83]),[(56,0,false),(50,0,true),(43,0,false),(39,0,true),(33,0,true),(26,0,false),(22,0,true),(16,0,true),(9,0,false),(5,0,true)]) :: (co 86 (.binOp .eql 38 (.tmp 88) (.const (.int .i64 0)) 38) 4 [.v false [.an 84 20],.v false [.lit (.int .i64 0)]] (List.range 19++List.range' 20 16++List.range' 37 16++[54,55,56,82,83,84,85]) [],[(85,0,true),(56,0,false),(50,0,true),(43,0,false),(39,0,true),(33,0,true),(26,0,false),(22,0,true),(16,0,true),(9,0,false),(5,0,true)]) :: (co 87 (.binOp .geq 3 (.tmp 92) (.const (.int .i64 0)) 3) 4 [on 0,.v false [.lit (.int .i64 0)]] (List.range 19++List.range' 20 16++List.range' 37 16++[54,55,56,82,83,84,85,86]) [],[(85,0,true),(56,0,false),(50,0,true),(43,0,false),(39,0,true),(33,0,true),(26,0,false),(22,0,true),(16,0,true),(9,0,false),(5,0,true)]) :: (co 88 (.binOp .geq 3 (.tmp 97) (.const (.int .i64 0)) 3) 4 [.v false [.an 0 1],.v false [.lit (.int .i64 0)]] (List.range 19++List.range' 20 16++List.range' 37 16++[54,55,56]++List.range' 82 6) [],[(85,0,true),(56,0,false),(50,0,true),(43,0,false),(39,0,true),(33,0,true),(26,0,false),(22,0,true),(16,0,true),(9,0,false),(5,0,true)]) :: (co 89 (.binOp .eql 38 (.tmp 88) (.const (.int .i64 0)) 38) 4 [.v false [.an 84 20],.v false [.lit (.int .i64 0)]] (List.range 19++List.range' 20 16++List.range' 37 16++[54,55,56,82,83,84,85]) [],[(85,0,false),(56,0,false),(50,0,true),(43,0,false),(39,0,true),(33,0,true),(26,0,false),(22,0,true),(16,0,true),(9,0,false),(5,0,true)]) :: (cla 90 10 [on 0] (List.range 19++List.range' 20 16++[37,38,39]),[(39,0,false),(33,0,true),(26,0,false),(22,0,true),(16,0,true),(9,0,false),(5,0,true)]) :: (cla 91 10 [.v false [.an 0 1]] (List.range 19++List.range' 20 16++[37,38,39,90]),[(39,0,false),(33,0,true),(26,0,false),(22,0,true),(16,0,true),(9,0,false),(5,0,true)]) :: (cla 92 11 [ag 2 90,ag 2 91,on 37] (List.range 19++List.range' 20 16++[37,38,39,90,91]),[(39,0,false),(33,0,true),(26,0,false),(22,0,true),(16,0,true),(9,0,false),(5,0,true)]) :: (co 94 (.binOp .eql 38 (.tmp 88) (.const (.int .i64 0)) 38) 4 [.v false [.an 92 20],.v false [.lit (.int .i64 0)]] (List.range 19++List.range' 20 16++[37,38,39,90,91,92,93]) [],[(93,0,true),(39,0,false),(33,0,true),(26,0,false),(22,0,true),(16,0,true),(9,0,false),(5,0,true)]) :: (co 95 (.binOp .geq 3 (.tmp 92) (.const (.int .i64 0)) 3) 4 [on 0,.v false [.lit (.int .i64 0)]] (List.range 19++List.range' 20 16++[37,38,39,90,91,92,93,94]) [],[(93,0,true),(39,0,false),(33,0,true),(26,0,false),(22,0,true),(16,0,true),(9,0,false),(5,0,true)]) :: (co 96 (.binOp .geq 3 (.tmp 97) (.const (.int .i64 0)) 3) 4 [.v false [.an 0 1],.v false [.lit (.int .i64 0)]] (List.range 19++List.range' 20 16++[37,38,39]++List.range' 90 6) [],[(93,0,true),(39,0,false),(33,0,true),(26,0,false),(22,0,true),(16,0,true),(9,0,false),(5,0,true)]) :: (co 97 (.binOp .eql 38 (.tmp 88) (.const (.int .i64 0)) 38) 4 [.v false [.an 92 20],.v false [.lit (.int .i64 0)]] (List.range 19++List.range' 20 16++[37,38,39,90,91,92,93]) [],[(93,0,false),(39,0,false),(33,0,true),(26,0,false),(22,0,true),(16,0,true),(9,0,false),(5,0,true)]) :: (cla 98 10 [on 0] (List.range 19++[20,21,22]),[(22,0,false),(16,0,true),(9,0,false),(5,0,true)]) :: (cla 99 10 [.v false [.an 0 1]] (List.range 19++[20,21,22,98]),[(22,0,false),(16,0,true),(9,0,false),(5,0,true)]) :: (cla 100 11 [ag 2 98,ag 2 99,on 20] (List.range 19++[20,21,22,98,99]),[(22,0,false),(16,0,true),(9,0,false),(5,0,true)]) :: (co 102 (.binOp .eql 38 (.tmp 88) (.const (.int .i64 0)) 38) 4 [.v false [.an 100 20],.v false [.lit (.int .i64 0)]] (List.range 19++[20,21,22,98,99,100,101]) [],[(101,0,true),(22,0,false),(16,0,true),(9,0,false),(5,0,true)]) :: (co 103 (.binOp .geq 3 (.tmp 92) (.const (.int .i64 0)) 3) 4 [on 0,.v false [.lit (.int .i64 0)]] (List.range 19++[20,21,22,98,99,100,101,102]) [],[(101,0,true),(22,0,false),(16,0,true),(9,0,false),(5,0,true)]) :: (co 104 (.binOp .geq 3 (.tmp 97) (.const (.int .i64 0)) 3) 4 [.v false [.an 0 1],.v false [.lit (.int .i64 0)]] (List.range 19++[20,21,22]++List.range' 98 6) [],[(101,0,true),(22,0,false),(16,0,true),(9,0,false),(5,0,true)]) :: (co 105 (.binOp .eql 38 (.tmp 88) (.const (.int .i64 0)) 38) 4 [.v false [.an 100 20],.v false [.lit (.int .i64 0)]] (List.range 19++[20,21,22,98,99,100,101]) [],[(101,0,false),(22,0,false),(16,0,true),(9,0,false),(5,0,true)]) :: (cla 106 10 [on 0] [0,1,2,3,4,5],[(5,0,false)]) :: (cla 107 10 [.v false [.an 0 1]] [0,1,2,3,4,5,106],[(5,0,false)]) :: (cla 108 11 [ag 2 106,ag 2 107,.v false [.lit (.slice none 0 0)]] [0,1,2,3,4,5,106,107],[(5,0,false)]) :: (co 110 (.binOp .eql 38 (.tmp 88) (.const (.int .i64 0)) 38) 4 [.v false [.an 108 20],.v false [.lit (.int .i64 0)]] [0,1,2,3,4,5,106,107,108,109] [],[(109,0,true),(5,0,false)]) :: (co 111 (.binOp .geq 3 (.tmp 92) (.const (.int .i64 0)) 3) 4 [on 0,.v false [.lit (.int .i64 0)]] [0,1,2,3,4,5,106,107,108,109,110] [],[(109,0,true),(5,0,false)]) :: (co 112 (.binOp .geq 3 (.tmp 97) (.const (.int .i64 0)) 3) 4 [.v false [.an 0 1],.v false [.lit (.int .i64 0)]] (List.range 6++List.range' 106 6) [],[(109,0,true),(5,0,false)]) :: (co 113 (.binOp .eql 38 (.tmp 88) (.const (.int .i64 0)) 38) 4 [.v false [.an 108 20],.v false [.lit (.int .i64 0)]] [0,1,2,3,4,5,106,107,108,109] [],[(109,0,false),(5,0,false)]) :: [])) (js:=[.test 5 0 (List.range 6) [],.test 9 0 (List.range 10) [(5,0,true)],.ghost 16 (List.range 16) [(9,0,false),(5,0,true)],.test 22 0 (List.range 19++[20,21,22]) [(16,0,true),(9,0,false),(5,0,true)],.test 26 0 (List.range 19++List.range' 20 7) [(22,0,true),(16,0,true),(9,0,false),(5,0,true)],.ghost 33 (List.range 19++List.range' 20 13) [(26,0,false),(22,0,true),(16,0,true),(9,0,false),(5,0,true)],.test 39 0 (List.range 19++List.range' 20 16++[37,38,39]) [(33,0,true),(26,0,false),(22,0,true),(16,0,true),(9,0,false),(5,0,true)],.test 43 0 (List.range 19++List.range' 20 16++List.range' 37 7) [(39,0,true),(33,0,true),(26,0,false),(22,0,true),(16,0,true),(9,0,false),(5,0,true)],.ghost 50 (List.range 19++List.range' 20 16++List.range' 37 13) [(43,0,false),(39,0,true),(33,0,true),(26,0,false),(22,0,true),(16,0,true),(9,0,false),(5,0,true)],.test 56 0 (List.range 19++List.range' 20 16++List.range' 37 16++[54,55,56]) [(50,0,true),(43,0,false),(39,0,true),(33,0,true),(26,0,false),(22,0,true),(16,0,true),(9,0,false),(5,0,true)],.test 60 0 (List.range 19++List.range' 20 16++List.range' 37 16++List.range' 54 7) [(56,0,true),(50,0,true),(43,0,false),(39,0,true),(33,0,true),(26,0,false),(22,0,true),(16,0,true),(9,0,false),(5,0,true)],.ghost 67 (List.range 19++List.range' 20 16++List.range' 37 16++List.range' 54 13) [(60,0,false),(56,0,true),(50,0,true),(43,0,false),(39,0,true),(33,0,true),(26,0,false),(22,0,true),(16,0,true),(9,0,false),(5,0,true)],.test 73 0 (List.range 19++List.range' 20 16++List.range' 37 16++List.range' 54 16++[71,72,73]) [(67,0,true),(60,0,false),(56,0,true),(50,0,true),(43,0,false),(39,0,true),(33,0,true),(26,0,false),(22,0,true),(16,0,true),(9,0,false),(5,0,true)],.ghost 77 (List.range 19++List.range' 20 16++List.range' 37 16++List.range' 54 16++List.range' 71 6) [(73,0,false),(67,0,true),(60,0,false),(56,0,true),(50,0,true),(43,0,false),(39,0,true),(33,0,true),(26,0,false),(22,0,true),(16,0,true),(9,0,false),(5,0,true)],.ghost 85 (List.range 19++List.range' 20 16++List.range' 37 16++[54,55,56,82,83,84]) [(56,0,false),(50,0,true),(43,0,false),(39,0,true),(33,0,true),(26,0,false),(22,0,true),(16,0,true),(9,0,false),(5,0,true)],.ghost 93 (List.range 19++List.range' 20 16++[37,38,39,90,91,92]) [(39,0,false),(33,0,true),(26,0,false),(22,0,true),(16,0,true),(9,0,false),(5,0,true)],.ghost 101 (List.range 19++[20,21,22,98,99,100]) [(22,0,false),(16,0,true),(9,0,false),(5,0,true)],.ghost 109 [0,1,2,3,4,5,106,107,108] [(5,0,false)]]) (outs:=[⟨.tup [(true,[.lit (.slice none 0 0),.lit (.bool false),.lit (.slice none 0 0),.lit (.bool false),.lit (.slice none 0 0),.lit (.bool false),.lit (.slice none 0 0),.lit (.bool false),.lit (.slice none 0 0),.lit (.bool false),.lit (.slice none 0 0),.lit (.bool false),.lit (.slice none 0 0),.lit (.bool false),.lit (.slice none 0 0),.lit (.bool false),.lit (.slice none 0 0),.lit (.bool false),.lit (.slice none 0 0),.lit (.bool false)]),(true,[.an 3 0,.an 3 1,.an 3 2,.an 3 3,.an 3 4,.an 3 5,.an 3 6,.an 3 7,.an 3 8,.an 3 9,.an 3 10,.an 3 11,.an 3 12,.an 3 13,.an 3 14,.an 3 15,.an 3 16,.an 3 17,.an 3 18,.an 3 19]),(false,[.lit (.bool false)])],(List.range 10),[(9,0,true),(5,0,true)],[],[]⟩,⟨.tup [(true,[.lit (.slice none 0 0),.lit (.bool false),.lit (.slice none 0 0),.lit (.bool false),.lit (.slice none 0 0),.lit (.bool false),.lit (.slice none 0 0),.lit (.bool false),.lit (.slice none 0 0),.lit (.bool false),.lit (.slice none 0 0),.lit (.bool false),.lit (.slice none 0 0),.lit (.bool false),.lit (.slice none 0 0),.lit (.bool false),.lit (.slice none 0 0),.lit (.bool false),.lit (.slice none 0 0),.lit (.bool false)]),(true,[.an 3 0,.an 3 1,.an 3 2,.an 3 3,.an 15 0,.an 15 1,.an 15 2,.an 15 3,.an 3 8,.an 3 9,.an 3 10,.an 3 11,.an 3 12,.an 3 13,.an 3 14,.an 3 15,.an 3 16,.an 3 17,.an 3 18,.an 3 19]),(false,[.lit (.bool false)])],(List.range 19++List.range' 20 7),[(26,0,true),(22,0,true),(16,0,true),(9,0,false),(5,0,true)],[],[]⟩,⟨.tup [(true,[.lit (.slice none 0 0),.lit (.bool false),.lit (.slice none 0 0),.lit (.bool false),.lit (.slice none 0 0),.lit (.bool false),.lit (.slice none 0 0),.lit (.bool false),.lit (.slice none 0 0),.lit (.bool false),.lit (.slice none 0 0),.lit (.bool false),.lit (.slice none 0 0),.lit (.bool false),.lit (.slice none 0 0),.lit (.bool false),.lit (.slice none 0 0),.lit (.bool false),.lit (.slice none 0 0),.lit (.bool false)]),(true,[.an 3 0,.an 3 1,.an 3 2,.an 3 3,.an 15 0,.an 15 1,.an 15 2,.an 15 3,.an 32 0,.an 32 1,.an 32 2,.an 32 3,.an 3 12,.an 3 13,.an 3 14,.an 3 15,.an 3 16,.an 3 17,.an 3 18,.an 3 19]),(false,[.lit (.bool false)])],(List.range 19++List.range' 20 16++List.range' 37 7),[(43,0,true),(39,0,true),(33,0,true),(26,0,false),(22,0,true),(16,0,true),(9,0,false),(5,0,true)],[],[]⟩,⟨.tup [(true,[.lit (.slice none 0 0),.lit (.bool false),.lit (.slice none 0 0),.lit (.bool false),.lit (.slice none 0 0),.lit (.bool false),.lit (.slice none 0 0),.lit (.bool false),.lit (.slice none 0 0),.lit (.bool false),.lit (.slice none 0 0),.lit (.bool false),.lit (.slice none 0 0),.lit (.bool false),.lit (.slice none 0 0),.lit (.bool false),.lit (.slice none 0 0),.lit (.bool false),.lit (.slice none 0 0),.lit (.bool false)]),(true,[.an 3 0,.an 3 1,.an 3 2,.an 3 3,.an 15 0,.an 15 1,.an 15 2,.an 15 3,.an 32 0,.an 32 1,.an 32 2,.an 32 3,.an 49 0,.an 49 1,.an 49 2,.an 49 3,.an 3 16,.an 3 17,.an 3 18,.an 3 19]),(false,[.lit (.bool false)])],(List.range 19++List.range' 20 16++List.range' 37 16++List.range' 54 7),[(60,0,true),(56,0,true),(50,0,true),(43,0,false),(39,0,true),(33,0,true),(26,0,false),(22,0,true),(16,0,true),(9,0,false),(5,0,true)],[],[]⟩,⟨.tup [(true,[.lit (.slice none 0 0),.lit (.bool false),.lit (.slice none 0 0),.lit (.bool false),.lit (.slice none 0 0),.lit (.bool false),.lit (.slice none 0 0),.lit (.bool false),.lit (.slice none 0 0),.lit (.bool false),.lit (.slice none 0 0),.lit (.bool false),.lit (.slice none 0 0),.lit (.bool false),.lit (.slice none 0 0),.lit (.bool false),.lit (.slice none 0 0),.lit (.bool false),.lit (.slice none 0 0),.lit (.bool false)]),(true,[.an 3 0,.an 3 1,.an 3 2,.an 3 3,.an 15 0,.an 15 1,.an 15 2,.an 15 3,.an 32 0,.an 32 1,.an 32 2,.an 32 3,.an 49 0,.an 49 1,.an 49 2,.an 49 3,.an 66 0,.an 66 1,.an 66 2,.an 66 3]),(false,[.lit (.bool false)])],(List.range 19++List.range' 20 16++List.range' 37 16++List.range' 54 16++[71,72,73]),[(73,0,true),(67,0,true),(60,0,false),(56,0,true),(50,0,true),(43,0,false),(39,0,true),(33,0,true),(26,0,false),(22,0,true),(16,0,true),(9,0,false),(5,0,true)],[],[]⟩,⟨.tup [(true,[.an 76 0,.an 76 1,.an 76 2,.an 76 3,.an 76 4,.an 76 5,.an 76 6,.an 76 7,.an 76 8,.an 76 9,.an 76 10,.an 76 11,.an 76 12,.an 76 13,.an 76 14,.an 76 15,.an 76 16,.an 76 17,.an 76 18,.an 76 19]),(true,[.an 3 0,.an 3 1,.an 3 2,.an 3 3,.an 15 0,.an 15 1,.an 15 2,.an 15 3,.an 32 0,.an 32 1,.an 32 2,.an 32 3,.an 49 0,.an 49 1,.an 49 2,.an 49 3,.an 66 0,.an 66 1,.an 66 2,.an 66 3]),(false,[.lit (.bool true)])],(List.range 19++List.range' 20 16++List.range' 37 16++List.range' 54 16++List.range' 71 10),[(77,0,true),(73,0,false),(67,0,true),(60,0,false),(56,0,true),(50,0,true),(43,0,false),(39,0,true),(33,0,true),(26,0,false),(22,0,true),(16,0,true),(9,0,false),(5,0,true)],[],[]⟩,⟨.tup [(true,[.an 76 0,.an 76 1,.an 76 2,.an 76 3,.an 76 4,.an 76 5,.an 76 6,.an 76 7,.an 76 8,.an 76 9,.an 76 10,.an 76 11,.an 76 12,.an 76 13,.an 76 14,.an 76 15,.an 76 16,.an 76 17,.an 76 18,.an 76 19]),(true,[.an 3 0,.an 3 1,.an 3 2,.an 3 3,.an 15 0,.an 15 1,.an 15 2,.an 15 3,.an 32 0,.an 32 1,.an 32 2,.an 32 3,.an 49 0,.an 49 1,.an 49 2,.an 49 3,.an 66 0,.an 66 1,.an 66 2,.an 66 3]),(false,[.lit (.bool false)])],(List.range 19++List.range' 20 16++List.range' 37 16++List.range' 54 16++List.range' 71 7++[81]),[(77,0,false),(73,0,false),(67,0,true),(60,0,false),(56,0,true),(50,0,true),(43,0,false),(39,0,true),(33,0,true),(26,0,false),(22,0,true),(16,0,true),(9,0,false),(5,0,true)],[],[]⟩,⟨.tup [(true,[.lit (.slice none 0 0),.lit (.bool false),.lit (.slice none 0 0),.lit (.bool false),.lit (.slice none 0 0),.lit (.bool false),.lit (.slice none 0 0),.lit (.bool false),.lit (.slice none 0 0),.lit (.bool false),.lit (.slice none 0 0),.lit (.bool false),.lit (.slice none 0 0),.lit (.bool false),.lit (.slice none 0 0),.lit (.bool false),.lit (.slice none 0 0),.lit (.bool false),.lit (.slice none 0 0),.lit (.bool false)]),(true,[.an 3 0,.an 3 1,.an 3 2,.an 3 3,.an 15 0,.an 15 1,.an 15 2,.an 15 3,.an 32 0,.an 32 1,.an 32 2,.an 32 3,.an 49 0,.an 49 1,.an 49 2,.an 49 3,.an 3 16,.an 3 17,.an 3 18,.an 3 19]),(false,[.lit (.bool false)])],(List.range 19++List.range' 20 16++List.range' 37 16++List.range' 54 14++[70]),[(67,0,false),(60,0,false),(56,0,true),(50,0,true),(43,0,false),(39,0,true),(33,0,true),(26,0,false),(22,0,true),(16,0,true),(9,0,false),(5,0,true)],[],[]⟩,⟨.tup [(true,[.an 84 0,.an 84 1,.an 84 2,.an 84 3,.an 84 4,.an 84 5,.an 84 6,.an 84 7,.an 84 8,.an 84 9,.an 84 10,.an 84 11,.an 84 12,.an 84 13,.an 84 14,.an 84 15,.an 84 16,.an 84 17,.an 84 18,.an 84 19]),(true,[.an 3 0,.an 3 1,.an 3 2,.an 3 3,.an 15 0,.an 15 1,.an 15 2,.an 15 3,.an 32 0,.an 32 1,.an 32 2,.an 32 3,.an 49 0,.an 49 1,.an 49 2,.an 49 3,.an 3 16,.an 3 17,.an 3 18,.an 3 19]),(false,[.lit (.bool true)])],(List.range 19++List.range' 20 16++List.range' 37 16++[54,55,56]++List.range' 82 7),[(85,0,true),(56,0,false),(50,0,true),(43,0,false),(39,0,true),(33,0,true),(26,0,false),(22,0,true),(16,0,true),(9,0,false),(5,0,true)],[],[]⟩,⟨.tup [(true,[.an 84 0,.an 84 1,.an 84 2,.an 84 3,.an 84 4,.an 84 5,.an 84 6,.an 84 7,.an 84 8,.an 84 9,.an 84 10,.an 84 11,.an 84 12,.an 84 13,.an 84 14,.an 84 15,.an 84 16,.an 84 17,.an 84 18,.an 84 19]),(true,[.an 3 0,.an 3 1,.an 3 2,.an 3 3,.an 15 0,.an 15 1,.an 15 2,.an 15 3,.an 32 0,.an 32 1,.an 32 2,.an 32 3,.an 49 0,.an 49 1,.an 49 2,.an 49 3,.an 3 16,.an 3 17,.an 3 18,.an 3 19]),(false,[.lit (.bool false)])],(List.range 19++List.range' 20 16++List.range' 37 16++[54,55,56,82,83,84,85,89]),[(85,0,false),(56,0,false),(50,0,true),(43,0,false),(39,0,true),(33,0,true),(26,0,false),(22,0,true),(16,0,true),(9,0,false),(5,0,true)],[],[]⟩,⟨.tup [(true,[.lit (.slice none 0 0),.lit (.bool false),.lit (.slice none 0 0),.lit (.bool false),.lit (.slice none 0 0),.lit (.bool false),.lit (.slice none 0 0),.lit (.bool false),.lit (.slice none 0 0),.lit (.bool false),.lit (.slice none 0 0),.lit (.bool false),.lit (.slice none 0 0),.lit (.bool false),.lit (.slice none 0 0),.lit (.bool false),.lit (.slice none 0 0),.lit (.bool false),.lit (.slice none 0 0),.lit (.bool false)]),(true,[.an 3 0,.an 3 1,.an 3 2,.an 3 3,.an 15 0,.an 15 1,.an 15 2,.an 15 3,.an 32 0,.an 32 1,.an 32 2,.an 32 3,.an 3 12,.an 3 13,.an 3 14,.an 3 15,.an 3 16,.an 3 17,.an 3 18,.an 3 19]),(false,[.lit (.bool false)])],(List.range 19++List.range' 20 16++List.range' 37 14++[53]),[(50,0,false),(43,0,false),(39,0,true),(33,0,true),(26,0,false),(22,0,true),(16,0,true),(9,0,false),(5,0,true)],[],[]⟩,⟨.tup [(true,[.an 92 0,.an 92 1,.an 92 2,.an 92 3,.an 92 4,.an 92 5,.an 92 6,.an 92 7,.an 92 8,.an 92 9,.an 92 10,.an 92 11,.an 92 12,.an 92 13,.an 92 14,.an 92 15,.an 92 16,.an 92 17,.an 92 18,.an 92 19]),(true,[.an 3 0,.an 3 1,.an 3 2,.an 3 3,.an 15 0,.an 15 1,.an 15 2,.an 15 3,.an 32 0,.an 32 1,.an 32 2,.an 32 3,.an 3 12,.an 3 13,.an 3 14,.an 3 15,.an 3 16,.an 3 17,.an 3 18,.an 3 19]),(false,[.lit (.bool true)])],(List.range 19++List.range' 20 16++[37,38,39]++List.range' 90 7),[(93,0,true),(39,0,false),(33,0,true),(26,0,false),(22,0,true),(16,0,true),(9,0,false),(5,0,true)],[],[]⟩,⟨.tup [(true,[.an 92 0,.an 92 1,.an 92 2,.an 92 3,.an 92 4,.an 92 5,.an 92 6,.an 92 7,.an 92 8,.an 92 9,.an 92 10,.an 92 11,.an 92 12,.an 92 13,.an 92 14,.an 92 15,.an 92 16,.an 92 17,.an 92 18,.an 92 19]),(true,[.an 3 0,.an 3 1,.an 3 2,.an 3 3,.an 15 0,.an 15 1,.an 15 2,.an 15 3,.an 32 0,.an 32 1,.an 32 2,.an 32 3,.an 3 12,.an 3 13,.an 3 14,.an 3 15,.an 3 16,.an 3 17,.an 3 18,.an 3 19]),(false,[.lit (.bool false)])],(List.range 19++List.range' 20 16++[37,38,39,90,91,92,93,97]),[(93,0,false),(39,0,false),(33,0,true),(26,0,false),(22,0,true),(16,0,true),(9,0,false),(5,0,true)],[],[]⟩,⟨.tup [(true,[.lit (.slice none 0 0),.lit (.bool false),.lit (.slice none 0 0),.lit (.bool false),.lit (.slice none 0 0),.lit (.bool false),.lit (.slice none 0 0),.lit (.bool false),.lit (.slice none 0 0),.lit (.bool false),.lit (.slice none 0 0),.lit (.bool false),.lit (.slice none 0 0),.lit (.bool false),.lit (.slice none 0 0),.lit (.bool false),.lit (.slice none 0 0),.lit (.bool false),.lit (.slice none 0 0),.lit (.bool false)]),(true,[.an 3 0,.an 3 1,.an 3 2,.an 3 3,.an 15 0,.an 15 1,.an 15 2,.an 15 3,.an 3 8,.an 3 9,.an 3 10,.an 3 11,.an 3 12,.an 3 13,.an 3 14,.an 3 15,.an 3 16,.an 3 17,.an 3 18,.an 3 19]),(false,[.lit (.bool false)])],(List.range 19++List.range' 20 14++[36]),[(33,0,false),(26,0,false),(22,0,true),(16,0,true),(9,0,false),(5,0,true)],[],[]⟩,⟨.tup [(true,[.an 100 0,.an 100 1,.an 100 2,.an 100 3,.an 100 4,.an 100 5,.an 100 6,.an 100 7,.an 100 8,.an 100 9,.an 100 10,.an 100 11,.an 100 12,.an 100 13,.an 100 14,.an 100 15,.an 100 16,.an 100 17,.an 100 18,.an 100 19]),(true,[.an 3 0,.an 3 1,.an 3 2,.an 3 3,.an 15 0,.an 15 1,.an 15 2,.an 15 3,.an 3 8,.an 3 9,.an 3 10,.an 3 11,.an 3 12,.an 3 13,.an 3 14,.an 3 15,.an 3 16,.an 3 17,.an 3 18,.an 3 19]),(false,[.lit (.bool true)])],(List.range 19++[20,21,22]++List.range' 98 7),[(101,0,true),(22,0,false),(16,0,true),(9,0,false),(5,0,true)],[],[]⟩,⟨.tup [(true,[.an 100 0,.an 100 1,.an 100 2,.an 100 3,.an 100 4,.an 100 5,.an 100 6,.an 100 7,.an 100 8,.an 100 9,.an 100 10,.an 100 11,.an 100 12,.an 100 13,.an 100 14,.an 100 15,.an 100 16,.an 100 17,.an 100 18,.an 100 19]),(true,[.an 3 0,.an 3 1,.an 3 2,.an 3 3,.an 15 0,.an 15 1,.an 15 2,.an 15 3,.an 3 8,.an 3 9,.an 3 10,.an 3 11,.an 3 12,.an 3 13,.an 3 14,.an 3 15,.an 3 16,.an 3 17,.an 3 18,.an 3 19]),(false,[.lit (.bool false)])],(List.range 19++[20,21,22,98,99,100,101,105]),[(101,0,false),(22,0,false),(16,0,true),(9,0,false),(5,0,true)],[],[]⟩,⟨.tup [(true,[.lit (.slice none 0 0),.lit (.bool false),.lit (.slice none 0 0),.lit (.bool false),.lit (.slice none 0 0),.lit (.bool false),.lit (.slice none 0 0),.lit (.bool false),.lit (.slice none 0 0),.lit (.bool false),.lit (.slice none 0 0),.lit (.bool false),.lit (.slice none 0 0),.lit (.bool false),.lit (.slice none 0 0),.lit (.bool false),.lit (.slice none 0 0),.lit (.bool false),.lit (.slice none 0 0),.lit (.bool false)]),(true,[.an 3 0,.an 3 1,.an 3 2,.an 3 3,.an 3 4,.an 3 5,.an 3 6,.an 3 7,.an 3 8,.an 3 9,.an 3 10,.an 3 11,.an 3 12,.an 3 13,.an 3 14,.an 3 15,.an 3 16,.an 3 17,.an 3 18,.an 3 19]),(false,[.lit (.bool false)])],(List.range 17++[19]),[(16,0,false),(9,0,false),(5,0,true)],[],[]⟩,⟨.tup [(true,[.an 108 0,.an 108 1,.an 108 2,.an 108 3,.an 108 4,.an 108 5,.an 108 6,.an 108 7,.an 108 8,.an 108 9,.an 108 10,.an 108 11,.an 108 12,.an 108 13,.an 108 14,.an 108 15,.an 108 16,.an 108 17,.an 108 18,.an 108 19]),(true,[.an 3 0,.an 3 1,.an 3 2,.an 3 3,.an 3 4,.an 3 5,.an 3 6,.an 3 7,.an 3 8,.an 3 9,.an 3 10,.an 3 11,.an 3 12,.an 3 13,.an 3 14,.an 3 15,.an 3 16,.an 3 17,.an 3 18,.an 3 19]),(false,[.lit (.bool true)])],(List.range 6++List.range' 106 7),[(109,0,true),(5,0,false)],[],[]⟩,⟨.tup [(true,[.an 108 0,.an 108 1,.an 108 2,.an 108 3,.an 108 4,.an 108 5,.an 108 6,.an 108 7,.an 108 8,.an 108 9,.an 108 10,.an 108 11,.an 108 12,.an 108 13,.an 108 14,.an 108 15,.an 108 16,.an 108 17,.an 108 18,.an 108 19]),(true,[.an 3 0,.an 3 1,.an 3 2,.an 3 3,.an 3 4,.an 3 5,.an 3 6,.an 3 7,.an 3 8,.an 3 9,.an 3 10,.an 3 11,.an 3 12,.an 3 13,.an 3 14,.an 3 15,.an 3 16,.an 3 17,.an 3 18,.an 3 19]),(false,[.lit (.bool false)])],[0,1,2,3,4,5,106,107,108,109,113],[(109,0,false),(5,0,false)],[],[]⟩]) (nc:=114) (by kernel_rfl)
  ⟨fun σ W g h hp hb=>R0 (nm1 (h 0 rfl)) (dV W M hM.1 hM.2),
  fun σ W g h hp hb=>R0 (nm2 (h 0 rfl)) (dV W N hN.1 hN.2),
  fun σ W g h hp hb=>rSZero_any W _ _ M N (h 1 rfl) (h 2 rfl),
  fun σ W g h hp hb=>fun ρ o ho _ hv=>⟨_,oL (nm3 (h 0 rfl)) ho (C6 hv) ⟨9,by kernel_rfl⟩,rfl⟩,
  fun σ W g h hp hb=>fun ρ o ho _ hv=>⟨_,A5 ho (A0 hv).1 ((A0 hv).2.trans (h 4 rfl)) rfl,rfl⟩,
  fun σ W g h hp hb=>fun ρ o ho _ hv=>by
   have hi : 0<l.length:=by have:=of_decide_eq_true (bt (h 5 rfl) (hp 5 0 true rfl));omega
   obtain ⟨u,h1,h2,h3⟩:=X3 (nm3 (h 0 rfl)) ho (A0 hv).1 0 hi (A0 hv).2
   exact ⟨u,h1,h2,fun q hq=>⟨0,rfl,_,_,_,rfl,h3 q hq⟩⟩,
  fun σ W g h hp hb=>fun ρ o ho _ hv=>⟨_,Q6 (h 6 rfl) ho (C6 hv),rfl⟩,
  fun σ W g h hp hb=>fun ρ o ho _ hv=>⟨_,nG ho ((C6 hv).trans (h 7 rfl)),rfl⟩,
  fun σ W g h hp hb=>fun ρ o ho _ hv=>⟨_,A5 ho ((A0 hv).1.trans (h 8 rfl)) (A0 hv).2 rfl,rfl⟩,
  fun σ W g h hp hb=>fun ρ o ho _ hv=>by
   have hi : 0<l.length:=by have:=of_decide_eq_true (bt (h 5 rfl) (hp 5 0 true rfl));omega
   obtain ⟨u,h1,h2,h3⟩:=X3 (nm3 (h 0 rfl)) ho (A0 hv).1 0 hi (A0 hv).2
   exact ⟨u,h1,h2,fun q hq=>⟨0,rfl,_,_,_,rfl,h3 q hq⟩⟩,
  fun σ W g h hp hb=>fun ρ o ho _ hv=>⟨_,Q6 (h 10 rfl) ho (C6 hv),rfl⟩,
  fun σ W g h hp hb=>by
   have hs:(tx l 0).size<=25:=by have:=of_decide_eq_false (bt (h 9 rfl) (hp 9 0 false rfl));omega
   exact R0 (h 11 rfl) (toQC (dE W (tx l 0) (by omega) (hTab.kept g (by simp)))),
  fun σ W g h hp hb=>fun ρ o ho _ hv=>by
   have hi : 0<l.length:=by have:=of_decide_eq_true (bt (h 5 rfl) (hp 5 0 true rfl));omega
   obtain ⟨u,h1,h2,h3⟩:=X3 (nm3 (h 0 rfl)) ho (A0 hv).1 0 hi (A0 hv).2
   exact ⟨u,h1,h2,fun q hq=>⟨0,rfl,_,_,_,rfl,h3 q hq⟩⟩,
  fun σ W g h hp hb=>fun ρ o ho _ hv=>⟨_,Q6 (h 13 rfl) ho (C6 hv),rfl⟩,
  fun σ W g h hp hb=>by
   have hs:(tx l 0).size<=25:=by have:=of_decide_eq_false (bt (h 9 rfl) (hp 9 0 false rfl));omega
   exact R0 (h 14 rfl) (toRqC (aU W (tx l 0) 7 (by omega) (by omega) (by omega))),
  fun σ W g h hp hb=>fun ρ o ho _ hv=>⟨_,A5 ho ((A0 hv).1.trans (qc2 (h 12 rfl))) (A0 hv).2 rfl,congrArg Value.bool (by rw [(of_decide_eq_true (bt (h 16 rfl) (hp 16 0 true rfl)))];rfl)⟩,
  fun σ W g h hp hb=>fun ρ o ho _ hv=>⟨_,A5 ho ((A0 hv).1.trans (rqc2 (h 15 rfl))) (A0 hv).2 rfl,congrArg Value.bool (by rw [(of_decide_eq_true (bt (h 16 rfl) (hp 16 0 true rfl)))];rfl)⟩,
  fun σ W g h hp hb=>fun ρ o ho _ hv=>⟨_,A5 ho ((A0 hv).1.trans (qc2 (h 12 rfl))) (A0 hv).2 rfl,congrArg Value.bool (by simpa using (of_decide_eq_false (bt (h 16 rfl) (hp 16 0 false rfl))))⟩,
  fun σ W g h hp hb=>fun ρ o ho _ hv=>appS0 kRat g rfl
      (X0 kRat (by kernel_rfl) (eF _ _ (by kernel_rfl)) (by decide) (OwV.nil kRat _ _) (cs:=[σ.an 12 0, σ.an 12 1, σ.an 12 2, σ.an 12 3]) rfl (hb.1 _ (.head _)) (qc1 (h 12 rfl)) (W0 (qc1 (h 12 rfl))) (by simp) g.size ho (A0 hv).1 (A0 hv).2)
      (fun m hm hr=>by
      match m,hm,hr with
      | 0,_,_=>exact h 0 rfl
      | 1,_,hr=>exact absurd hr Bool.false_ne_true
      | 2,_,hr=>exact absurd hr Bool.false_ne_true
      | 3,_,hr=>exact absurd hr Bool.false_ne_true
      | 4,_,hr=>exact absurd hr Bool.false_ne_true
      | 5,_,hr=>exact absurd hr Bool.false_ne_true
      | 6,_,_=>exact h 6 rfl
      | 7,_,hr=>exact absurd hr Bool.false_ne_true
      | 8,_,hr=>exact absurd hr Bool.false_ne_true
      | 9,_,hr=>exact absurd hr Bool.false_ne_true
      | 10,_,_=>exact h 10 rfl
      | 11,_,hr=>exact absurd hr Bool.false_ne_true
      | 12,_,hr=>exact absurd hr Bool.false_ne_true
      | 13,_,_=>exact h 13 rfl
      | 14,_,hr=>exact absurd hr Bool.false_ne_true
      | 15,_,hr=>exact absurd hr Bool.false_ne_true
      | 16,_,hr=>exact absurd hr Bool.false_ne_true
      | 17,_,hr=>exact absurd hr Bool.false_ne_true
      | 18,_,hr=>exact absurd hr Bool.false_ne_true
      | 19,hm,_=>exact absurd hm Bool.false_ne_true
      | j+20,hm,_=>exact absurd hm (by simp)),
  fun σ W g h hp hb=>fun ρ o ho _ hv=>⟨_,oL (nm3 (h 0 rfl)) ho (C6 hv) ⟨9,by kernel_rfl⟩,rfl⟩,
  fun σ W g h hp hb=>fun ρ o ho _ hv=>⟨_,A5 ho (A0 hv).1 ((A0 hv).2.trans (h 21 rfl)) rfl,rfl⟩,
  fun σ W g h hp hb=>fun ρ o ho _ hv=>by
   have hi : 1<l.length:=by have:=of_decide_eq_true (bt (h 22 rfl) (hp 22 0 true rfl));omega
   obtain ⟨u,h1,h2,h3⟩:=X3 (nm3 (h 0 rfl)) ho (A0 hv).1 1 hi (A0 hv).2
   exact ⟨u,h1,h2,fun q hq=>⟨0,rfl,_,_,_,rfl,h3 q hq⟩⟩,
  fun σ W g h hp hb=>fun ρ o ho _ hv=>⟨_,Q6 (h 23 rfl) ho (C6 hv),rfl⟩,
  fun σ W g h hp hb=>fun ρ o ho _ hv=>⟨_,nG ho ((C6 hv).trans (h 24 rfl)),rfl⟩,
  fun σ W g h hp hb=>fun ρ o ho _ hv=>⟨_,A5 ho ((A0 hv).1.trans (h 25 rfl)) (A0 hv).2 rfl,rfl⟩,
  fun σ W g h hp hb=>fun ρ o ho _ hv=>by
   have hi : 1<l.length:=by have:=of_decide_eq_true (bt (h 22 rfl) (hp 22 0 true rfl));omega
   obtain ⟨u,h1,h2,h3⟩:=X3 (nm3 (h 0 rfl)) ho (A0 hv).1 1 hi (A0 hv).2
   exact ⟨u,h1,h2,fun q hq=>⟨0,rfl,_,_,_,rfl,h3 q hq⟩⟩,
  fun σ W g h hp hb=>fun ρ o ho _ hv=>⟨_,Q6 (h 27 rfl) ho (C6 hv),rfl⟩,
  fun σ W g h hp hb=>by
   have hs:(tx l 1).size<=25:=by have:=of_decide_eq_false (bt (h 26 rfl) (hp 26 0 false rfl));omega
   exact R0 (h 28 rfl) (toQC (dE W (tx l 1) (by omega) (hTab.kept g (by simp)))),
  fun σ W g h hp hb=>fun ρ o ho _ hv=>by
   have hi : 1<l.length:=by have:=of_decide_eq_true (bt (h 22 rfl) (hp 22 0 true rfl));omega
   obtain ⟨u,h1,h2,h3⟩:=X3 (nm3 (h 0 rfl)) ho (A0 hv).1 1 hi (A0 hv).2
   exact ⟨u,h1,h2,fun q hq=>⟨0,rfl,_,_,_,rfl,h3 q hq⟩⟩,
  fun σ W g h hp hb=>fun ρ o ho _ hv=>⟨_,Q6 (h 30 rfl) ho (C6 hv),rfl⟩,
  fun σ W g h hp hb=>by
   have hs:(tx l 1).size<=25:=by have:=of_decide_eq_false (bt (h 26 rfl) (hp 26 0 false rfl));omega
   exact R0 (h 31 rfl) (toRqC (aU W (tx l 1) 7 (by omega) (by omega) (by omega))),
  fun σ W g h hp hb=>fun ρ o ho _ hv=>⟨_,A5 ho ((A0 hv).1.trans (qc2 (h 29 rfl))) (A0 hv).2 rfl,congrArg Value.bool (by rw [(of_decide_eq_true (bt (h 33 rfl) (hp 33 0 true rfl)))];rfl)⟩,
  fun σ W g h hp hb=>fun ρ o ho _ hv=>⟨_,A5 ho ((A0 hv).1.trans (rqc2 (h 32 rfl))) (A0 hv).2 rfl,congrArg Value.bool (by rw [(of_decide_eq_true (bt (h 33 rfl) (hp 33 0 true rfl)))];rfl)⟩,
  fun σ W g h hp hb=>fun ρ o ho _ hv=>⟨_,A5 ho ((A0 hv).1.trans (qc2 (h 29 rfl))) (A0 hv).2 rfl,congrArg Value.bool (by simpa using (of_decide_eq_false (bt (h 33 rfl) (hp 33 0 false rfl))))⟩,
  fun σ W g h hp hb=>fun ρ o ho _ hv=>appS kRat g rfl (m0:=20) rfl rfl rfl (h 20 rfl)
      (X0 kRat (by kernel_rfl) (eF _ _ (by kernel_rfl)) (by decide) (h 20 rfl) (cs:=[σ.an 29 0, σ.an 29 1, σ.an 29 2, σ.an 29 3]) rfl (hb.1 _ (.head _)) (qc1 (h 29 rfl)) (W0 (qc1 (h 29 rfl))) (by simp) g.size ho (A0 hv).1 (A0 hv).2)
      (fun m hm hne hr=>by
      match m,hm,hne,hr with
      | 0,_,_,_=>exact .inl ⟨h 0 rfl,fun q hq=>D7 (h 20 rfl) (NmV.block (h 0 rfl) hq)⟩
      | 1,_,_,hr=>exact absurd hr Bool.false_ne_true
      | 2,_,_,hr=>exact absurd hr Bool.false_ne_true
      | 3,_,_,hr=>exact absurd hr Bool.false_ne_true
      | 4,_,_,hr=>exact absurd hr Bool.false_ne_true
      | 5,_,_,hr=>exact absurd hr Bool.false_ne_true
      | 6,_,_,_=>exact .inl ⟨h 6 rfl,fun q hq=>D7 (h 20 rfl) (SaV.block (h 6 rfl) hq)⟩
      | 7,_,_,hr=>exact absurd hr Bool.false_ne_true
      | 8,_,_,hr=>exact absurd hr Bool.false_ne_true
      | 9,_,_,hr=>exact absurd hr Bool.false_ne_true
      | 10,_,_,_=>exact .inl ⟨h 10 rfl,fun q hq=>D7 (h 20 rfl) (SaV.block (h 10 rfl) hq)⟩
      | 11,_,_,hr=>exact absurd hr Bool.false_ne_true
      | 12,_,_,hr=>exact absurd hr Bool.false_ne_true
      | 13,_,_,_=>exact .inl ⟨h 13 rfl,fun q hq=>D7 (h 20 rfl) (SaV.block (h 13 rfl) hq)⟩
      | 14,_,_,hr=>exact absurd hr Bool.false_ne_true
      | 15,_,_,hr=>exact absurd hr Bool.false_ne_true
      | 16,_,_,hr=>exact absurd hr Bool.false_ne_true
      | 17,_,_,hr=>exact absurd hr Bool.false_ne_true
      | 18,_,_,hr=>exact absurd hr Bool.false_ne_true
      | 19,hm,_,_=>exact absurd hm Bool.false_ne_true
      | 20,_,hne,_=>exact absurd rfl hne
      | 21,_,_,hr=>exact absurd hr Bool.false_ne_true
      | 22,_,_,hr=>exact absurd hr Bool.false_ne_true
      | 23,_,_,_=>exact .inl ⟨h 23 rfl,fun q hq=>D7 (h 20 rfl) (SaV.block (h 23 rfl) hq)⟩
      | 24,_,_,hr=>exact absurd hr Bool.false_ne_true
      | 25,_,_,hr=>exact absurd hr Bool.false_ne_true
      | 26,_,_,hr=>exact absurd hr Bool.false_ne_true
      | 27,_,_,_=>exact .inl ⟨h 27 rfl,fun q hq=>D7 (h 20 rfl) (SaV.block (h 27 rfl) hq)⟩
      | 28,_,_,hr=>exact absurd hr Bool.false_ne_true
      | 29,_,_,hr=>exact absurd hr Bool.false_ne_true
      | 30,_,_,_=>exact .inl ⟨h 30 rfl,fun q hq=>D7 (h 20 rfl) (SaV.block (h 30 rfl) hq)⟩
      | 31,_,_,hr=>exact absurd hr Bool.false_ne_true
      | 32,_,_,hr=>exact absurd hr Bool.false_ne_true
      | 33,_,_,hr=>exact absurd hr Bool.false_ne_true
      | 34,_,_,hr=>exact absurd hr Bool.false_ne_true
      | 35,_,_,hr=>exact absurd hr Bool.false_ne_true
      | 36,hm,_,_=>exact absurd hm Bool.false_ne_true
      | j+37,hm,_,_=>exact absurd hm (by simp)),
  fun σ W g h hp hb=>fun ρ o ho _ hv=>⟨_,oL (nm3 (h 0 rfl)) ho (C6 hv) ⟨9,by kernel_rfl⟩,rfl⟩,
  fun σ W g h hp hb=>fun ρ o ho _ hv=>⟨_,A5 ho (A0 hv).1 ((A0 hv).2.trans (h 38 rfl)) rfl,rfl⟩,
  fun σ W g h hp hb=>fun ρ o ho _ hv=>by
   have hi : 2<l.length:=by have:=of_decide_eq_true (bt (h 39 rfl) (hp 39 0 true rfl));omega
   obtain ⟨u,h1,h2,h3⟩:=X3 (nm3 (h 0 rfl)) ho (A0 hv).1 2 hi (A0 hv).2
   exact ⟨u,h1,h2,fun q hq=>⟨0,rfl,_,_,_,rfl,h3 q hq⟩⟩,
  fun σ W g h hp hb=>fun ρ o ho _ hv=>⟨_,Q6 (h 40 rfl) ho (C6 hv),rfl⟩,
  fun σ W g h hp hb=>fun ρ o ho _ hv=>⟨_,nG ho ((C6 hv).trans (h 41 rfl)),rfl⟩,
  fun σ W g h hp hb=>fun ρ o ho _ hv=>⟨_,A5 ho ((A0 hv).1.trans (h 42 rfl)) (A0 hv).2 rfl,rfl⟩,
  fun σ W g h hp hb=>fun ρ o ho _ hv=>by
   have hi : 2<l.length:=by have:=of_decide_eq_true (bt (h 39 rfl) (hp 39 0 true rfl));omega
   obtain ⟨u,h1,h2,h3⟩:=X3 (nm3 (h 0 rfl)) ho (A0 hv).1 2 hi (A0 hv).2
   exact ⟨u,h1,h2,fun q hq=>⟨0,rfl,_,_,_,rfl,h3 q hq⟩⟩,
  fun σ W g h hp hb=>fun ρ o ho _ hv=>⟨_,Q6 (h 44 rfl) ho (C6 hv),rfl⟩,
  fun σ W g h hp hb=>by
   have hs:(tx l 2).size<=25:=by have:=of_decide_eq_false (bt (h 43 rfl) (hp 43 0 false rfl));omega
   exact R0 (h 45 rfl) (toQC (dE W (tx l 2) (by omega) (hTab.kept g (by simp)))),
  fun σ W g h hp hb=>fun ρ o ho _ hv=>by
   have hi : 2<l.length:=by have:=of_decide_eq_true (bt (h 39 rfl) (hp 39 0 true rfl));omega
   obtain ⟨u,h1,h2,h3⟩:=X3 (nm3 (h 0 rfl)) ho (A0 hv).1 2 hi (A0 hv).2
   exact ⟨u,h1,h2,fun q hq=>⟨0,rfl,_,_,_,rfl,h3 q hq⟩⟩,
  fun σ W g h hp hb=>fun ρ o ho _ hv=>⟨_,Q6 (h 47 rfl) ho (C6 hv),rfl⟩,
  fun σ W g h hp hb=>by
   have hs:(tx l 2).size<=25:=by have:=of_decide_eq_false (bt (h 43 rfl) (hp 43 0 false rfl));omega
   exact R0 (h 48 rfl) (toRqC (aU W (tx l 2) 7 (by omega) (by omega) (by omega))),
  fun σ W g h hp hb=>fun ρ o ho _ hv=>⟨_,A5 ho ((A0 hv).1.trans (qc2 (h 46 rfl))) (A0 hv).2 rfl,congrArg Value.bool (by rw [(of_decide_eq_true (bt (h 50 rfl) (hp 50 0 true rfl)))];rfl)⟩,
  fun σ W g h hp hb=>fun ρ o ho _ hv=>⟨_,A5 ho ((A0 hv).1.trans (rqc2 (h 49 rfl))) (A0 hv).2 rfl,congrArg Value.bool (by rw [(of_decide_eq_true (bt (h 50 rfl) (hp 50 0 true rfl)))];rfl)⟩,
  fun σ W g h hp hb=>fun ρ o ho _ hv=>⟨_,A5 ho ((A0 hv).1.trans (qc2 (h 46 rfl))) (A0 hv).2 rfl,congrArg Value.bool (by simpa using (of_decide_eq_false (bt (h 50 rfl) (hp 50 0 false rfl))))⟩,
  fun σ W g h hp hb=>fun ρ o ho _ hv=>appS kRat g rfl (m0:=37) rfl rfl rfl (h 37 rfl)
      (X0 kRat (by kernel_rfl) (eF _ _ (by kernel_rfl)) (by decide) (h 37 rfl) (cs:=[σ.an 46 0, σ.an 46 1, σ.an 46 2, σ.an 46 3]) rfl (hb.1 _ (.head _)) (qc1 (h 46 rfl)) (W0 (qc1 (h 46 rfl))) (by simp) g.size ho (A0 hv).1 (A0 hv).2)
      (fun m hm hne hr=>by
      match m,hm,hne,hr with
      | 0,_,_,_=>exact .inl ⟨h 0 rfl,fun q hq=>D7 (h 37 rfl) (NmV.block (h 0 rfl) hq)⟩
      | 1,_,_,hr=>exact absurd hr Bool.false_ne_true
      | 2,_,_,hr=>exact absurd hr Bool.false_ne_true
      | 3,_,_,hr=>exact absurd hr Bool.false_ne_true
      | 4,_,_,hr=>exact absurd hr Bool.false_ne_true
      | 5,_,_,hr=>exact absurd hr Bool.false_ne_true
      | 6,_,_,_=>exact .inl ⟨h 6 rfl,fun q hq=>D7 (h 37 rfl) (SaV.block (h 6 rfl) hq)⟩
      | 7,_,_,hr=>exact absurd hr Bool.false_ne_true
      | 8,_,_,hr=>exact absurd hr Bool.false_ne_true
      | 9,_,_,hr=>exact absurd hr Bool.false_ne_true
      | 10,_,_,_=>exact .inl ⟨h 10 rfl,fun q hq=>D7 (h 37 rfl) (SaV.block (h 10 rfl) hq)⟩
      | 11,_,_,hr=>exact absurd hr Bool.false_ne_true
      | 12,_,_,hr=>exact absurd hr Bool.false_ne_true
      | 13,_,_,_=>exact .inl ⟨h 13 rfl,fun q hq=>D7 (h 37 rfl) (SaV.block (h 13 rfl) hq)⟩
      | 14,_,_,hr=>exact absurd hr Bool.false_ne_true
      | 15,_,_,hr=>exact absurd hr Bool.false_ne_true
      | 16,_,_,hr=>exact absurd hr Bool.false_ne_true
      | 17,_,_,hr=>exact absurd hr Bool.false_ne_true
      | 18,_,_,hr=>exact absurd hr Bool.false_ne_true
      | 19,hm,_,_=>exact absurd hm Bool.false_ne_true
      | 20,_,_,_=>exact .inr ⟨[fv l 0],rfl,by simp,h 20 rfl⟩
      | 21,_,_,hr=>exact absurd hr Bool.false_ne_true
      | 22,_,_,hr=>exact absurd hr Bool.false_ne_true
      | 23,_,_,_=>exact .inl ⟨h 23 rfl,fun q hq=>D7 (h 37 rfl) (SaV.block (h 23 rfl) hq)⟩
      | 24,_,_,hr=>exact absurd hr Bool.false_ne_true
      | 25,_,_,hr=>exact absurd hr Bool.false_ne_true
      | 26,_,_,hr=>exact absurd hr Bool.false_ne_true
      | 27,_,_,_=>exact .inl ⟨h 27 rfl,fun q hq=>D7 (h 37 rfl) (SaV.block (h 27 rfl) hq)⟩
      | 28,_,_,hr=>exact absurd hr Bool.false_ne_true
      | 29,_,_,hr=>exact absurd hr Bool.false_ne_true
      | 30,_,_,_=>exact .inl ⟨h 30 rfl,fun q hq=>D7 (h 37 rfl) (SaV.block (h 30 rfl) hq)⟩
      | 31,_,_,hr=>exact absurd hr Bool.false_ne_true
      | 32,_,_,hr=>exact absurd hr Bool.false_ne_true
      | 33,_,_,hr=>exact absurd hr Bool.false_ne_true
      | 34,_,_,hr=>exact absurd hr Bool.false_ne_true
      | 35,_,_,hr=>exact absurd hr Bool.false_ne_true
      | 36,hm,_,_=>exact absurd hm Bool.false_ne_true
      | 37,_,hne,_=>exact absurd rfl hne
      | 38,_,_,hr=>exact absurd hr Bool.false_ne_true
      | 39,_,_,hr=>exact absurd hr Bool.false_ne_true
      | 40,_,_,_=>exact .inl ⟨h 40 rfl,fun q hq=>D7 (h 37 rfl) (SaV.block (h 40 rfl) hq)⟩
      | 41,_,_,hr=>exact absurd hr Bool.false_ne_true
      | 42,_,_,hr=>exact absurd hr Bool.false_ne_true
      | 43,_,_,hr=>exact absurd hr Bool.false_ne_true
      | 44,_,_,_=>exact .inl ⟨h 44 rfl,fun q hq=>D7 (h 37 rfl) (SaV.block (h 44 rfl) hq)⟩
      | 45,_,_,hr=>exact absurd hr Bool.false_ne_true
      | 46,_,_,hr=>exact absurd hr Bool.false_ne_true
      | 47,_,_,_=>exact .inl ⟨h 47 rfl,fun q hq=>D7 (h 37 rfl) (SaV.block (h 47 rfl) hq)⟩
      | 48,_,_,hr=>exact absurd hr Bool.false_ne_true
      | 49,_,_,hr=>exact absurd hr Bool.false_ne_true
      | 50,_,_,hr=>exact absurd hr Bool.false_ne_true
      | 51,_,_,hr=>exact absurd hr Bool.false_ne_true
      | 52,_,_,hr=>exact absurd hr Bool.false_ne_true
      | 53,hm,_,_=>exact absurd hm Bool.false_ne_true
      | j+54,hm,_,_=>exact absurd hm (by simp)),
  fun σ W g h hp hb=>fun ρ o ho _ hv=>⟨_,oL (nm3 (h 0 rfl)) ho (C6 hv) ⟨9,by kernel_rfl⟩,rfl⟩,
  fun σ W g h hp hb=>fun ρ o ho _ hv=>⟨_,A5 ho (A0 hv).1 ((A0 hv).2.trans (h 55 rfl)) rfl,rfl⟩,
  fun σ W g h hp hb=>fun ρ o ho _ hv=>by
   have hi : 3<l.length:=by have:=of_decide_eq_true (bt (h 56 rfl) (hp 56 0 true rfl));omega
   obtain ⟨u,h1,h2,h3⟩:=X3 (nm3 (h 0 rfl)) ho (A0 hv).1 3 hi (A0 hv).2
   exact ⟨u,h1,h2,fun q hq=>⟨0,rfl,_,_,_,rfl,h3 q hq⟩⟩,
  fun σ W g h hp hb=>fun ρ o ho _ hv=>⟨_,Q6 (h 57 rfl) ho (C6 hv),rfl⟩,
  fun σ W g h hp hb=>fun ρ o ho _ hv=>⟨_,nG ho ((C6 hv).trans (h 58 rfl)),rfl⟩,
  fun σ W g h hp hb=>fun ρ o ho _ hv=>⟨_,A5 ho ((A0 hv).1.trans (h 59 rfl)) (A0 hv).2 rfl,rfl⟩,
  fun σ W g h hp hb=>fun ρ o ho _ hv=>by
   have hi : 3<l.length:=by have:=of_decide_eq_true (bt (h 56 rfl) (hp 56 0 true rfl));omega
   obtain ⟨u,h1,h2,h3⟩:=X3 (nm3 (h 0 rfl)) ho (A0 hv).1 3 hi (A0 hv).2
   exact ⟨u,h1,h2,fun q hq=>⟨0,rfl,_,_,_,rfl,h3 q hq⟩⟩,
  fun σ W g h hp hb=>fun ρ o ho _ hv=>⟨_,Q6 (h 61 rfl) ho (C6 hv),rfl⟩,
  fun σ W g h hp hb=>by
   have hs:(tx l 3).size<=25:=by have:=of_decide_eq_false (bt (h 60 rfl) (hp 60 0 false rfl));omega
   exact R0 (h 62 rfl) (toQC (dE W (tx l 3) (by omega) (hTab.kept g (by simp)))),
  fun σ W g h hp hb=>fun ρ o ho _ hv=>by
   have hi : 3<l.length:=by have:=of_decide_eq_true (bt (h 56 rfl) (hp 56 0 true rfl));omega
   obtain ⟨u,h1,h2,h3⟩:=X3 (nm3 (h 0 rfl)) ho (A0 hv).1 3 hi (A0 hv).2
   exact ⟨u,h1,h2,fun q hq=>⟨0,rfl,_,_,_,rfl,h3 q hq⟩⟩,
  fun σ W g h hp hb=>fun ρ o ho _ hv=>⟨_,Q6 (h 64 rfl) ho (C6 hv),rfl⟩,
  fun σ W g h hp hb=>by
   have hs:(tx l 3).size<=25:=by have:=of_decide_eq_false (bt (h 60 rfl) (hp 60 0 false rfl));omega
   exact R0 (h 65 rfl) (toRqC (aU W (tx l 3) 7 (by omega) (by omega) (by omega))),
  fun σ W g h hp hb=>fun ρ o ho _ hv=>⟨_,A5 ho ((A0 hv).1.trans (qc2 (h 63 rfl))) (A0 hv).2 rfl,congrArg Value.bool (by rw [(of_decide_eq_true (bt (h 67 rfl) (hp 67 0 true rfl)))];rfl)⟩,
  fun σ W g h hp hb=>fun ρ o ho _ hv=>⟨_,A5 ho ((A0 hv).1.trans (rqc2 (h 66 rfl))) (A0 hv).2 rfl,congrArg Value.bool (by rw [(of_decide_eq_true (bt (h 67 rfl) (hp 67 0 true rfl)))];rfl)⟩,
  fun σ W g h hp hb=>fun ρ o ho _ hv=>⟨_,A5 ho ((A0 hv).1.trans (qc2 (h 63 rfl))) (A0 hv).2 rfl,congrArg Value.bool (by simpa using (of_decide_eq_false (bt (h 67 rfl) (hp 67 0 false rfl))))⟩,
  fun σ W g h hp hb=>fun ρ o ho _ hv=>appS kRat g rfl (m0:=54) rfl rfl rfl (h 54 rfl)
      (X0 kRat (by kernel_rfl) (eF _ _ (by kernel_rfl)) (by decide) (h 54 rfl) (cs:=[σ.an 63 0, σ.an 63 1, σ.an 63 2, σ.an 63 3]) rfl (hb.1 _ (.head _)) (qc1 (h 63 rfl)) (W0 (qc1 (h 63 rfl))) (by simp) g.size ho (A0 hv).1 (A0 hv).2)
      (fun m hm hne hr=>by
      match m,hm,hne,hr with
      | 0,_,_,_=>exact .inl ⟨h 0 rfl,fun q hq=>D7 (h 54 rfl) (NmV.block (h 0 rfl) hq)⟩
      | 1,_,_,hr=>exact absurd hr Bool.false_ne_true
      | 2,_,_,hr=>exact absurd hr Bool.false_ne_true
      | 3,_,_,hr=>exact absurd hr Bool.false_ne_true
      | 4,_,_,hr=>exact absurd hr Bool.false_ne_true
      | 5,_,_,hr=>exact absurd hr Bool.false_ne_true
      | 6,_,_,_=>exact .inl ⟨h 6 rfl,fun q hq=>D7 (h 54 rfl) (SaV.block (h 6 rfl) hq)⟩
      | 7,_,_,hr=>exact absurd hr Bool.false_ne_true
      | 8,_,_,hr=>exact absurd hr Bool.false_ne_true
      | 9,_,_,hr=>exact absurd hr Bool.false_ne_true
      | 10,_,_,_=>exact .inl ⟨h 10 rfl,fun q hq=>D7 (h 54 rfl) (SaV.block (h 10 rfl) hq)⟩
      | 11,_,_,hr=>exact absurd hr Bool.false_ne_true
      | 12,_,_,hr=>exact absurd hr Bool.false_ne_true
      | 13,_,_,_=>exact .inl ⟨h 13 rfl,fun q hq=>D7 (h 54 rfl) (SaV.block (h 13 rfl) hq)⟩
      | 14,_,_,hr=>exact absurd hr Bool.false_ne_true
      | 15,_,_,hr=>exact absurd hr Bool.false_ne_true
      | 16,_,_,hr=>exact absurd hr Bool.false_ne_true
      | 17,_,_,hr=>exact absurd hr Bool.false_ne_true
      | 18,_,_,hr=>exact absurd hr Bool.false_ne_true
      | 19,hm,_,_=>exact absurd hm Bool.false_ne_true
      | 20,_,_,_=>exact .inr ⟨[fv l 0],rfl,by simp,h 20 rfl⟩
      | 21,_,_,hr=>exact absurd hr Bool.false_ne_true
      | 22,_,_,hr=>exact absurd hr Bool.false_ne_true
      | 23,_,_,_=>exact .inl ⟨h 23 rfl,fun q hq=>D7 (h 54 rfl) (SaV.block (h 23 rfl) hq)⟩
      | 24,_,_,hr=>exact absurd hr Bool.false_ne_true
      | 25,_,_,hr=>exact absurd hr Bool.false_ne_true
      | 26,_,_,hr=>exact absurd hr Bool.false_ne_true
      | 27,_,_,_=>exact .inl ⟨h 27 rfl,fun q hq=>D7 (h 54 rfl) (SaV.block (h 27 rfl) hq)⟩
      | 28,_,_,hr=>exact absurd hr Bool.false_ne_true
      | 29,_,_,hr=>exact absurd hr Bool.false_ne_true
      | 30,_,_,_=>exact .inl ⟨h 30 rfl,fun q hq=>D7 (h 54 rfl) (SaV.block (h 30 rfl) hq)⟩
      | 31,_,_,hr=>exact absurd hr Bool.false_ne_true
      | 32,_,_,hr=>exact absurd hr Bool.false_ne_true
      | 33,_,_,hr=>exact absurd hr Bool.false_ne_true
      | 34,_,_,hr=>exact absurd hr Bool.false_ne_true
      | 35,_,_,hr=>exact absurd hr Bool.false_ne_true
      | 36,hm,_,_=>exact absurd hm Bool.false_ne_true
      | 37,_,_,_=>exact .inr ⟨[fv l 0,fv l 1],rfl,by simp,h 37 rfl⟩
      | 38,_,_,hr=>exact absurd hr Bool.false_ne_true
      | 39,_,_,hr=>exact absurd hr Bool.false_ne_true
      | 40,_,_,_=>exact .inl ⟨h 40 rfl,fun q hq=>D7 (h 54 rfl) (SaV.block (h 40 rfl) hq)⟩
      | 41,_,_,hr=>exact absurd hr Bool.false_ne_true
      | 42,_,_,hr=>exact absurd hr Bool.false_ne_true
      | 43,_,_,hr=>exact absurd hr Bool.false_ne_true
      | 44,_,_,_=>exact .inl ⟨h 44 rfl,fun q hq=>D7 (h 54 rfl) (SaV.block (h 44 rfl) hq)⟩
      | 45,_,_,hr=>exact absurd hr Bool.false_ne_true
      | 46,_,_,hr=>exact absurd hr Bool.false_ne_true
      | 47,_,_,_=>exact .inl ⟨h 47 rfl,fun q hq=>D7 (h 54 rfl) (SaV.block (h 47 rfl) hq)⟩
      | 48,_,_,hr=>exact absurd hr Bool.false_ne_true
      | 49,_,_,hr=>exact absurd hr Bool.false_ne_true
      | 50,_,_,hr=>exact absurd hr Bool.false_ne_true
      | 51,_,_,hr=>exact absurd hr Bool.false_ne_true
      | 52,_,_,hr=>exact absurd hr Bool.false_ne_true
      | 53,hm,_,_=>exact absurd hm Bool.false_ne_true
      | 54,_,hne,_=>exact absurd rfl hne
      | 55,_,_,hr=>exact absurd hr Bool.false_ne_true
      | 56,_,_,hr=>exact absurd hr Bool.false_ne_true
      | 57,_,_,_=>exact .inl ⟨h 57 rfl,fun q hq=>D7 (h 54 rfl) (SaV.block (h 57 rfl) hq)⟩
      | 58,_,_,hr=>exact absurd hr Bool.false_ne_true
      | 59,_,_,hr=>exact absurd hr Bool.false_ne_true
      | 60,_,_,hr=>exact absurd hr Bool.false_ne_true
      | 61,_,_,_=>exact .inl ⟨h 61 rfl,fun q hq=>D7 (h 54 rfl) (SaV.block (h 61 rfl) hq)⟩
      | 62,_,_,hr=>exact absurd hr Bool.false_ne_true
      | 63,_,_,hr=>exact absurd hr Bool.false_ne_true
      | 64,_,_,_=>exact .inl ⟨h 64 rfl,fun q hq=>D7 (h 54 rfl) (SaV.block (h 64 rfl) hq)⟩
      | 65,_,_,hr=>exact absurd hr Bool.false_ne_true
      | 66,_,_,hr=>exact absurd hr Bool.false_ne_true
      | 67,_,_,hr=>exact absurd hr Bool.false_ne_true
      | 68,_,_,hr=>exact absurd hr Bool.false_ne_true
      | 69,_,_,hr=>exact absurd hr Bool.false_ne_true
      | 70,hm,_,_=>exact absurd hm Bool.false_ne_true
      | j+71,hm,_,_=>exact absurd hm (by simp)),
  fun σ W g h hp hb=>fun ρ o ho _ hv=>⟨_,oL (nm3 (h 0 rfl)) ho (C6 hv) ⟨9,by kernel_rfl⟩,rfl⟩,
  fun σ W g h hp hb=>fun ρ o ho _ hv=>⟨_,A5 ho (A0 hv).1 ((A0 hv).2.trans (h 72 rfl)) rfl,rfl⟩,
  fun σ W g h hp hb=>R0 (nm1 (h 0 rfl)) (B8 W M hM.1 hM.2),
  fun σ W g h hp hb=>R0 (nm2 (h 0 rfl)) (B8 W N hN.1 hN.2),
  fun σ W g h hp hb=>by
   have y0:mGood (tx l 0):=⟨by have:=of_decide_eq_false (bt (h 9 rfl) (hp 9 0 false rfl));omega,of_decide_eq_true (bt (h 16 rfl) (hp 16 0 true rfl))⟩
   have y1:mGood (tx l 1):=⟨by have:=of_decide_eq_false (bt (h 26 rfl) (hp 26 0 false rfl));omega,of_decide_eq_true (bt (h 33 rfl) (hp 33 0 true rfl))⟩
   have y2:mGood (tx l 2):=⟨by have:=of_decide_eq_false (bt (h 43 rfl) (hp 43 0 false rfl));omega,of_decide_eq_true (bt (h 50 rfl) (hp 50 0 true rfl))⟩
   have y3:mGood (tx l 3):=⟨by have:=of_decide_eq_false (bt (h 60 rfl) (hp 60 0 false rfl));omega,of_decide_eq_true (bt (h 67 rfl) (hp 67 0 true rfl))⟩
   by_cases p : 0<=M/\0<=N
   · exact oB p (kD W _ _ _ M N [fv l 0,fv l 1,fv l 2,fv l 3] 2 (h 74 rfl) (h 75 rfl) (h 71 rfl) (by simp) (by omega) (R4 hM.1 hM.2) (R4 hN.1 hN.2) p.1 p.2 (by simp only [List.forall_mem_cons];exact ⟨y0.bd,y1.bd,y2.bd,y3.bd,by simp⟩) (hTab.kept g (by simp)))
   · exact oA p (Q3 W _ _ _ M N [fv l 0,fv l 1,fv l 2,fv l 3] 2 (h 74 rfl) (h 75 rfl) (h 71 rfl) (by simp) (by omega) (R4 hM.1 hM.2) (R4 hN.1 hN.2) (by omega)),
  fun σ W g h hp hb=>fun ρ o ho _ hv=>⟨_,A5 ho ((A0 hv).1.trans (rS (h 76 rfl) (of_decide_eq_true (bt (h 77 rfl) (hp 77 0 true rfl)))).2) (A0 hv).2 rfl,rfl⟩,
  fun σ W g h hp hb=>fun ρ o ho _ hv=>⟨_,A5 ho ((A0 hv).1.trans (nm1 (h 0 rfl))) (A0 hv).2 rfl,congrArg Value.bool (decide_eq_true (of_decide_eq_true (bt (h 77 rfl) (hp 77 0 true rfl))).1)⟩,
  fun σ W g h hp hb=>fun ρ o ho _ hv=>⟨_,A5 ho ((A0 hv).1.trans (nm2 (h 0 rfl))) (A0 hv).2 rfl,congrArg Value.bool (decide_eq_true (of_decide_eq_true (bt (h 77 rfl) (hp 77 0 true rfl))).2)⟩,
  fun σ W g h hp hb=>fun ρ o ho _ hv=>⟨_,A5 ho ((A0 hv).1.trans (rR (h 76 rfl) (of_decide_eq_false (bt (h 77 rfl) (hp 77 0 false rfl)))).2) (A0 hv).2 rfl,rfl⟩,
  fun σ W g h hp hb=>R0 (nm1 (h 0 rfl)) (B8 W M hM.1 hM.2),
  fun σ W g h hp hb=>R0 (nm2 (h 0 rfl)) (B8 W N hN.1 hN.2),
  fun σ W g h hp hb=>by
   have y0:mGood (tx l 0):=⟨by have:=of_decide_eq_false (bt (h 9 rfl) (hp 9 0 false rfl));omega,of_decide_eq_true (bt (h 16 rfl) (hp 16 0 true rfl))⟩
   have y1:mGood (tx l 1):=⟨by have:=of_decide_eq_false (bt (h 26 rfl) (hp 26 0 false rfl));omega,of_decide_eq_true (bt (h 33 rfl) (hp 33 0 true rfl))⟩
   have y2:mGood (tx l 2):=⟨by have:=of_decide_eq_false (bt (h 43 rfl) (hp 43 0 false rfl));omega,of_decide_eq_true (bt (h 50 rfl) (hp 50 0 true rfl))⟩
   by_cases p : 0<=M/\0<=N
   · exact oB p (kD W _ _ _ M N [fv l 0,fv l 1,fv l 2] 2 (h 82 rfl) (h 83 rfl) (h 54 rfl) (by simp) (by omega) (R4 hM.1 hM.2) (R4 hN.1 hN.2) p.1 p.2 (by simp only [List.forall_mem_cons];exact ⟨y0.bd,y1.bd,y2.bd,by simp⟩) (hTab.kept g (by simp)))
   · exact oA p (Q3 W _ _ _ M N [fv l 0,fv l 1,fv l 2] 2 (h 82 rfl) (h 83 rfl) (h 54 rfl) (by simp) (by omega) (R4 hM.1 hM.2) (R4 hN.1 hN.2) (by omega)),
  fun σ W g h hp hb=>fun ρ o ho _ hv=>⟨_,A5 ho ((A0 hv).1.trans (rS (h 84 rfl) (of_decide_eq_true (bt (h 85 rfl) (hp 85 0 true rfl)))).2) (A0 hv).2 rfl,rfl⟩,
  fun σ W g h hp hb=>fun ρ o ho _ hv=>⟨_,A5 ho ((A0 hv).1.trans (nm1 (h 0 rfl))) (A0 hv).2 rfl,congrArg Value.bool (decide_eq_true (of_decide_eq_true (bt (h 85 rfl) (hp 85 0 true rfl))).1)⟩,
  fun σ W g h hp hb=>fun ρ o ho _ hv=>⟨_,A5 ho ((A0 hv).1.trans (nm2 (h 0 rfl))) (A0 hv).2 rfl,congrArg Value.bool (decide_eq_true (of_decide_eq_true (bt (h 85 rfl) (hp 85 0 true rfl))).2)⟩,
  fun σ W g h hp hb=>fun ρ o ho _ hv=>⟨_,A5 ho ((A0 hv).1.trans (rR (h 84 rfl) (of_decide_eq_false (bt (h 85 rfl) (hp 85 0 false rfl)))).2) (A0 hv).2 rfl,rfl⟩,
  fun σ W g h hp hb=>R0 (nm1 (h 0 rfl)) (B8 W M hM.1 hM.2),
  fun σ W g h hp hb=>R0 (nm2 (h 0 rfl)) (B8 W N hN.1 hN.2),
  fun σ W g h hp hb=>by
   have y0:mGood (tx l 0):=⟨by have:=of_decide_eq_false (bt (h 9 rfl) (hp 9 0 false rfl));omega,of_decide_eq_true (bt (h 16 rfl) (hp 16 0 true rfl))⟩
   have y1:mGood (tx l 1):=⟨by have:=of_decide_eq_false (bt (h 26 rfl) (hp 26 0 false rfl));omega,of_decide_eq_true (bt (h 33 rfl) (hp 33 0 true rfl))⟩
   by_cases p : 0<=M/\0<=N
   · exact oB p (kD W _ _ _ M N [fv l 0,fv l 1] 2 (h 90 rfl) (h 91 rfl) (h 37 rfl) (by simp) (by omega) (R4 hM.1 hM.2) (R4 hN.1 hN.2) p.1 p.2 (by simp only [List.forall_mem_cons];exact ⟨y0.bd,y1.bd,by simp⟩) (hTab.kept g (by simp)))
   · exact oA p (Q3 W _ _ _ M N [fv l 0,fv l 1] 2 (h 90 rfl) (h 91 rfl) (h 37 rfl) (by simp) (by omega) (R4 hM.1 hM.2) (R4 hN.1 hN.2) (by omega)),
  fun σ W g h hp hb=>fun ρ o ho _ hv=>⟨_,A5 ho ((A0 hv).1.trans (rS (h 92 rfl) (of_decide_eq_true (bt (h 93 rfl) (hp 93 0 true rfl)))).2) (A0 hv).2 rfl,rfl⟩,
  fun σ W g h hp hb=>fun ρ o ho _ hv=>⟨_,A5 ho ((A0 hv).1.trans (nm1 (h 0 rfl))) (A0 hv).2 rfl,congrArg Value.bool (decide_eq_true (of_decide_eq_true (bt (h 93 rfl) (hp 93 0 true rfl))).1)⟩,
  fun σ W g h hp hb=>fun ρ o ho _ hv=>⟨_,A5 ho ((A0 hv).1.trans (nm2 (h 0 rfl))) (A0 hv).2 rfl,congrArg Value.bool (decide_eq_true (of_decide_eq_true (bt (h 93 rfl) (hp 93 0 true rfl))).2)⟩,
  fun σ W g h hp hb=>fun ρ o ho _ hv=>⟨_,A5 ho ((A0 hv).1.trans (rR (h 92 rfl) (of_decide_eq_false (bt (h 93 rfl) (hp 93 0 false rfl)))).2) (A0 hv).2 rfl,rfl⟩,
  fun σ W g h hp hb=>R0 (nm1 (h 0 rfl)) (B8 W M hM.1 hM.2),
  fun σ W g h hp hb=>R0 (nm2 (h 0 rfl)) (B8 W N hN.1 hN.2),
  fun σ W g h hp hb=>by
   have y0:mGood (tx l 0):=⟨by have:=of_decide_eq_false (bt (h 9 rfl) (hp 9 0 false rfl));omega,of_decide_eq_true (bt (h 16 rfl) (hp 16 0 true rfl))⟩
   by_cases p : 0<=M/\0<=N
   · exact oB p (kD W _ _ _ M N [fv l 0] 2 (h 98 rfl) (h 99 rfl) (h 20 rfl) (by simp) (by omega) (R4 hM.1 hM.2) (R4 hN.1 hN.2) p.1 p.2 (by simp only [List.forall_mem_cons];exact ⟨y0.bd,by simp⟩) (hTab.kept g (by simp)))
   · exact oA p (Q3 W _ _ _ M N [fv l 0] 2 (h 98 rfl) (h 99 rfl) (h 20 rfl) (by simp) (by omega) (R4 hM.1 hM.2) (R4 hN.1 hN.2) (by omega)),
  fun σ W g h hp hb=>fun ρ o ho _ hv=>⟨_,A5 ho ((A0 hv).1.trans (rS (h 100 rfl) (of_decide_eq_true (bt (h 101 rfl) (hp 101 0 true rfl)))).2) (A0 hv).2 rfl,rfl⟩,
  fun σ W g h hp hb=>fun ρ o ho _ hv=>⟨_,A5 ho ((A0 hv).1.trans (nm1 (h 0 rfl))) (A0 hv).2 rfl,congrArg Value.bool (decide_eq_true (of_decide_eq_true (bt (h 101 rfl) (hp 101 0 true rfl))).1)⟩,
  fun σ W g h hp hb=>fun ρ o ho _ hv=>⟨_,A5 ho ((A0 hv).1.trans (nm2 (h 0 rfl))) (A0 hv).2 rfl,congrArg Value.bool (decide_eq_true (of_decide_eq_true (bt (h 101 rfl) (hp 101 0 true rfl))).2)⟩,
  fun σ W g h hp hb=>fun ρ o ho _ hv=>⟨_,A5 ho ((A0 hv).1.trans (rR (h 100 rfl) (of_decide_eq_false (bt (h 101 rfl) (hp 101 0 false rfl)))).2) (A0 hv).2 rfl,rfl⟩,
  fun σ W g h hp hb=>R0 (nm1 (h 0 rfl)) (B8 W M hM.1 hM.2),
  fun σ W g h hp hb=>R0 (nm2 (h 0 rfl)) (B8 W N hN.1 hN.2),
  fun σ W g h hp hb=>by
   by_cases p : 0<=M/\0<=N
   · exact oB p (SOf_qsl W _ _ none 0 M N [] 2 (h 106 rfl) (h 107 rfl) ⟨rfl,.inl rfl⟩ (by simp) (by omega) (R4 hM.1 hM.2) (R4 hN.1 hN.2) p.1 p.2 (by simp) (hTab.kept g (by simp)))
   · exact oA p (SOf_bad W _ _ none 0 0 M N 0 0 0 0 2 (h 106 rfl) (h 107 rfl) (by omega) (R4 hM.1 hM.2) (R4 hN.1 hN.2) (by omega) (by omega)),
  fun σ W g h hp hb=>fun ρ o ho _ hv=>⟨_,A5 ho ((A0 hv).1.trans (rS (h 108 rfl) (of_decide_eq_true (bt (h 109 rfl) (hp 109 0 true rfl)))).2) (A0 hv).2 rfl,rfl⟩,
  fun σ W g h hp hb=>fun ρ o ho _ hv=>⟨_,A5 ho ((A0 hv).1.trans (nm1 (h 0 rfl))) (A0 hv).2 rfl,congrArg Value.bool (decide_eq_true (of_decide_eq_true (bt (h 109 rfl) (hp 109 0 true rfl))).1)⟩,
  fun σ W g h hp hb=>fun ρ o ho _ hv=>⟨_,A5 ho ((A0 hv).1.trans (nm2 (h 0 rfl))) (A0 hv).2 rfl,congrArg Value.bool (decide_eq_true (of_decide_eq_true (bt (h 109 rfl) (hp 109 0 true rfl))).2)⟩,
  fun σ W g h hp hb=>fun ρ o ho _ hv=>⟨_,A5 ho ((A0 hv).1.trans (rR (h 108 rfl) (of_decide_eq_false (bt (h 109 rfl) (hp 109 0 false rfl)))).2) (A0 hv).2 rfl,rfl⟩,
  trivial⟩
  ⟨fun σ W g h hp=>⟨_,h 5 rfl⟩,
  fun σ W g h hp=>⟨_,h 9 rfl⟩,
  fun σ W g h hp=>⟨rfl,_,rfl⟩,
  fun σ W g h hp=>⟨_,h 22 rfl⟩,
  fun σ W g h hp=>⟨_,h 26 rfl⟩,
  fun σ W g h hp=>⟨rfl,_,rfl⟩,
  fun σ W g h hp=>⟨_,h 39 rfl⟩,
  fun σ W g h hp=>⟨_,h 43 rfl⟩,
  fun σ W g h hp=>⟨rfl,_,rfl⟩,
  fun σ W g h hp=>⟨_,h 56 rfl⟩,
  fun σ W g h hp=>⟨_,h 60 rfl⟩,
  fun σ W g h hp=>⟨rfl,_,rfl⟩,
  fun σ W g h hp=>⟨_,h 73 rfl⟩,
  fun σ W g h hp=>⟨rfl,_,rfl⟩,
  fun σ W g h hp=>⟨rfl,_,rfl⟩,
  fun σ W g h hp=>⟨rfl,_,rfl⟩,
  fun σ W g h hp=>⟨rfl,_,rfl⟩,
  fun σ W g h hp=>⟨rfl,_,rfl⟩,
  trivial⟩
  ⟨fun τ W g h hp hb=>⟨fun z=>absurd z (nK (k:=0) (by have:=of_decide_eq_true (bt (h 5 rfl) (hp 5 0 true rfl));omega) (by have:=of_decide_eq_true (bt (h 9 rfl) (hp 9 0 true rfl));omega)),fun _=>⟨_,_,rfl,SurdV.zero W,⟨_,_,_,_,bR (rd0 (h 3 rfl)) (rd1 (h 3 rfl)) ((rd2 (h 3 rfl)).mono (by omega)) ((rd3 (h 3 rfl)).mono (by omega)) ((rd4 (h 3 rfl)).mono (by omega)) ((rd5 (h 3 rfl)).mono (by omega))⟩,g⟩⟩,
  fun τ W g h hp hb=>⟨fun z=>absurd z (nK (k:=1) (by have:=of_decide_eq_true (bt (h 22 rfl) (hp 22 0 true rfl));omega) (by have:=of_decide_eq_true (bt (h 26 rfl) (hp 26 0 true rfl));omega)),fun _=>⟨_,_,rfl,SurdV.zero W,⟨_,_,_,_,bR (rd0 (h 3 rfl)) (rd1 (h 3 rfl)) (O4 (h 15 rfl)) ((rd3 (h 3 rfl)).mono (by omega)) ((rd4 (h 3 rfl)).mono (by omega)) ((rd5 (h 3 rfl)).mono (by omega))⟩,g⟩⟩,
  fun τ W g h hp hb=>⟨fun z=>absurd z (nK (k:=2) (by have:=of_decide_eq_true (bt (h 39 rfl) (hp 39 0 true rfl));omega) (by have:=of_decide_eq_true (bt (h 43 rfl) (hp 43 0 true rfl));omega)),fun _=>⟨_,_,rfl,SurdV.zero W,⟨_,_,_,_,bR (rd0 (h 3 rfl)) (rd1 (h 3 rfl)) (O4 (h 15 rfl)) (O4 (h 32 rfl)) ((rd4 (h 3 rfl)).mono (by omega)) ((rd5 (h 3 rfl)).mono (by omega))⟩,g⟩⟩,
  fun τ W g h hp hb=>⟨fun z=>absurd z (nK (k:=3) (by have:=of_decide_eq_true (bt (h 56 rfl) (hp 56 0 true rfl));omega) (by have:=of_decide_eq_true (bt (h 60 rfl) (hp 60 0 true rfl));omega)),fun _=>⟨_,_,rfl,SurdV.zero W,⟨_,_,_,_,bR (rd0 (h 3 rfl)) (rd1 (h 3 rfl)) (O4 (h 15 rfl)) (O4 (h 32 rfl)) (O4 (h 49 rfl)) ((rd5 (h 3 rfl)).mono (by omega))⟩,g⟩⟩,
  fun τ W g h hp hb=>⟨fun z=>absurd z (fun z=>absurd z.2.2.1 (by have:=of_decide_eq_true (bt (h 73 rfl) (hp 73 0 true rfl));omega)),fun _=>⟨_,_,rfl,SurdV.zero W,⟨_,_,_,_,bR (rd0 (h 3 rfl)) (rd1 (h 3 rfl)) (O4 (h 15 rfl)) (O4 (h 32 rfl)) (O4 (h 49 rfl)) (O4 (h 66 rfl))⟩,g⟩⟩,
  fun τ W g h hp hb=>by
   have y0:mGood (tx l 0):=⟨by have:=of_decide_eq_false (bt (h 9 rfl) (hp 9 0 false rfl));omega,of_decide_eq_true (bt (h 16 rfl) (hp 16 0 true rfl))⟩
   have y1:mGood (tx l 1):=⟨by have:=of_decide_eq_false (bt (h 26 rfl) (hp 26 0 false rfl));omega,of_decide_eq_true (bt (h 33 rfl) (hp 33 0 true rfl))⟩
   have y2:mGood (tx l 2):=⟨by have:=of_decide_eq_false (bt (h 43 rfl) (hp 43 0 false rfl));omega,of_decide_eq_true (bt (h 50 rfl) (hp 50 0 true rfl))⟩
   have y3:mGood (tx l 3):=⟨by have:=of_decide_eq_false (bt (h 60 rfl) (hp 60 0 false rfl));omega,of_decide_eq_true (bt (h 67 rfl) (hp 67 0 true rfl))⟩
   have p:=of_decide_eq_true (bt (h 77 rfl) (hp 77 0 true rfl))
   have hl:¬ 4<l.length:=by have:=of_decide_eq_false (bt (h 73 rfl) (hp 73 0 false rfl));omega
   have hg : 3<l.length:=by have:=of_decide_eq_true (bt (h 56 rfl) (hp 56 0 true rfl));omega
   refine ⟨fun _=>?_,fun z=>absurd (pK p.1 p.2 (by omega) fun k hk=>?_) z⟩
   · rw [<- gX (show 0<l.length by omega), <- gX (show 1<l.length by omega), <- gX (show 2<l.length by omega), <- gX (show 3<l.length by omega)]
     exact ⟨_,_,rfl,(rS (h 76 rfl) p).1,bR (rd0 (h 3 rfl)) (rd1 (h 3 rfl)) (O4 (h 15 rfl)) (O4 (h 32 rfl)) (O4 (h 49 rfl)) (O4 (h 66 rfl)),g⟩
   · rcases (show k=0\/k=1\/k=2\/k=3 by omega) with rfl | rfl | rfl | rfl<;>assumption,
  fun τ W g h hp hb=>⟨fun z=>absurd ⟨z.1,z.2.1⟩ (of_decide_eq_false (bt (h 77 rfl) (hp 77 0 false rfl))),fun _=>⟨_,_,rfl,(rR (h 76 rfl) (of_decide_eq_false (bt (h 77 rfl) (hp 77 0 false rfl)))).1,⟨_,_,_,_,bR (rd0 (h 3 rfl)) (rd1 (h 3 rfl)) (O4 (h 15 rfl)) (O4 (h 32 rfl)) (O4 (h 49 rfl)) (O4 (h 66 rfl))⟩,g⟩⟩,
  fun τ W g h hp hb=>⟨fun z=>absurd z (vD (k:=3) (by have:=of_decide_eq_true (bt (h 56 rfl) (hp 56 0 true rfl));omega) (of_decide_eq_false (bt (h 67 rfl) (hp 67 0 false rfl)))),fun _=>⟨_,_,rfl,SurdV.zero W,⟨_,_,_,_,bR (rd0 (h 3 rfl)) (rd1 (h 3 rfl)) (O4 (h 15 rfl)) (O4 (h 32 rfl)) (O4 (h 49 rfl)) ((rd5 (h 3 rfl)).mono (by omega))⟩,g⟩⟩,
  fun τ W g h hp hb=>by
   have y0:mGood (tx l 0):=⟨by have:=of_decide_eq_false (bt (h 9 rfl) (hp 9 0 false rfl));omega,of_decide_eq_true (bt (h 16 rfl) (hp 16 0 true rfl))⟩
   have y1:mGood (tx l 1):=⟨by have:=of_decide_eq_false (bt (h 26 rfl) (hp 26 0 false rfl));omega,of_decide_eq_true (bt (h 33 rfl) (hp 33 0 true rfl))⟩
   have y2:mGood (tx l 2):=⟨by have:=of_decide_eq_false (bt (h 43 rfl) (hp 43 0 false rfl));omega,of_decide_eq_true (bt (h 50 rfl) (hp 50 0 true rfl))⟩
   have p:=of_decide_eq_true (bt (h 85 rfl) (hp 85 0 true rfl))
   have hl:¬ 3<l.length:=by have:=of_decide_eq_false (bt (h 56 rfl) (hp 56 0 false rfl));omega
   have hg : 2<l.length:=by have:=of_decide_eq_true (bt (h 39 rfl) (hp 39 0 true rfl));omega
   refine ⟨fun _=>?_,fun z=>absurd (pK p.1 p.2 (by omega) fun k hk=>?_) z⟩
   · rw [<- gX (show 0<l.length by omega), <- gX (show 1<l.length by omega), <- gX (show 2<l.length by omega),bF hl (show 3<=3 by omega)]
     exact ⟨_,_,rfl,(rS (h 84 rfl) p).1,bR (rd0 (h 3 rfl)) (rd1 (h 3 rfl)) (O4 (h 15 rfl)) (O4 (h 32 rfl)) (O4 (h 49 rfl)) ((rd5 (h 3 rfl)).mono (by omega)),g⟩
   · rcases (show k=0\/k=1\/k=2 by omega) with rfl | rfl | rfl<;>assumption,
  fun τ W g h hp hb=>⟨fun z=>absurd ⟨z.1,z.2.1⟩ (of_decide_eq_false (bt (h 85 rfl) (hp 85 0 false rfl))),fun _=>⟨_,_,rfl,(rR (h 84 rfl) (of_decide_eq_false (bt (h 85 rfl) (hp 85 0 false rfl)))).1,⟨_,_,_,_,bR (rd0 (h 3 rfl)) (rd1 (h 3 rfl)) (O4 (h 15 rfl)) (O4 (h 32 rfl)) (O4 (h 49 rfl)) ((rd5 (h 3 rfl)).mono (by omega))⟩,g⟩⟩,
  fun τ W g h hp hb=>⟨fun z=>absurd z (vD (k:=2) (by have:=of_decide_eq_true (bt (h 39 rfl) (hp 39 0 true rfl));omega) (of_decide_eq_false (bt (h 50 rfl) (hp 50 0 false rfl)))),fun _=>⟨_,_,rfl,SurdV.zero W,⟨_,_,_,_,bR (rd0 (h 3 rfl)) (rd1 (h 3 rfl)) (O4 (h 15 rfl)) (O4 (h 32 rfl)) ((rd4 (h 3 rfl)).mono (by omega)) ((rd5 (h 3 rfl)).mono (by omega))⟩,g⟩⟩,
  fun τ W g h hp hb=>by
   have y0:mGood (tx l 0):=⟨by have:=of_decide_eq_false (bt (h 9 rfl) (hp 9 0 false rfl));omega,of_decide_eq_true (bt (h 16 rfl) (hp 16 0 true rfl))⟩
   have y1:mGood (tx l 1):=⟨by have:=of_decide_eq_false (bt (h 26 rfl) (hp 26 0 false rfl));omega,of_decide_eq_true (bt (h 33 rfl) (hp 33 0 true rfl))⟩
   have p:=of_decide_eq_true (bt (h 93 rfl) (hp 93 0 true rfl))
   have hl:¬ 2<l.length:=by have:=of_decide_eq_false (bt (h 39 rfl) (hp 39 0 false rfl));omega
   have hg : 1<l.length:=by have:=of_decide_eq_true (bt (h 22 rfl) (hp 22 0 true rfl));omega
   refine ⟨fun _=>?_,fun z=>absurd (pK p.1 p.2 (by omega) fun k hk=>?_) z⟩
   · rw [<- gX (show 0<l.length by omega), <- gX (show 1<l.length by omega),bF hl (show 2<=2 by omega),bF hl (show 2<=3 by omega)]
     exact ⟨_,_,rfl,(rS (h 92 rfl) p).1,bR (rd0 (h 3 rfl)) (rd1 (h 3 rfl)) (O4 (h 15 rfl)) (O4 (h 32 rfl)) ((rd4 (h 3 rfl)).mono (by omega)) ((rd5 (h 3 rfl)).mono (by omega)),g⟩
   · rcases (show k=0\/k=1 by omega) with rfl | rfl<;>assumption,
  fun τ W g h hp hb=>⟨fun z=>absurd ⟨z.1,z.2.1⟩ (of_decide_eq_false (bt (h 93 rfl) (hp 93 0 false rfl))),fun _=>⟨_,_,rfl,(rR (h 92 rfl) (of_decide_eq_false (bt (h 93 rfl) (hp 93 0 false rfl)))).1,⟨_,_,_,_,bR (rd0 (h 3 rfl)) (rd1 (h 3 rfl)) (O4 (h 15 rfl)) (O4 (h 32 rfl)) ((rd4 (h 3 rfl)).mono (by omega)) ((rd5 (h 3 rfl)).mono (by omega))⟩,g⟩⟩,
  fun τ W g h hp hb=>⟨fun z=>absurd z (vD (k:=1) (by have:=of_decide_eq_true (bt (h 22 rfl) (hp 22 0 true rfl));omega) (of_decide_eq_false (bt (h 33 rfl) (hp 33 0 false rfl)))),fun _=>⟨_,_,rfl,SurdV.zero W,⟨_,_,_,_,bR (rd0 (h 3 rfl)) (rd1 (h 3 rfl)) (O4 (h 15 rfl)) ((rd3 (h 3 rfl)).mono (by omega)) ((rd4 (h 3 rfl)).mono (by omega)) ((rd5 (h 3 rfl)).mono (by omega))⟩,g⟩⟩,
  fun τ W g h hp hb=>by
   have y0:mGood (tx l 0):=⟨by have:=of_decide_eq_false (bt (h 9 rfl) (hp 9 0 false rfl));omega,of_decide_eq_true (bt (h 16 rfl) (hp 16 0 true rfl))⟩
   have p:=of_decide_eq_true (bt (h 101 rfl) (hp 101 0 true rfl))
   have hl:¬ 1<l.length:=by have:=of_decide_eq_false (bt (h 22 rfl) (hp 22 0 false rfl));omega
   have hg : 0<l.length:=by have:=of_decide_eq_true (bt (h 5 rfl) (hp 5 0 true rfl));omega
   refine ⟨fun _=>?_,fun z=>absurd (pK p.1 p.2 (by omega) fun k hk=>?_) z⟩
   · rw [<- gX (show 0<l.length by omega),bF hl (show 1<=1 by omega),bF hl (show 1<=2 by omega),bF hl (show 1<=3 by omega)]
     exact ⟨_,_,rfl,(rS (h 100 rfl) p).1,bR (rd0 (h 3 rfl)) (rd1 (h 3 rfl)) (O4 (h 15 rfl)) ((rd3 (h 3 rfl)).mono (by omega)) ((rd4 (h 3 rfl)).mono (by omega)) ((rd5 (h 3 rfl)).mono (by omega)),g⟩
   · rcases (show k=0 by omega) with rfl<;>assumption,
  fun τ W g h hp hb=>⟨fun z=>absurd ⟨z.1,z.2.1⟩ (of_decide_eq_false (bt (h 101 rfl) (hp 101 0 false rfl))),fun _=>⟨_,_,rfl,(rR (h 100 rfl) (of_decide_eq_false (bt (h 101 rfl) (hp 101 0 false rfl)))).1,⟨_,_,_,_,bR (rd0 (h 3 rfl)) (rd1 (h 3 rfl)) (O4 (h 15 rfl)) ((rd3 (h 3 rfl)).mono (by omega)) ((rd4 (h 3 rfl)).mono (by omega)) ((rd5 (h 3 rfl)).mono (by omega))⟩,g⟩⟩,
  fun τ W g h hp hb=>⟨fun z=>absurd z (vD (k:=0) (by have:=of_decide_eq_true (bt (h 5 rfl) (hp 5 0 true rfl));omega) (of_decide_eq_false (bt (h 16 rfl) (hp 16 0 false rfl)))),fun _=>⟨_,_,rfl,SurdV.zero W,⟨_,_,_,_,bR (rd0 (h 3 rfl)) (rd1 (h 3 rfl)) ((rd2 (h 3 rfl)).mono (by omega)) ((rd3 (h 3 rfl)).mono (by omega)) ((rd4 (h 3 rfl)).mono (by omega)) ((rd5 (h 3 rfl)).mono (by omega))⟩,g⟩⟩,
  fun τ W g h hp hb=>by
   have p:=of_decide_eq_true (bt (h 109 rfl) (hp 109 0 true rfl))
   have hl:¬ 0<l.length:=by have:=of_decide_eq_false (bt (h 5 rfl) (hp 5 0 false rfl));omega
   refine ⟨fun _=>?_,fun z=>absurd (pK p.1 p.2 (by omega) fun k hk=>?_) z⟩
   · rw [bF hl (show 0<=0 by omega),bF hl (show 0<=1 by omega),bF hl (show 0<=2 by omega),bF hl (show 0<=3 by omega)]
     exact ⟨_,_,rfl,(rS (h 108 rfl) p).1,bR (rd0 (h 3 rfl)) (rd1 (h 3 rfl)) ((rd2 (h 3 rfl)).mono (by omega)) ((rd3 (h 3 rfl)).mono (by omega)) ((rd4 (h 3 rfl)).mono (by omega)) ((rd5 (h 3 rfl)).mono (by omega)),g⟩
   · exact absurd hk (by omega),
  fun τ W g h hp hb=>⟨fun z=>absurd ⟨z.1,z.2.1⟩ (of_decide_eq_false (bt (h 109 rfl) (hp 109 0 false rfl))),fun _=>⟨_,_,rfl,(rR (h 108 rfl) (of_decide_eq_false (bt (h 109 rfl) (hp 109 0 false rfl)))).1,⟨_,_,_,_,bR (rd0 (h 3 rfl)) (rd1 (h 3 rfl)) ((rd2 (h 3 rfl)).mono (by omega)) ((rd3 (h 3 rfl)).mono (by omega)) ((rd4 (h 3 rfl)).mono (by omega)) ((rd5 (h 3 rfl)).mono (by omega))⟩,g⟩⟩,
  trivial⟩
theorem LMade_any (w:World) (va:Value) (M N:Int) (l:List ByteArray) (Ha:NmV w.heap.size w va M N l) (hM : -9223372036854775808<=M/\M<=9223372036854775807) (hN : -9223372036854775808<=N/\N<=9223372036854775807) (hTab:Tab w) (h:mOK M N l) :
 Calls Tryz.prog 19 #[va] w (nV w M N (pv l 0) (pv l 1) (pv l 2) (pv l 3)):=
 (LMade_all w va M N l Ha hM hN hTab).mono fun _ _ z=>z.1 h
end Go.Proofs.YtdgdmicbbfoghaaGreatDoor
