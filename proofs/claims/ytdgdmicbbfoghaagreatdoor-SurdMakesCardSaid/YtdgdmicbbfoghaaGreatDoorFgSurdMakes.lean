/- SurdMakes: whatever a field and parts, a number has the field and the parts of which it was made, or is refused: the law returns true and leaves its arguments. No condition. -/
import Derived.Below
import Derived.BigCall
import Derived.BigQuiet
import Derived.BigRegion
import Derived.ChangeOld
import Derived.Deep.AppendLies
import Derived.Deep.CutBlock
import Derived.Deep.CutRange
import Derived.Deep.DeepCutAuto
import Derived.Deep.DeepHandedRow
import Derived.Deep.LoopGhost
import Derived.Deep.MidRow
import Derived.Deep.QuietTactic
import Derived.Deep.RegionHeld3
import Derived.Deep.RegionLaw
import Derived.Deep.Slices
import Derived.Deep.Strs
import Derived.Deep.WholeRow
import Derived.Laws.AppendOwn
import Derived.Laws.Concat
import Derived.Laws.CopyOwn
import Derived.Laws.CopyRow
import Derived.Laws.Externs
import Derived.Laws.IdiomStrings
import Derived.Lib.BitFns
import Derived.Lib.Bytealg
import Derived.Lib.Hide
import Derived.Lib.LaidTab
import Derived.Lib.Slices
import Derived.Lib.Small
import Derived.Lib.Strings
import Derived.Lib.Walk
import Derived.LoopN
import Derived.Maps.AppendAt
import Derived.OpenShut
import Derived.OrdersHeld
import Derived.OrdersIn
import Derived.Outline
import Derived.OwnWalk
import Derived.ProofKit
import Derived.RangeFuncCalls
import Derived.RangeFuncNested
import Derived.RangeFuncOwn
import Derived.Shelf.Bits.Mul64
import Derived.Shelf.Spec.TrailingZeros
import Derived.StillTailTactics
import Derived.WalkKit
import Derived.WalkLawsBesides
import Derived.WalkSpells
import Derived.WideKeyArgs
import Derived.Test.YtdgdmicbbfoghaaGreatDoorCards
import Derived.Test.YtdgdmicbbfoghaaGreatDoorProg
import Derived.Test.YtdgdmicbbfoghaaGreatDoorRows
import Derived.Test.YtdgdmicbbfoghaaGreatDoorTie
import Derived.Test.YtdgdmicbbfoghaaGreatDoorMg22
set_option linter.unusedVariables false
set_option linter.unusedSimpArgs false
set_option maxRecDepth 100000
namespace Go.Proofs.YtdgdmicbbfoghaaGreatDoor
open Go.RowKit Mat Ex
theorem E6 {P:Program} {ρ : Operand->Value} {o:Oper} {t t':TypeId} {x y:Operand} {a b:Int} {W:World} {c:Bool} (ho:o.op = .binOp .lss t x y t') (hx : ρ x = .int .i64 a) (hy : ρ y = .int .i64 b) (h:decide (a<b)=c) :
 (execOp ρ o).run P W = .ok (.value (.bool c)) W:=A5 ho hx hy (by rw [<- h];rfl)
theorem eq_told {P:Program} {ρ : Operand->Value} {o:Oper} {t t':TypeId} {x y:Operand} {a c:Int} {W:World} (b:Bool) (ho:o.op = .binOp .eql t x y t') (hx : ρ x = .int .i64 a) (hy : ρ y = .int .i64 c) (h:decide (a=c)=b):(execOp ρ o).run P W = .ok (.value (.bool b)) W:=
 A5 ho hx hy (by rw [<- h,show decide (a=c)=(a == c) from (Bool.beq_eq_decide_eq a c).symm];rfl)
theorem jA {P:Program} {ρ : Operand->Value} {o:Oper} {t t':TypeId} {x y:Operand} {s u:ByteArray} {W:World} (ho:o.op = .binOp .neq t x y t') (hx : ρ x = .string s) (hy : ρ y = .string u) (h:s=u):(execOp ρ o).run P W = .ok (.value (.bool false)) W:=by
 have hg:eqGuard .neq t x y (.string s) (.string u)=pure ():=by unfold eqGuard;rfl
 have hb:binOp .neq t (.string s) (.string u)=pure (.bool false):=by
  subst h
  have:binOp .neq t (.string s) (.string s)=Op.stringOp .neq s s:=by simp [binOp]
  rw [this];simp [Op.stringOp]
 simp only [execOp,ho,hx,hy,hg,hb,Sem.run_bind,Sem.run_pure,Result.andThen_ok]
theorem sF (z:Int):J8 z z=0:=by unfold J8;simp
def sBq (b:Bool):Sp:=sC (.bool b) rfl
theorem vB {p q:Bool} (h:(.bool p:Value) = .bool q) (h':(.bool p:Value) = .bool true\/True):p=q:=by cases h;rfl
def IrV (base:Nat) (w:World) (v:Value) (l:List Int):Prop:=∃ s n c,v = .slice s n c/\l.length=n/\n<=c/\(l=[] \/ ∃ b off,s=some ⟨b,off,none⟩/\b<base /\ ∀ i (h:i<l.length),w.cell? ⟨b,off+i,none⟩=some (.int .i64 l[i]))
theorem IrV.block {base:Nat} {w:World} {v:Value} {l:List Int} (h:IrV base w v l) {q:Nat} (hq:fpS v q):q<base/\q<w.heap.size:=by
 obtain ⟨s,n,c,rfl,hl,hn,h⟩:=h
 obtain ⟨off,m,c',e⟩:=hq
 cases e
 rcases h with h | ⟨b,off',e,hb,hd⟩
 · rw [h] at hl;simp at hl
 · cases e;exact ⟨hb,kA (hd 0 (by omega))⟩
theorem IrV.keeps {base:Nat} {W W':World} {v:Value} {l:List Int} (h:IrV base W v l) (hq:∀ q,fpS v q->W'.heap[q]?=W.heap[q]?):IrV base W' v l:=by
 obtain ⟨s,n,c,rfl,hl,hn,h⟩:=h
 refine ⟨s,n,c,rfl,hl,hn, ?_⟩
 by_cases h0:l=[]
 · exact .inl h0
 · obtain ⟨b,off,rfl,hb,hc⟩:=h.resolve_left h0
   obtain ⟨m,rfl⟩:∃ m,n=m+1:=⟨n-1,by have:=List.length_pos_iff.2 h0;omega⟩
   exact .inr ⟨b,off,rfl,hb,fun i hi=>(gF (hq b ⟨off,m,c,rfl⟩)).trans (hc i hi)⟩
def sIr (base:Nat) (l:List Int):Sp where
 sh := .one
 F v W:=IrV base W v l
 fits v W h:=by obtain ⟨s,n,c,rfl,_⟩:=h;exact ⟨fun _ => .slice s n c,fun _=>rfl,rfl⟩
 row:=true
 fp v _ q:=fpS v q
 lasts v W W' k hq h:=⟨h.keeps hq,fun _ h=>h⟩
 inb v W h q hq:=(h.block hq).2
 flat h:=by cases h
def IaV (base:Nat) (w:World) (v:Value) (z:Int):Prop:=∃ b off,v = .pointer (some ⟨b,off,none⟩)/\b<base/\w.cell? ⟨b,off,none⟩=some (.int .i64 z)
theorem IaV.block {base:Nat} {w:World} {v:Value} {z:Int} (h:IaV base w v z) {q:Nat} (hq:fpP v q):q<base/\q<w.heap.size:=by
 obtain ⟨b,off,rfl,hb,hd⟩:=h
 obtain ⟨o,e⟩:=hq
 cases e;exact ⟨hb,kA hd⟩
def sIa (base:Nat) (z:Int):Sp where
 sh := .one
 F v W:=IaV base W v z
 fits v W h:=by obtain ⟨b,off,rfl,_⟩:=h;exact ⟨fun _ => .pointer (some ⟨b,off,none⟩),fun _=>rfl,rfl⟩
 row:=true
 fp v _ q:=fpP v q
 lasts v W W' k hq h:=by
  obtain ⟨b,off,rfl,hb,hc⟩:=h
  exact ⟨⟨b,off,rfl,hb,(gF (hq b ⟨off,rfl⟩)).trans hc⟩,fun _ h=>h⟩
 inb v W h q hq:=(h.block hq).2
 flat h:=by cases h
def ig (l:List Int) (k:Nat):Int:=l.getD k 0
theorem ig_at {l:List Int} {k:Nat} (h:k<l.length):l[k]=ig l k:=by simp [ig,h]
theorem P0 {l:List Int} {k:Nat} (h:k<l.length):ig l k ∈ l:=by rw [<- ig_at h];exact List.getElem_mem h
def lq (l:List Int):List Rat:=l.map fun z:Int=>(z:Rat)
theorem nL {l:List Int} {k:Nat} (h:k<l.length):lq (l.take (k+1))=lq (l.take k)++[((ig l k:Int):Rat)]:=by
 unfold lq;rw [<- ig_at h,show l.take (k+1)=l.take k++[l[k]] by simp,List.map_append];rfl
theorem vG (l:List Int) (i:Nat):(lq l).getD i 0=((ig l i:Int):Rat):=by
 unfold lq ig
 rcases Nat.lt_or_ge i l.length with h | h
 · simp [h]
 · simp [List.getD,List.getElem?_eq_none h]
theorem I9 (l:List Int):(lq l).length=l.length:=by simp [lq]
section
variable {ρ : Operand->Value} {o:Oper} {W:World}
theorem eD {t:TypeId} {x:Operand} {v:Value} {l:List Int} {base:Nat} (h:IrV base W v l) (ho:o.op = .call ⟨.builtin .len, #[x], #[t]⟩) (hx : ρ x=v) (hu:∃ el,Tryz.prog.underlying t=some (.slice el)) :
 (execOp ρ o).run Tryz.prog W = .ok (.value (.int .i64 l.length)) W:=by
 obtain ⟨s,n,c,rfl,hl,hn,h⟩:=h
 obtain ⟨el,hu⟩:=hu
 simp [execOp,ho,resolve,invoke,builtin,Builtin.len_,run_underlying hu W,hx,goInt,hl]
theorem mI {x y:Operand} {v:Value} {l:List Int} {base:Nat} (h:IrV base W v l) (ho:o.op = .indexAddr 22 x y) (hx : ρ x=v) (k:Nat) (hk:k<l.length) (hy : ρ y = .int .i64 k) :
 ∃ u,(execOp ρ o).run Tryz.prog W = .ok (.value u) W/\IaV base W u (ig l k) /\ ∀ q,fpP u q->fpS v q:=by
 obtain ⟨s,n,c,rfl,hl,hn,h⟩:=h
 obtain ⟨b,off,rfl,hb,hc⟩:=h.resolve_left (fun e=>by rw [e] at hk;simp at hk)
 have hu:Tryz.prog.underlying 22=some (.slice 3):=by kernel_rfl
 have hz:S3 Tryz.prog 3=some 1:=by kernel_rfl
 obtain ⟨m,rfl⟩:∃ m,n=m+1:=⟨n-1,by omega⟩
 have hk':(0:Int)<=(k:Int)/\(k:Int)<((m+1:Nat):Int):=by omega
 refine ⟨.pointer (some ⟨b,off+k,none⟩), ?_,⟨b,off+k,rfl,hb,by rw [<- ig_at hk];exact hc k hk⟩,fun q ⟨o',e⟩=>by cases e;exact ⟨off,m,c,rfl⟩⟩
 simp only [execOp,ho,hx,hy,Instr.indexAt,asIntOf,Sem.run_bind,Sem.run_pure,run_underlying hu W,Result.andThen_ok,hk',and_self,if_true,H7 Tryz.prog hz W,Instr.sureAddr,Addr.add_mid]
 rw [show (k:Int).toNat*1=k by omega]
theorem aW {x:Operand} {v:Value} {z:Int} {base:Nat} (h:IaV base W v z) (ho:o.op = .load 3 x) (hx : ρ x=v) :
 (execOp ρ o).run Tryz.prog W = .ok (.value (.int .i64 z)) W:=by
 obtain ⟨b,off,rfl,hb,h1⟩:=h
 have ha:aggT Tryz.prog 3=some false:=by kernel_rfl
 simp [execOp,ho,hx,Instr.loadAt,Instr.sureAddr,loadVar,Sem.run_bind,Sem.run_pure,aK Tryz.prog ha W,run_load,h1]
end
theorem nC:F5 { data := #[48] } 0:=⟨[48],cW (by decide +kernel),by decide +kernel,by decide +kernel⟩
theorem aQ {s t:ByteArray} {z:Int} (h:U5 s (z:Rat)) (h':F5 t z):s=t:=oW h (.inl ⟨rfl,h'⟩)
theorem vb {p q:Bool} {v:Value} (h:v = .bool p) (h':v = .bool q):p=q:=by rw [h] at h';cases h';rfl
theorem J7 {z:Int} (h : -9223372036854775808<=z/\z<=9223372036854775807):z.natAbs<B^1:=by unfold B;omega
theorem jS {l:List Int} {i:Nat} (h:¬ i<l.length):ig l i=0:=by simp [ig,List.getD,List.getElem?_eq_none (Nat.le_of_not_lt h)]
theorem lq_b {l:List Int} (h:∀ z ∈ l, -9223372036854775808<=z/\z<=9223372036854775807):∀ r ∈ lq l,Bd1 1 r:=by
 intro r hr
 obtain ⟨z,hz,rfl⟩:=List.mem_map.1 hr
 exact C5 (by omega) (J7 (h z hz))
theorem mW {l:List Int} (h:∀ z ∈ l, -9223372036854775808<=z/\z<=9223372036854775807) (i:Nat):Bd1 1 ((ig l i:Int):Rat):=by
 rcases Nat.lt_or_ge i l.length with hi | hi
 · exact C5 (by omega) (J7 (h _ (P0 hi)))
 · rw [jS (by omega)];exact B9 (by omega)
theorem pP {P:Program} {ρ : Operand->Value} {o:Oper} {t t':TypeId} {x y:Operand} {a b:Int} {W:World} {c:Bool} (ho:o.op = .binOp .gtr t x y t') (hx : ρ x = .int .i64 a) (hy : ρ y = .int .i64 b) (h:decide (b<a)=c) :
 (execOp ρ o).run P W = .ok (.value (.bool c)) W:=A5 ho hx hy (by rw [<- h];rfl)
theorem SMakes_no0 (w:World) (m0 n0:Int) (va:Value) (l:List Int) (hm:(-9223372036854775808<=m0/\m0<=9223372036854775807)) (hn:(-9223372036854775808<=n0/\n0<=9223372036854775807)) (Ha:IrV w.heap.size w va l) (hL:∀ z ∈ l, -9223372036854775808<=z/\z<=9223372036854775807) (hTab:Tab w) (hbad:m0<0) :
 Calls Tryz.prog 3 #[.int .i64 m0,.int .i64 n0,va] w (fun e w'=>e = .returned (.bool true)/\w.grownBy w' none):=by
 refine W6 B5 Tryz.func3 [sZ m0,sZ n0,sIr w.heap.size l] (fun k:Nat=>[sZc (k<=9/\k<=l.length) (k:Int),sOw kRat w.heap.size (lq (l.take k)),sBq (decide (k<l.length)),sZ l.length,sV (.bool true),sBq (decide (k<9)),sZ l.length,sV (.bool false),sIa w.heap.size (ig l k),sZ (ig l k),sI (ig l k),sQ ((ig l k:Int):Rat),sOw kRat w.heap.size (lq (l.take (k+1))),sZ ((k:Int)+1),sI m0,sI n0,oU 0 0 0 0 0 0 1,sV (.bool true),sV (.bool true),sV (.int .i64 0),sI m0,sI n0,oU 0 0 0 0 0 0 1,sV (.bool true),sV (.bool true),sV (.int .i64 0)]) (fun m k=>if m=3 then 9-k else 0) (0) (fun _=>rfl) [1000000,3] [some [[.t 16,.t 17,.t 18,.t 19,.t 20,.t 21,.t 22,.t 23,.t 24,.t 25,.t 26,.t 27,.t 28,.t 29,.t 30,.t 31,.t 32,.t 33,.t 34],[.t 8],[.t 7]]] (.cons rfl (.cons rfl (.cons Ha .nil))) (rs:=[(co 6 (.call ⟨.builtin .len, #[(.tmp 17)], #[22]⟩) 3 [on 2] [0,1,2,3,4,5] [],[(5,0,true)]),(co 7 (.binOp .lss 3 (.tmp 16) (.tmp 18) 3) 4 [on 3,on 6] [0,1,2,3,4,5,6] [],[(5,0,true)]),(co 8 (.binOp .lss 3 (.tmp 21) (.const (.int .i64 9)) 3) 4 [on 3,.v false [.lit (.int .i64 9)]] [0,1,2,3,4,5,6,7] [],[(5,0,true)]),(co 9 (.call ⟨.builtin .len, #[(.tmp 17)], #[22]⟩) 3 [on 2] [0,1,2,3,4,5] [],[(5,0,false)]),(co 10 (.binOp .lss 3 (.tmp 16) (.tmp 18) 3) 4 [on 3,on 9] [0,1,2,3,4,5,9] [],[(5,0,false)]),(co 11 (.indexAddr 22 (.tmp 27) (.tmp 28)) 0 [on 2,on 3] [0,1,2,3,4,5,6,7,8] [],[(8,0,true),(5,0,true)]),(co 12 (.load 3 (.tmp 29)) 3 [on 11] [0,1,2,3,4,5,6,7,8,11] [],[(8,0,true),(5,0,true)]),(cla 13 10 [on 12] [0,1,2,3,4,5,6,7,8,11,12],[(8,0,true),(5,0,true)]),(cla 14 9 [ag 2 13] [0,1,2,3,4,5,6,7,8,11,12,13],[(8,0,true),(5,0,true)]),(cow 15 (.call ⟨.builtin .append, #[(.tmp 26),(.tmp 33)], #[23,23]⟩) 23 [on 4,.v false [.row 0 0 1 1]] [0,1,2,3,4,5,6,7,8,11,12,13,14] [(0,30,[.an 14 0,.an 14 1,.an 14 2,.an 14 3])],[(8,0,true),(5,0,true)]),(co 16 (.binOp .add 3 (.tmp 24) (.const (.int .i64 1)) 3) 3 [on 3,.v false [.lit (.int .i64 1)]] [0,1,2,3,4,5,6,7,8,11,12,13,14,15] [],[(8,0,true),(5,0,true)]),(cla 17 10 [on 0] [0,1,2,3,4,5,6,7,8],[(8,0,false),(5,0,true)]),(cla 18 10 [on 1] [0,1,2,3,4,5,6,7,8,17],[(8,0,false),(5,0,true)]),(cla 19 11 [ag 2 17,ag 2 18,on 4] [0,1,2,3,4,5,6,7,8,17,18],[(8,0,false),(5,0,true)]),(cla 20 12 [] [0,1,2,3,4,5,6,7,8,17,18,19],[(8,0,false),(5,0,true)]),(co 21 (.binOp .lss 3 (.tmp 46) (.const (.int .i64 0)) 3) 4 [on 0,.v false [.lit (.int .i64 0)]] [0,1,2,3,4,5,6,7,8,17,18,19,20] [],[(8,0,false),(5,0,true)]),(cla 22 13 [ag 20 19] [0,1,2,3,4,5,6,7,8,17,18,19,20,21],[(8,0,false),(5,0,true)]),(cla 23 10 [on 0] [0,1,2,3,4,5,9,10],[(5,0,false)]),(cla 24 10 [on 1] [0,1,2,3,4,5,9,10,23],[(5,0,false)]),(cla 25 11 [ag 2 23,ag 2 24,on 4] [0,1,2,3,4,5,9,10,23,24],[(5,0,false)]),(cla 26 12 [] [0,1,2,3,4,5,9,10,23,24,25],[(5,0,false)]),(co 27 (.binOp .lss 3 (.tmp 46) (.const (.int .i64 0)) 3) 4 [on 0,.v false [.lit (.int .i64 0)]] [0,1,2,3,4,5,9,10,23,24,25,26] [],[(5,0,false)]),(cla 28 13 [ag 20 25] [0,1,2,3,4,5,9,10,23,24,25,26,27],[(5,0,false)])]) (js:=[.loop false 3 [(3,.v false [.lit (.int .i64 0)]),(4,.v false [.lit (.slice none 0 0)])] (List.range 3) [],.ghost 5 (List.range 5) [],.test 8 0 (List.range 9) [(5,0,true)],.loop true 3 [(3,on 16),(4,on 15)] [0,1,2,3,4,5,6,7,8,11,12,13,14,15,16] [(8,0,true),(5,0,true)]]) (outs:=[⟨.v false [.lit (.bool true)],[0,1,2,3,4,5,6,7,8,17,18,19,20,21,22],[(8,0,false),(5,0,true)],[],[]⟩,⟨.v false [.lit (.bool true)],[0,1,2,3,4,5,9,10,23,24,25,26,27,28],[(5,0,false)],[],[]⟩]) (nc:=29) (by kernel_rfl)
  (fun k=>⟨fun σ W g h hp hb=>fun ρ o ho _ hv=>⟨_,eD (h 2 rfl) ho (C6 hv) ⟨3,by kernel_rfl⟩,rfl⟩,
  fun σ W g h hp hb=>fun ρ o ho _ hv=>by
   have hi:k<l.length:=of_decide_eq_true (vb (h 5 rfl) (hp 5 0 true rfl))
   exact ⟨_,E6 ho ((A0 hv).1.trans (h 3 rfl).1) ((A0 hv).2.trans (h 6 rfl)) (decide_eq_true (by omega)),rfl⟩,
  fun σ W g h hp hb=>fun ρ o ho _ hv=>⟨_,E6 ho ((A0 hv).1.trans (h 3 rfl).1) (A0 hv).2 (decide_eq_decide.2 (by omega)),rfl⟩,
  fun σ W g h hp hb=>fun ρ o ho _ hv=>⟨_,eD (h 2 rfl) ho (C6 hv) ⟨3,by kernel_rfl⟩,rfl⟩,
  fun σ W g h hp hb=>fun ρ o ho _ hv=>by
   have q:=of_decide_eq_false (vb (h 5 rfl) (hp 5 0 false rfl))
   exact ⟨_,E6 ho ((A0 hv).1.trans (h 3 rfl).1) ((A0 hv).2.trans (h 9 rfl)) (decide_eq_false (by omega)),rfl⟩,
  fun σ W g h hp hb=>fun ρ o ho _ hv=>by
   have hi:k<l.length:=of_decide_eq_true (vb (h 5 rfl) (hp 5 0 true rfl))
   have h9:k<9:=of_decide_eq_true (vb (h 8 rfl) (hp 8 0 true rfl))
   obtain ⟨u,h1,h2,h3⟩:=mI (h 2 rfl) ho (A0 hv).1 k hi ((A0 hv).2.trans (h 3 rfl).1)
   exact ⟨u,h1,h2,fun q hq=>⟨2,rfl,h3 q hq⟩⟩,
  fun σ W g h hp hb=>fun ρ o ho _ hv=>⟨_,aW (h 11 rfl) ho (C6 hv),rfl⟩,
  fun σ W g h hp hb=>by
   have hi:k<l.length:=of_decide_eq_true (vb (h 5 rfl) (hp 5 0 true rfl))
   have h9:k<9:=of_decide_eq_true (vb (h 8 rfl) (hp 8 0 true rfl))
   have hb9:=hL _ (P0 hi)
   exact Q9 (congrArg (fun v=>[v]) (h 12 rfl)) (B8 W _ hb9.1 hb9.2),
  fun σ W g h hp hb=>by
   have hi:k<l.length:=of_decide_eq_true (vb (h 5 rfl) (hp 5 0 true rfl))
   have h9:k<9:=of_decide_eq_true (vb (h 8 rfl) (hp 8 0 true rfl))
   have hb9:=hL _ (P0 hi)
   exact B4 W _ _ 1 (h 13 rfl) (by omega) (J7 hb9),
  fun σ W g h hp hb=>fun ρ o ho _ hv=>by
   have hi:k<l.length:=of_decide_eq_true (vb (h 5 rfl) (hp 5 0 true rfl))
   have h9:k<9:=of_decide_eq_true (vb (h 8 rfl) (hp 8 0 true rfl))
   exact appS kRat g rfl (m0:=4) rfl rfl (by rw [<- nL hi];rfl) (h 4 rfl) (X0 kRat (by kernel_rfl) (eF _ _ (by kernel_rfl)) (by decide) (h 4 rfl) (cs:=[σ.an 14 0, σ.an 14 1, σ.an 14 2, σ.an 14 3]) rfl (hb.1 _ (.head _)) (h 14 rfl) (W0 (h 14 rfl)) (by rw [I9];simp;omega) g.size ho (A0 hv).1 (A0 hv).2)
    (fun m hm hne hr=>by
    match m,hm,hne,hr with
    | 0,_,_,hr=>exact absurd hr Bool.false_ne_true
    | 1,_,_,hr=>exact absurd hr Bool.false_ne_true
    | 2,_,_,_=>exact .inl ⟨h 2 rfl,fun q hq=>D7 (h 4 rfl) (IrV.block (h 2 rfl) hq)⟩
    | 3,_,_,hr=>exact absurd hr Bool.false_ne_true
    | 4,_,hne,_=>exact absurd rfl hne
    | 5,_,_,hr=>exact absurd hr Bool.false_ne_true
    | 6,_,_,hr=>exact absurd hr Bool.false_ne_true
    | 7,_,_,hr=>exact absurd hr Bool.false_ne_true
    | 8,_,_,hr=>exact absurd hr Bool.false_ne_true
    | 9,hm,_,_=>exact absurd hm Bool.false_ne_true
    | 10,hm,_,_=>exact absurd hm Bool.false_ne_true
    | 11,_,_,_=>exact .inl ⟨h 11 rfl,fun q hq=>D7 (h 4 rfl) (IaV.block (h 11 rfl) hq)⟩
    | 12,_,_,hr=>exact absurd hr Bool.false_ne_true
    | 13,_,_,hr=>exact absurd hr Bool.false_ne_true
    | 14,_,_,hr=>exact absurd hr Bool.false_ne_true
    | j+15,hm,_,_=>exact absurd hm (by simp)),
  fun σ W g h hp hb=>fun ρ o ho _ hv=>by
   have hi:k<l.length:=of_decide_eq_true (vb (h 5 rfl) (hp 5 0 true rfl))
   have h9:k<9:=of_decide_eq_true (vb (h 8 rfl) (hp 8 0 true rfl))
   exact ⟨_,A5 ho ((A0 hv).1.trans (h 3 rfl).1) (A0 hv).2 (T9 (by omega) (by omega)),rfl⟩,
  fun σ W g h hp hb=>Q9 (congrArg (fun v=>[v]) (h 0 rfl)) (B8 W m0 hm.1 hm.2),
  fun σ W g h hp hb=>Q9 (congrArg (fun v=>[v]) (h 1 rfl)) (B8 W n0 hn.1 hn.2),
  fun σ W g h hp hb=>by
   have hi:k<l.length:=of_decide_eq_true (vb (h 5 rfl) (hp 5 0 true rfl))
   have h9:¬ k<9:=of_decide_eq_false (vb (h 8 rfl) (hp 8 0 false rfl))
   have hk:k<=9/\k<=l.length:=(h 3 rfl).2
   exact lT (Q3 W _ _ _ m0 n0 (lq (l.take k)) 1 (h 17 rfl) (h 18 rfl) (h 4 rfl) (by rw [I9];simp;omega) (by omega) (J7 hm) (J7 hn) (by rw [I9,List.length_take];omega)),
  fun σ W g h hp hb=>toV (M5 W (hTab.kept g (by simp))) rfl,
  fun σ W g h hp hb=>fun ρ o ho _ hv=>by
   have hi:k<l.length:=of_decide_eq_true (vb (h 5 rfl) (hp 5 0 true rfl))
   have h9:¬ k<9:=of_decide_eq_false (vb (h 8 rfl) (hp 8 0 false rfl))
   have hk:k<=9/\k<=l.length:=(h 3 rfl).2
   exact ⟨_,E6 ho ((A0 hv).1.trans (h 0 rfl)) (A0 hv).2 (decide_eq_true (by omega)),rfl⟩,
  fun σ W g h hp hb=>toV (J2 W _ 0 0 0 0 0 0 1 (sdE (h 19 rfl)) (by omega) (B9 (by omega)) (B9 (by omega)) (B9 (by omega)) (B9 (by omega)) (by unfold B;decide) (by unfold B;decide) (hTab.kept g (by simp))) (congrArg (Value.int .i64) (aB 0 0)),
  fun σ W g h hp hb=>Q9 (congrArg (fun v=>[v]) (h 0 rfl)) (B8 W m0 hm.1 hm.2),
  fun σ W g h hp hb=>Q9 (congrArg (fun v=>[v]) (h 1 rfl)) (B8 W n0 hn.1 hn.2),
  fun σ W g h hp hb=>by
   have hi:¬ k<l.length:=of_decide_eq_false (vb (h 5 rfl) (hp 5 0 false rfl))
   have hk:k<=9/\k<=l.length:=(h 3 rfl).2
   exact lT (Q3 W _ _ _ m0 n0 (lq (l.take k)) 1 (h 23 rfl) (h 24 rfl) (h 4 rfl) (by rw [I9];simp;omega) (by omega) (J7 hm) (J7 hn) (by rw [I9,List.length_take];omega)),
  fun σ W g h hp hb=>toV (M5 W (hTab.kept g (by simp))) rfl,
  fun σ W g h hp hb=>fun ρ o ho _ hv=>by
   have hi:¬ k<l.length:=of_decide_eq_false (vb (h 5 rfl) (hp 5 0 false rfl))
   have hk:k<=9/\k<=l.length:=(h 3 rfl).2
   exact ⟨_,E6 ho ((A0 hv).1.trans (h 0 rfl)) (A0 hv).2 (decide_eq_true (by omega)),rfl⟩,
  fun σ W g h hp hb=>toV (J2 W _ 0 0 0 0 0 0 1 (sdE (h 25 rfl)) (by omega) (B9 (by omega)) (B9 (by omega)) (B9 (by omega)) (B9 (by omega)) (by unfold B;decide) (by unfold B;decide) (hTab.kept g (by simp))) (congrArg (Value.int .i64) (aB 0 0)),
  trivial⟩)
  (fun k=>⟨fun σ W g h hp=>⟨0,(fun e=>nomatch e),⟨rfl,fun m hm=>(if_neg (by omega)).trans (if_neg (by omega)).symm⟩,⟨rfl,by omega,by omega⟩,⟨OwV.nil kRat _ _,fun q hq=>by cases hq⟩,trivial⟩,
  fun σ W g h hp=>⟨rfl,_,rfl⟩,
  fun σ W g h hp=>⟨_,h 8 rfl⟩,
  fun σ W g h hp=>by
   have hi:k<l.length:=of_decide_eq_true (vb (h 5 rfl) (hp 5 0 true rfl))
   have h9:k<9:=of_decide_eq_true (vb (h 8 rfl) (hp 8 0 true rfl))
   exact ⟨k+1,fun _=>by show (if 3=3 then 9-(k+1) else 0)<(if 3=3 then 9-k else 0);rw [if_pos rfl,if_pos rfl];omega,⟨rfl,fun m hm=>(if_neg (by omega)).trans (if_neg (by omega)).symm⟩,⟨(h 16 rfl).trans (by push_cast;rfl),by omega,by omega⟩,⟨h 15 rfl,fun q hq=>⟨15,rfl,hq⟩⟩,trivial⟩,
  trivial⟩)
  (fun k hk=>⟨fun τ W g h hp hb=>⟨rfl,g⟩,
  fun τ W g h hp hb=>⟨rfl,g⟩,
  trivial⟩)
theorem SMakes_no1 (w:World) (m0 n0:Int) (va:Value) (l:List Int) (hm:(-9223372036854775808<=m0/\m0<=9223372036854775807)) (hn:(-9223372036854775808<=n0/\n0<=9223372036854775807)) (Ha:IrV w.heap.size w va l) (hL:∀ z ∈ l, -9223372036854775808<=z/\z<=9223372036854775807) (hTab:Tab w) (h1:¬ m0<0) (hbad:n0<0) :
 Calls Tryz.prog 3 #[.int .i64 m0,.int .i64 n0,va] w (fun e w'=>e = .returned (.bool true)/\w.grownBy w' none):=by
 refine W6 B5 Tryz.func3 [sZ m0,sZ n0,sIr w.heap.size l] (fun k:Nat=>[sZc (k<=9/\k<=l.length) (k:Int),sOw kRat w.heap.size (lq (l.take k)),sBq (decide (k<l.length)),sZ l.length,sV (.bool true),sBq (decide (k<9)),sZ l.length,sV (.bool false),sIa w.heap.size (ig l k),sZ (ig l k),sI (ig l k),sQ ((ig l k:Int):Rat),sOw kRat w.heap.size (lq (l.take (k+1))),sZ ((k:Int)+1),sI m0,sI n0,oU 0 0 0 0 0 0 1,sV (.bool true),sV (.bool false),sV (.bool true),sV (.int .i64 0),sI m0,sI n0,oU 0 0 0 0 0 0 1,sV (.bool true),sV (.bool false),sV (.bool true),sV (.int .i64 0)]) (fun m k=>if m=3 then 9-k else 0) (0) (fun _=>rfl) [1000000,3] [some [[.t 16,.t 17,.t 18,.t 19,.t 20,.t 21,.t 22,.t 23,.t 24,.t 25,.t 26,.t 27,.t 28,.t 29,.t 30,.t 31,.t 32,.t 33,.t 34],[.t 8],[.t 7]]] (.cons rfl (.cons rfl (.cons Ha .nil))) (rs:=[(co 6 (.call ⟨.builtin .len, #[(.tmp 17)], #[22]⟩) 3 [on 2] [0,1,2,3,4,5] [],[(5,0,true)]),(co 7 (.binOp .lss 3 (.tmp 16) (.tmp 18) 3) 4 [on 3,on 6] [0,1,2,3,4,5,6] [],[(5,0,true)]),(co 8 (.binOp .lss 3 (.tmp 21) (.const (.int .i64 9)) 3) 4 [on 3,.v false [.lit (.int .i64 9)]] [0,1,2,3,4,5,6,7] [],[(5,0,true)]),(co 9 (.call ⟨.builtin .len, #[(.tmp 17)], #[22]⟩) 3 [on 2] [0,1,2,3,4,5] [],[(5,0,false)]),(co 10 (.binOp .lss 3 (.tmp 16) (.tmp 18) 3) 4 [on 3,on 9] [0,1,2,3,4,5,9] [],[(5,0,false)]),(co 11 (.indexAddr 22 (.tmp 27) (.tmp 28)) 0 [on 2,on 3] [0,1,2,3,4,5,6,7,8] [],[(8,0,true),(5,0,true)]),(co 12 (.load 3 (.tmp 29)) 3 [on 11] [0,1,2,3,4,5,6,7,8,11] [],[(8,0,true),(5,0,true)]),(cla 13 10 [on 12] [0,1,2,3,4,5,6,7,8,11,12],[(8,0,true),(5,0,true)]),(cla 14 9 [ag 2 13] [0,1,2,3,4,5,6,7,8,11,12,13],[(8,0,true),(5,0,true)]),(cow 15 (.call ⟨.builtin .append, #[(.tmp 26),(.tmp 33)], #[23,23]⟩) 23 [on 4,.v false [.row 0 0 1 1]] [0,1,2,3,4,5,6,7,8,11,12,13,14] [(0,30,[.an 14 0,.an 14 1,.an 14 2,.an 14 3])],[(8,0,true),(5,0,true)]),(co 16 (.binOp .add 3 (.tmp 24) (.const (.int .i64 1)) 3) 3 [on 3,.v false [.lit (.int .i64 1)]] [0,1,2,3,4,5,6,7,8,11,12,13,14,15] [],[(8,0,true),(5,0,true)]),(cla 17 10 [on 0] [0,1,2,3,4,5,6,7,8],[(8,0,false),(5,0,true)]),(cla 18 10 [on 1] [0,1,2,3,4,5,6,7,8,17],[(8,0,false),(5,0,true)]),(cla 19 11 [ag 2 17,ag 2 18,on 4] [0,1,2,3,4,5,6,7,8,17,18],[(8,0,false),(5,0,true)]),(cla 20 12 [] [0,1,2,3,4,5,6,7,8,17,18,19],[(8,0,false),(5,0,true)]),(co 21 (.binOp .lss 3 (.tmp 46) (.const (.int .i64 0)) 3) 4 [on 0,.v false [.lit (.int .i64 0)]] [0,1,2,3,4,5,6,7,8,17,18,19,20] [],[(8,0,false),(5,0,true)]),(co 22 (.binOp .lss 3 (.tmp 49) (.const (.int .i64 0)) 3) 4 [on 1,.v false [.lit (.int .i64 0)]] [0,1,2,3,4,5,6,7,8,17,18,19,20,21] [],[(8,0,false),(5,0,true)]),(cla 23 13 [ag 20 19] [0,1,2,3,4,5,6,7,8,17,18,19,20,21,22],[(8,0,false),(5,0,true)]),(cla 24 10 [on 0] [0,1,2,3,4,5,9,10],[(5,0,false)]),(cla 25 10 [on 1] [0,1,2,3,4,5,9,10,24],[(5,0,false)]),(cla 26 11 [ag 2 24,ag 2 25,on 4] [0,1,2,3,4,5,9,10,24,25],[(5,0,false)]),(cla 27 12 [] [0,1,2,3,4,5,9,10,24,25,26],[(5,0,false)]),(co 28 (.binOp .lss 3 (.tmp 46) (.const (.int .i64 0)) 3) 4 [on 0,.v false [.lit (.int .i64 0)]] [0,1,2,3,4,5,9,10,24,25,26,27] [],[(5,0,false)]),(co 29 (.binOp .lss 3 (.tmp 49) (.const (.int .i64 0)) 3) 4 [on 1,.v false [.lit (.int .i64 0)]] [0,1,2,3,4,5,9,10,24,25,26,27,28] [],[(5,0,false)]),(cla 30 13 [ag 20 26] [0,1,2,3,4,5,9,10,24,25,26,27,28,29],[(5,0,false)])]) (js:=[.loop false 3 [(3,.v false [.lit (.int .i64 0)]),(4,.v false [.lit (.slice none 0 0)])] (List.range 3) [],.ghost 5 (List.range 5) [],.test 8 0 (List.range 9) [(5,0,true)],.loop true 3 [(3,on 16),(4,on 15)] [0,1,2,3,4,5,6,7,8,11,12,13,14,15,16] [(8,0,true),(5,0,true)]]) (outs:=[⟨.v false [.lit (.bool true)],[0,1,2,3,4,5,6,7,8,17,18,19,20,21,22,23],[(8,0,false),(5,0,true)],[],[]⟩,⟨.v false [.lit (.bool true)],[0,1,2,3,4,5,9,10,24,25,26,27,28,29,30],[(5,0,false)],[],[]⟩]) (nc:=31) (by kernel_rfl)
  (fun k=>⟨fun σ W g h hp hb=>fun ρ o ho _ hv=>⟨_,eD (h 2 rfl) ho (C6 hv) ⟨3,by kernel_rfl⟩,rfl⟩,
  fun σ W g h hp hb=>fun ρ o ho _ hv=>by
   have hi:k<l.length:=of_decide_eq_true (vb (h 5 rfl) (hp 5 0 true rfl))
   exact ⟨_,E6 ho ((A0 hv).1.trans (h 3 rfl).1) ((A0 hv).2.trans (h 6 rfl)) (decide_eq_true (by omega)),rfl⟩,
  fun σ W g h hp hb=>fun ρ o ho _ hv=>⟨_,E6 ho ((A0 hv).1.trans (h 3 rfl).1) (A0 hv).2 (decide_eq_decide.2 (by omega)),rfl⟩,
  fun σ W g h hp hb=>fun ρ o ho _ hv=>⟨_,eD (h 2 rfl) ho (C6 hv) ⟨3,by kernel_rfl⟩,rfl⟩,
  fun σ W g h hp hb=>fun ρ o ho _ hv=>by
   have q:=of_decide_eq_false (vb (h 5 rfl) (hp 5 0 false rfl))
   exact ⟨_,E6 ho ((A0 hv).1.trans (h 3 rfl).1) ((A0 hv).2.trans (h 9 rfl)) (decide_eq_false (by omega)),rfl⟩,
  fun σ W g h hp hb=>fun ρ o ho _ hv=>by
   have hi:k<l.length:=of_decide_eq_true (vb (h 5 rfl) (hp 5 0 true rfl))
   have h9:k<9:=of_decide_eq_true (vb (h 8 rfl) (hp 8 0 true rfl))
   obtain ⟨u,h1,h2,h3⟩:=mI (h 2 rfl) ho (A0 hv).1 k hi ((A0 hv).2.trans (h 3 rfl).1)
   exact ⟨u,h1,h2,fun q hq=>⟨2,rfl,h3 q hq⟩⟩,
  fun σ W g h hp hb=>fun ρ o ho _ hv=>⟨_,aW (h 11 rfl) ho (C6 hv),rfl⟩,
  fun σ W g h hp hb=>by
   have hi:k<l.length:=of_decide_eq_true (vb (h 5 rfl) (hp 5 0 true rfl))
   have h9:k<9:=of_decide_eq_true (vb (h 8 rfl) (hp 8 0 true rfl))
   have hb9:=hL _ (P0 hi)
   exact Q9 (congrArg (fun v=>[v]) (h 12 rfl)) (B8 W _ hb9.1 hb9.2),
  fun σ W g h hp hb=>by
   have hi:k<l.length:=of_decide_eq_true (vb (h 5 rfl) (hp 5 0 true rfl))
   have h9:k<9:=of_decide_eq_true (vb (h 8 rfl) (hp 8 0 true rfl))
   have hb9:=hL _ (P0 hi)
   exact B4 W _ _ 1 (h 13 rfl) (by omega) (J7 hb9),
  fun σ W g h hp hb=>fun ρ o ho _ hv=>by
   have hi:k<l.length:=of_decide_eq_true (vb (h 5 rfl) (hp 5 0 true rfl))
   have h9:k<9:=of_decide_eq_true (vb (h 8 rfl) (hp 8 0 true rfl))
   exact appS kRat g rfl (m0:=4) rfl rfl (by rw [<- nL hi];rfl) (h 4 rfl) (X0 kRat (by kernel_rfl) (eF _ _ (by kernel_rfl)) (by decide) (h 4 rfl) (cs:=[σ.an 14 0, σ.an 14 1, σ.an 14 2, σ.an 14 3]) rfl (hb.1 _ (.head _)) (h 14 rfl) (W0 (h 14 rfl)) (by rw [I9];simp;omega) g.size ho (A0 hv).1 (A0 hv).2)
    (fun m hm hne hr=>by
    match m,hm,hne,hr with
    | 0,_,_,hr=>exact absurd hr Bool.false_ne_true
    | 1,_,_,hr=>exact absurd hr Bool.false_ne_true
    | 2,_,_,_=>exact .inl ⟨h 2 rfl,fun q hq=>D7 (h 4 rfl) (IrV.block (h 2 rfl) hq)⟩
    | 3,_,_,hr=>exact absurd hr Bool.false_ne_true
    | 4,_,hne,_=>exact absurd rfl hne
    | 5,_,_,hr=>exact absurd hr Bool.false_ne_true
    | 6,_,_,hr=>exact absurd hr Bool.false_ne_true
    | 7,_,_,hr=>exact absurd hr Bool.false_ne_true
    | 8,_,_,hr=>exact absurd hr Bool.false_ne_true
    | 9,hm,_,_=>exact absurd hm Bool.false_ne_true
    | 10,hm,_,_=>exact absurd hm Bool.false_ne_true
    | 11,_,_,_=>exact .inl ⟨h 11 rfl,fun q hq=>D7 (h 4 rfl) (IaV.block (h 11 rfl) hq)⟩
    | 12,_,_,hr=>exact absurd hr Bool.false_ne_true
    | 13,_,_,hr=>exact absurd hr Bool.false_ne_true
    | 14,_,_,hr=>exact absurd hr Bool.false_ne_true
    | j+15,hm,_,_=>exact absurd hm (by simp)),
  fun σ W g h hp hb=>fun ρ o ho _ hv=>by
   have hi:k<l.length:=of_decide_eq_true (vb (h 5 rfl) (hp 5 0 true rfl))
   have h9:k<9:=of_decide_eq_true (vb (h 8 rfl) (hp 8 0 true rfl))
   exact ⟨_,A5 ho ((A0 hv).1.trans (h 3 rfl).1) (A0 hv).2 (T9 (by omega) (by omega)),rfl⟩,
  fun σ W g h hp hb=>Q9 (congrArg (fun v=>[v]) (h 0 rfl)) (B8 W m0 hm.1 hm.2),
  fun σ W g h hp hb=>Q9 (congrArg (fun v=>[v]) (h 1 rfl)) (B8 W n0 hn.1 hn.2),
  fun σ W g h hp hb=>by
   have hi:k<l.length:=of_decide_eq_true (vb (h 5 rfl) (hp 5 0 true rfl))
   have h9:¬ k<9:=of_decide_eq_false (vb (h 8 rfl) (hp 8 0 false rfl))
   have hk:k<=9/\k<=l.length:=(h 3 rfl).2
   exact lT (Q3 W _ _ _ m0 n0 (lq (l.take k)) 1 (h 17 rfl) (h 18 rfl) (h 4 rfl) (by rw [I9];simp;omega) (by omega) (J7 hm) (J7 hn) (by rw [I9,List.length_take];omega)),
  fun σ W g h hp hb=>toV (M5 W (hTab.kept g (by simp))) rfl,
  fun σ W g h hp hb=>fun ρ o ho _ hv=>by
   have hi:k<l.length:=of_decide_eq_true (vb (h 5 rfl) (hp 5 0 true rfl))
   have h9:¬ k<9:=of_decide_eq_false (vb (h 8 rfl) (hp 8 0 false rfl))
   have hk:k<=9/\k<=l.length:=(h 3 rfl).2
   exact ⟨_,E6 ho ((A0 hv).1.trans (h 0 rfl)) (A0 hv).2 (decide_eq_false (by omega)),rfl⟩,
  fun σ W g h hp hb=>fun ρ o ho _ hv=>by
   have hi:k<l.length:=of_decide_eq_true (vb (h 5 rfl) (hp 5 0 true rfl))
   have h9:¬ k<9:=of_decide_eq_false (vb (h 8 rfl) (hp 8 0 false rfl))
   have hk:k<=9/\k<=l.length:=(h 3 rfl).2
   exact ⟨_,E6 ho ((A0 hv).1.trans (h 1 rfl)) (A0 hv).2 (decide_eq_true (by omega)),rfl⟩,
  fun σ W g h hp hb=>toV (J2 W _ 0 0 0 0 0 0 1 (sdE (h 19 rfl)) (by omega) (B9 (by omega)) (B9 (by omega)) (B9 (by omega)) (B9 (by omega)) (by unfold B;decide) (by unfold B;decide) (hTab.kept g (by simp))) (congrArg (Value.int .i64) (aB 0 0)),
  fun σ W g h hp hb=>Q9 (congrArg (fun v=>[v]) (h 0 rfl)) (B8 W m0 hm.1 hm.2),
  fun σ W g h hp hb=>Q9 (congrArg (fun v=>[v]) (h 1 rfl)) (B8 W n0 hn.1 hn.2),
  fun σ W g h hp hb=>by
   have hi:¬ k<l.length:=of_decide_eq_false (vb (h 5 rfl) (hp 5 0 false rfl))
   have hk:k<=9/\k<=l.length:=(h 3 rfl).2
   exact lT (Q3 W _ _ _ m0 n0 (lq (l.take k)) 1 (h 24 rfl) (h 25 rfl) (h 4 rfl) (by rw [I9];simp;omega) (by omega) (J7 hm) (J7 hn) (by rw [I9,List.length_take];omega)),
  fun σ W g h hp hb=>toV (M5 W (hTab.kept g (by simp))) rfl,
  fun σ W g h hp hb=>fun ρ o ho _ hv=>by
   have hi:¬ k<l.length:=of_decide_eq_false (vb (h 5 rfl) (hp 5 0 false rfl))
   have hk:k<=9/\k<=l.length:=(h 3 rfl).2
   exact ⟨_,E6 ho ((A0 hv).1.trans (h 0 rfl)) (A0 hv).2 (decide_eq_false (by omega)),rfl⟩,
  fun σ W g h hp hb=>fun ρ o ho _ hv=>by
   have hi:¬ k<l.length:=of_decide_eq_false (vb (h 5 rfl) (hp 5 0 false rfl))
   have hk:k<=9/\k<=l.length:=(h 3 rfl).2
   exact ⟨_,E6 ho ((A0 hv).1.trans (h 1 rfl)) (A0 hv).2 (decide_eq_true (by omega)),rfl⟩,
  fun σ W g h hp hb=>toV (J2 W _ 0 0 0 0 0 0 1 (sdE (h 26 rfl)) (by omega) (B9 (by omega)) (B9 (by omega)) (B9 (by omega)) (B9 (by omega)) (by unfold B;decide) (by unfold B;decide) (hTab.kept g (by simp))) (congrArg (Value.int .i64) (aB 0 0)),
  trivial⟩)
  (fun k=>⟨fun σ W g h hp=>⟨0,(fun e=>nomatch e),⟨rfl,fun m hm=>(if_neg (by omega)).trans (if_neg (by omega)).symm⟩,⟨rfl,by omega,by omega⟩,⟨OwV.nil kRat _ _,fun q hq=>by cases hq⟩,trivial⟩,
  fun σ W g h hp=>⟨rfl,_,rfl⟩,
  fun σ W g h hp=>⟨_,h 8 rfl⟩,
  fun σ W g h hp=>by
   have hi:k<l.length:=of_decide_eq_true (vb (h 5 rfl) (hp 5 0 true rfl))
   have h9:k<9:=of_decide_eq_true (vb (h 8 rfl) (hp 8 0 true rfl))
   exact ⟨k+1,fun _=>by show (if 3=3 then 9-(k+1) else 0)<(if 3=3 then 9-k else 0);rw [if_pos rfl,if_pos rfl];omega,⟨rfl,fun m hm=>(if_neg (by omega)).trans (if_neg (by omega)).symm⟩,⟨(h 16 rfl).trans (by push_cast;rfl),by omega,by omega⟩,⟨h 15 rfl,fun q hq=>⟨15,rfl,hq⟩⟩,trivial⟩,
  trivial⟩)
  (fun k hk=>⟨fun τ W g h hp hb=>⟨rfl,g⟩,
  fun τ W g h hp hb=>⟨rfl,g⟩,
  trivial⟩)
theorem SMakes_no2 (w:World) (m0 n0:Int) (va:Value) (l:List Int) (hm:(-9223372036854775808<=m0/\m0<=9223372036854775807)) (hn:(-9223372036854775808<=n0/\n0<=9223372036854775807)) (Ha:IrV w.heap.size w va l) (hL:∀ z ∈ l, -9223372036854775808<=z/\z<=9223372036854775807) (hTab:Tab w) (h1:¬ m0<0) (h2:¬ n0<0) (hbad : 4<l.length) :
 Calls Tryz.prog 3 #[.int .i64 m0,.int .i64 n0,va] w (fun e w'=>e = .returned (.bool true)/\w.grownBy w' none):=by
 refine W6 B5 Tryz.func3 [sZ m0,sZ n0,sIr w.heap.size l] (fun k:Nat=>[sZc (k<=9/\k<=l.length) (k:Int),sOw kRat w.heap.size (lq (l.take k)),sBq (decide (k<l.length)),sZ l.length,sV (.bool true),sBq (decide (k<9)),sZ l.length,sV (.bool false),sIa w.heap.size (ig l k),sZ (ig l k),sI (ig l k),sQ ((ig l k:Int):Rat),sOw kRat w.heap.size (lq (l.take (k+1))),sZ ((k:Int)+1),sI m0,sI n0,oU 0 0 0 0 0 0 1,sV (.bool true),sV (.bool false),sV (.bool false),sZ (lq (l.take k)).length,sV (.bool true),sV (.int .i64 0),sI m0,sI n0,oU 0 0 0 0 0 0 1,sV (.bool true),sV (.bool false),sV (.bool false),sZ (lq (l.take k)).length,sV (.bool true),sV (.int .i64 0)]) (fun m k=>if m=3 then 9-k else 0) (0) (fun _=>rfl) [1000000,3] [some [[.t 16,.t 17,.t 18,.t 19,.t 20,.t 21,.t 22,.t 23,.t 24,.t 25,.t 26,.t 27,.t 28,.t 29,.t 30,.t 31,.t 32,.t 33,.t 34],[.t 8],[.t 7]]] (.cons rfl (.cons rfl (.cons Ha .nil))) (rs:=[(co 6 (.call ⟨.builtin .len, #[(.tmp 17)], #[22]⟩) 3 [on 2] [0,1,2,3,4,5] [],[(5,0,true)]),(co 7 (.binOp .lss 3 (.tmp 16) (.tmp 18) 3) 4 [on 3,on 6] [0,1,2,3,4,5,6] [],[(5,0,true)]),(co 8 (.binOp .lss 3 (.tmp 21) (.const (.int .i64 9)) 3) 4 [on 3,.v false [.lit (.int .i64 9)]] [0,1,2,3,4,5,6,7] [],[(5,0,true)]),(co 9 (.call ⟨.builtin .len, #[(.tmp 17)], #[22]⟩) 3 [on 2] [0,1,2,3,4,5] [],[(5,0,false)]),(co 10 (.binOp .lss 3 (.tmp 16) (.tmp 18) 3) 4 [on 3,on 9] [0,1,2,3,4,5,9] [],[(5,0,false)]),(co 11 (.indexAddr 22 (.tmp 27) (.tmp 28)) 0 [on 2,on 3] [0,1,2,3,4,5,6,7,8] [],[(8,0,true),(5,0,true)]),(co 12 (.load 3 (.tmp 29)) 3 [on 11] [0,1,2,3,4,5,6,7,8,11] [],[(8,0,true),(5,0,true)]),(cla 13 10 [on 12] [0,1,2,3,4,5,6,7,8,11,12],[(8,0,true),(5,0,true)]),(cla 14 9 [ag 2 13] [0,1,2,3,4,5,6,7,8,11,12,13],[(8,0,true),(5,0,true)]),(cow 15 (.call ⟨.builtin .append, #[(.tmp 26),(.tmp 33)], #[23,23]⟩) 23 [on 4,.v false [.row 0 0 1 1]] [0,1,2,3,4,5,6,7,8,11,12,13,14] [(0,30,[.an 14 0,.an 14 1,.an 14 2,.an 14 3])],[(8,0,true),(5,0,true)]),(co 16 (.binOp .add 3 (.tmp 24) (.const (.int .i64 1)) 3) 3 [on 3,.v false [.lit (.int .i64 1)]] [0,1,2,3,4,5,6,7,8,11,12,13,14,15] [],[(8,0,true),(5,0,true)]),(cla 17 10 [on 0] [0,1,2,3,4,5,6,7,8],[(8,0,false),(5,0,true)]),(cla 18 10 [on 1] [0,1,2,3,4,5,6,7,8,17],[(8,0,false),(5,0,true)]),(cla 19 11 [ag 2 17,ag 2 18,on 4] [0,1,2,3,4,5,6,7,8,17,18],[(8,0,false),(5,0,true)]),(cla 20 12 [] [0,1,2,3,4,5,6,7,8,17,18,19],[(8,0,false),(5,0,true)]),(co 21 (.binOp .lss 3 (.tmp 46) (.const (.int .i64 0)) 3) 4 [on 0,.v false [.lit (.int .i64 0)]] [0,1,2,3,4,5,6,7,8,17,18,19,20] [],[(8,0,false),(5,0,true)]),(co 22 (.binOp .lss 3 (.tmp 49) (.const (.int .i64 0)) 3) 4 [on 1,.v false [.lit (.int .i64 0)]] [0,1,2,3,4,5,6,7,8,17,18,19,20,21] [],[(8,0,false),(5,0,true)]),(co 23 (.call ⟨.builtin .len, #[(.tmp 53)], #[23]⟩) 3 [on 4] [0,1,2,3,4,5,6,7,8,17,18,19,20,21,22] [],[(8,0,false),(5,0,true)]),(co 24 (.binOp .gtr 3 (.tmp 54) (.const (.int .i64 4)) 3) 4 [on 23,.v false [.lit (.int .i64 4)]] [0,1,2,3,4,5,6,7,8,17,18,19,20,21,22,23] [],[(8,0,false),(5,0,true)]),(cla 25 13 [ag 20 19] [0,1,2,3,4,5,6,7,8,17,18,19,20,21,22,23,24],[(8,0,false),(5,0,true)]),(cla 26 10 [on 0] [0,1,2,3,4,5,9,10],[(5,0,false)]),(cla 27 10 [on 1] [0,1,2,3,4,5,9,10,26],[(5,0,false)]),(cla 28 11 [ag 2 26,ag 2 27,on 4] [0,1,2,3,4,5,9,10,26,27],[(5,0,false)]),(cla 29 12 [] [0,1,2,3,4,5,9,10,26,27,28],[(5,0,false)]),(co 30 (.binOp .lss 3 (.tmp 46) (.const (.int .i64 0)) 3) 4 [on 0,.v false [.lit (.int .i64 0)]] [0,1,2,3,4,5,9,10,26,27,28,29] [],[(5,0,false)]),(co 31 (.binOp .lss 3 (.tmp 49) (.const (.int .i64 0)) 3) 4 [on 1,.v false [.lit (.int .i64 0)]] [0,1,2,3,4,5,9,10,26,27,28,29,30] [],[(5,0,false)]),(co 32 (.call ⟨.builtin .len, #[(.tmp 53)], #[23]⟩) 3 [on 4] [0,1,2,3,4,5,9,10,26,27,28,29,30,31] [],[(5,0,false)]),(co 33 (.binOp .gtr 3 (.tmp 54) (.const (.int .i64 4)) 3) 4 [on 32,.v false [.lit (.int .i64 4)]] [0,1,2,3,4,5,9,10,26,27,28,29,30,31,32] [],[(5,0,false)]),(cla 34 13 [ag 20 28] [0,1,2,3,4,5,9,10,26,27,28,29,30,31,32,33],[(5,0,false)])]) (js:=[.loop false 3 [(3,.v false [.lit (.int .i64 0)]),(4,.v false [.lit (.slice none 0 0)])] (List.range 3) [],.ghost 5 (List.range 5) [],.test 8 0 (List.range 9) [(5,0,true)],.loop true 3 [(3,on 16),(4,on 15)] [0,1,2,3,4,5,6,7,8,11,12,13,14,15,16] [(8,0,true),(5,0,true)]]) (outs:=[⟨.v false [.lit (.bool true)],[0,1,2,3,4,5,6,7,8,17,18,19,20,21,22,23,24,25],[(8,0,false),(5,0,true)],[],[]⟩,⟨.v false [.lit (.bool true)],[0,1,2,3,4,5,9,10,26,27,28,29,30,31,32,33,34],[(5,0,false)],[],[]⟩]) (nc:=35) (by kernel_rfl)
  (fun k=>⟨fun σ W g h hp hb=>fun ρ o ho _ hv=>⟨_,eD (h 2 rfl) ho (C6 hv) ⟨3,by kernel_rfl⟩,rfl⟩,
  fun σ W g h hp hb=>fun ρ o ho _ hv=>by
   have hi:k<l.length:=of_decide_eq_true (vb (h 5 rfl) (hp 5 0 true rfl))
   exact ⟨_,E6 ho ((A0 hv).1.trans (h 3 rfl).1) ((A0 hv).2.trans (h 6 rfl)) (decide_eq_true (by omega)),rfl⟩,
  fun σ W g h hp hb=>fun ρ o ho _ hv=>⟨_,E6 ho ((A0 hv).1.trans (h 3 rfl).1) (A0 hv).2 (decide_eq_decide.2 (by omega)),rfl⟩,
  fun σ W g h hp hb=>fun ρ o ho _ hv=>⟨_,eD (h 2 rfl) ho (C6 hv) ⟨3,by kernel_rfl⟩,rfl⟩,
  fun σ W g h hp hb=>fun ρ o ho _ hv=>by
   have q:=of_decide_eq_false (vb (h 5 rfl) (hp 5 0 false rfl))
   exact ⟨_,E6 ho ((A0 hv).1.trans (h 3 rfl).1) ((A0 hv).2.trans (h 9 rfl)) (decide_eq_false (by omega)),rfl⟩,
  fun σ W g h hp hb=>fun ρ o ho _ hv=>by
   have hi:k<l.length:=of_decide_eq_true (vb (h 5 rfl) (hp 5 0 true rfl))
   have h9:k<9:=of_decide_eq_true (vb (h 8 rfl) (hp 8 0 true rfl))
   obtain ⟨u,h1,h2,h3⟩:=mI (h 2 rfl) ho (A0 hv).1 k hi ((A0 hv).2.trans (h 3 rfl).1)
   exact ⟨u,h1,h2,fun q hq=>⟨2,rfl,h3 q hq⟩⟩,
  fun σ W g h hp hb=>fun ρ o ho _ hv=>⟨_,aW (h 11 rfl) ho (C6 hv),rfl⟩,
  fun σ W g h hp hb=>by
   have hi:k<l.length:=of_decide_eq_true (vb (h 5 rfl) (hp 5 0 true rfl))
   have h9:k<9:=of_decide_eq_true (vb (h 8 rfl) (hp 8 0 true rfl))
   have hb9:=hL _ (P0 hi)
   exact Q9 (congrArg (fun v=>[v]) (h 12 rfl)) (B8 W _ hb9.1 hb9.2),
  fun σ W g h hp hb=>by
   have hi:k<l.length:=of_decide_eq_true (vb (h 5 rfl) (hp 5 0 true rfl))
   have h9:k<9:=of_decide_eq_true (vb (h 8 rfl) (hp 8 0 true rfl))
   have hb9:=hL _ (P0 hi)
   exact B4 W _ _ 1 (h 13 rfl) (by omega) (J7 hb9),
  fun σ W g h hp hb=>fun ρ o ho _ hv=>by
   have hi:k<l.length:=of_decide_eq_true (vb (h 5 rfl) (hp 5 0 true rfl))
   have h9:k<9:=of_decide_eq_true (vb (h 8 rfl) (hp 8 0 true rfl))
   exact appS kRat g rfl (m0:=4) rfl rfl (by rw [<- nL hi];rfl) (h 4 rfl) (X0 kRat (by kernel_rfl) (eF _ _ (by kernel_rfl)) (by decide) (h 4 rfl) (cs:=[σ.an 14 0, σ.an 14 1, σ.an 14 2, σ.an 14 3]) rfl (hb.1 _ (.head _)) (h 14 rfl) (W0 (h 14 rfl)) (by rw [I9];simp;omega) g.size ho (A0 hv).1 (A0 hv).2)
    (fun m hm hne hr=>by
    match m,hm,hne,hr with
    | 0,_,_,hr=>exact absurd hr Bool.false_ne_true
    | 1,_,_,hr=>exact absurd hr Bool.false_ne_true
    | 2,_,_,_=>exact .inl ⟨h 2 rfl,fun q hq=>D7 (h 4 rfl) (IrV.block (h 2 rfl) hq)⟩
    | 3,_,_,hr=>exact absurd hr Bool.false_ne_true
    | 4,_,hne,_=>exact absurd rfl hne
    | 5,_,_,hr=>exact absurd hr Bool.false_ne_true
    | 6,_,_,hr=>exact absurd hr Bool.false_ne_true
    | 7,_,_,hr=>exact absurd hr Bool.false_ne_true
    | 8,_,_,hr=>exact absurd hr Bool.false_ne_true
    | 9,hm,_,_=>exact absurd hm Bool.false_ne_true
    | 10,hm,_,_=>exact absurd hm Bool.false_ne_true
    | 11,_,_,_=>exact .inl ⟨h 11 rfl,fun q hq=>D7 (h 4 rfl) (IaV.block (h 11 rfl) hq)⟩
    | 12,_,_,hr=>exact absurd hr Bool.false_ne_true
    | 13,_,_,hr=>exact absurd hr Bool.false_ne_true
    | 14,_,_,hr=>exact absurd hr Bool.false_ne_true
    | j+15,hm,_,_=>exact absurd hm (by simp)),
  fun σ W g h hp hb=>fun ρ o ho _ hv=>by
   have hi:k<l.length:=of_decide_eq_true (vb (h 5 rfl) (hp 5 0 true rfl))
   have h9:k<9:=of_decide_eq_true (vb (h 8 rfl) (hp 8 0 true rfl))
   exact ⟨_,A5 ho ((A0 hv).1.trans (h 3 rfl).1) (A0 hv).2 (T9 (by omega) (by omega)),rfl⟩,
  fun σ W g h hp hb=>Q9 (congrArg (fun v=>[v]) (h 0 rfl)) (B8 W m0 hm.1 hm.2),
  fun σ W g h hp hb=>Q9 (congrArg (fun v=>[v]) (h 1 rfl)) (B8 W n0 hn.1 hn.2),
  fun σ W g h hp hb=>by
   have hi:k<l.length:=of_decide_eq_true (vb (h 5 rfl) (hp 5 0 true rfl))
   have h9:¬ k<9:=of_decide_eq_false (vb (h 8 rfl) (hp 8 0 false rfl))
   have hk:k<=9/\k<=l.length:=(h 3 rfl).2
   exact lT (Q3 W _ _ _ m0 n0 (lq (l.take k)) 1 (h 17 rfl) (h 18 rfl) (h 4 rfl) (by rw [I9];simp;omega) (by omega) (J7 hm) (J7 hn) (by rw [I9,List.length_take];omega)),
  fun σ W g h hp hb=>toV (M5 W (hTab.kept g (by simp))) rfl,
  fun σ W g h hp hb=>fun ρ o ho _ hv=>by
   have hi:k<l.length:=of_decide_eq_true (vb (h 5 rfl) (hp 5 0 true rfl))
   have h9:¬ k<9:=of_decide_eq_false (vb (h 8 rfl) (hp 8 0 false rfl))
   have hk:k<=9/\k<=l.length:=(h 3 rfl).2
   exact ⟨_,E6 ho ((A0 hv).1.trans (h 0 rfl)) (A0 hv).2 (decide_eq_false (by omega)),rfl⟩,
  fun σ W g h hp hb=>fun ρ o ho _ hv=>by
   have hi:k<l.length:=of_decide_eq_true (vb (h 5 rfl) (hp 5 0 true rfl))
   have h9:¬ k<9:=of_decide_eq_false (vb (h 8 rfl) (hp 8 0 false rfl))
   have hk:k<=9/\k<=l.length:=(h 3 rfl).2
   exact ⟨_,E6 ho ((A0 hv).1.trans (h 1 rfl)) (A0 hv).2 (decide_eq_false (by omega)),rfl⟩,
  fun σ W g h hp hb=>fun ρ o ho _ hv=>⟨_,iB (OwV.rs (h 4 rfl)) ho (C6 hv) ⟨30,by kernel_rfl⟩,rfl⟩,
  fun σ W g h hp hb=>fun ρ o ho _ hv=>by
   have hi:k<l.length:=of_decide_eq_true (vb (h 5 rfl) (hp 5 0 true rfl))
   have h9:¬ k<9:=of_decide_eq_false (vb (h 8 rfl) (hp 8 0 false rfl))
   have hk:k<=9/\k<=l.length:=(h 3 rfl).2
   exact ⟨_,pP ho ((A0 hv).1.trans (h 23 rfl)) (A0 hv).2 (decide_eq_true (by rw [I9,List.length_take];omega)),rfl⟩,
  fun σ W g h hp hb=>toV (J2 W _ 0 0 0 0 0 0 1 (sdE (h 19 rfl)) (by omega) (B9 (by omega)) (B9 (by omega)) (B9 (by omega)) (B9 (by omega)) (by unfold B;decide) (by unfold B;decide) (hTab.kept g (by simp))) (congrArg (Value.int .i64) (aB 0 0)),
  fun σ W g h hp hb=>Q9 (congrArg (fun v=>[v]) (h 0 rfl)) (B8 W m0 hm.1 hm.2),
  fun σ W g h hp hb=>Q9 (congrArg (fun v=>[v]) (h 1 rfl)) (B8 W n0 hn.1 hn.2),
  fun σ W g h hp hb=>by
   have hi:¬ k<l.length:=of_decide_eq_false (vb (h 5 rfl) (hp 5 0 false rfl))
   have hk:k<=9/\k<=l.length:=(h 3 rfl).2
   exact lT (Q3 W _ _ _ m0 n0 (lq (l.take k)) 1 (h 26 rfl) (h 27 rfl) (h 4 rfl) (by rw [I9];simp;omega) (by omega) (J7 hm) (J7 hn) (by rw [I9,List.length_take];omega)),
  fun σ W g h hp hb=>toV (M5 W (hTab.kept g (by simp))) rfl,
  fun σ W g h hp hb=>fun ρ o ho _ hv=>by
   have hi:¬ k<l.length:=of_decide_eq_false (vb (h 5 rfl) (hp 5 0 false rfl))
   have hk:k<=9/\k<=l.length:=(h 3 rfl).2
   exact ⟨_,E6 ho ((A0 hv).1.trans (h 0 rfl)) (A0 hv).2 (decide_eq_false (by omega)),rfl⟩,
  fun σ W g h hp hb=>fun ρ o ho _ hv=>by
   have hi:¬ k<l.length:=of_decide_eq_false (vb (h 5 rfl) (hp 5 0 false rfl))
   have hk:k<=9/\k<=l.length:=(h 3 rfl).2
   exact ⟨_,E6 ho ((A0 hv).1.trans (h 1 rfl)) (A0 hv).2 (decide_eq_false (by omega)),rfl⟩,
  fun σ W g h hp hb=>fun ρ o ho _ hv=>⟨_,iB (OwV.rs (h 4 rfl)) ho (C6 hv) ⟨30,by kernel_rfl⟩,rfl⟩,
  fun σ W g h hp hb=>fun ρ o ho _ hv=>by
   have hi:¬ k<l.length:=of_decide_eq_false (vb (h 5 rfl) (hp 5 0 false rfl))
   have hk:k<=9/\k<=l.length:=(h 3 rfl).2
   exact ⟨_,pP ho ((A0 hv).1.trans (h 32 rfl)) (A0 hv).2 (decide_eq_true (by rw [I9,List.length_take];omega)),rfl⟩,
  fun σ W g h hp hb=>toV (J2 W _ 0 0 0 0 0 0 1 (sdE (h 28 rfl)) (by omega) (B9 (by omega)) (B9 (by omega)) (B9 (by omega)) (B9 (by omega)) (by unfold B;decide) (by unfold B;decide) (hTab.kept g (by simp))) (congrArg (Value.int .i64) (aB 0 0)),
  trivial⟩)
  (fun k=>⟨fun σ W g h hp=>⟨0,(fun e=>nomatch e),⟨rfl,fun m hm=>(if_neg (by omega)).trans (if_neg (by omega)).symm⟩,⟨rfl,by omega,by omega⟩,⟨OwV.nil kRat _ _,fun q hq=>by cases hq⟩,trivial⟩,
  fun σ W g h hp=>⟨rfl,_,rfl⟩,
  fun σ W g h hp=>⟨_,h 8 rfl⟩,
  fun σ W g h hp=>by
   have hi:k<l.length:=of_decide_eq_true (vb (h 5 rfl) (hp 5 0 true rfl))
   have h9:k<9:=of_decide_eq_true (vb (h 8 rfl) (hp 8 0 true rfl))
   exact ⟨k+1,fun _=>by show (if 3=3 then 9-(k+1) else 0)<(if 3=3 then 9-k else 0);rw [if_pos rfl,if_pos rfl];omega,⟨rfl,fun m hm=>(if_neg (by omega)).trans (if_neg (by omega)).symm⟩,⟨(h 16 rfl).trans (by push_cast;rfl),by omega,by omega⟩,⟨h 15 rfl,fun q hq=>⟨15,rfl,hq⟩⟩,trivial⟩,
  trivial⟩)
  (fun k hk=>⟨fun τ W g h hp hb=>⟨rfl,g⟩,
  fun τ W g h hp hb=>⟨rfl,g⟩,
  trivial⟩)
set_option maxHeartbeats 4000000 in
theorem SMakes_good (w:World) (m0 n0:Int) (va:Value) (l:List Int) (hm:(-9223372036854775808<=m0/\m0<=9223372036854775807)) (hn:(-9223372036854775808<=n0/\n0<=9223372036854775807)) (Ha:IrV w.heap.size w va l) (hL:∀ z ∈ l, -9223372036854775808<=z/\z<=9223372036854775807) (hTab:Tab w) (hm0 : 0<=m0) (hn0 : 0<=n0) (h4:l.length<=4) :
 Calls Tryz.prog 3 #[.int .i64 m0,.int .i64 n0,va] w (fun e w'=>e = .returned (.bool true)/\w.grownBy w' none):=by
 refine W6 B5 Tryz.func3 [sZ m0,sZ n0,sIr w.heap.size l] (fun k:Nat=>(sZc (k<=9/\k<=l.length) (k:Int) :: sOw kRat w.heap.size (lq (l.take k)) :: sBq (decide (k<l.length)) :: sZ l.length :: sV (.bool true) :: sBq (decide (k<9)) :: sZ l.length :: sV (.bool false) :: sIa w.heap.size (ig l k) :: sZ (ig l k) :: sI (ig l k) :: sQ ((ig l k:Int):Rat) :: sOw kRat w.heap.size (lq (l.take (k+1))) :: sZ ((k:Int)+1) :: sI m0 :: sI n0 :: oU 0 0 0 0 0 0 1 :: sV (.bool true) :: sV (.bool true) :: sV (.int .i64 0) :: sI m0 :: sI n0 :: oU m0 n0 ((ig l 0:Int):Rat) ((ig l 1:Int):Rat) ((ig l 2:Int):Rat) ((ig l 3:Int):Rat) 0 :: sV (.bool true) :: sV (.bool false) :: sV (.bool false) :: sZ (lq (l.take k)).length :: sV (.bool false) :: sPa ((ig l 0:Int):Rat) ((ig l 1:Int):Rat) ((ig l 2:Int):Rat) ((ig l 3:Int):Rat) :: sZ (lq (l.take k)).length :: sBq (decide (0<l.length)) :: sIa w.heap.size (ig l 0) :: sZ (ig l 0) :: sI (ig l 0) :: sT (fun s=>F5 s (ig l 0)) :: sT (fun s=>F5 s (ig l 0)) :: sT (fun s=>U5 s ((ig l 0:Int):Rat)) :: sV (.bool false) :: sZ (lq (l.take k)).length :: sBq (decide (1<l.length)) :: sIa w.heap.size (ig l 1) :: sZ (ig l 1) :: sI (ig l 1) :: sT (fun s=>F5 s (ig l 1)) :: sT (fun s=>F5 s (ig l 1)) :: sT (fun s=>U5 s ((ig l 1:Int):Rat)) :: sV (.bool false) :: sZ (lq (l.take k)).length :: sBq (decide (2<l.length)) :: sIa w.heap.size (ig l 2) :: sZ (ig l 2) :: sI (ig l 2) :: sT (fun s=>F5 s (ig l 2)) :: sT (fun s=>F5 s (ig l 2)) :: sT (fun s=>U5 s ((ig l 2:Int):Rat)) :: sV (.bool false) :: sZ (lq (l.take k)).length :: sBq (decide (3<l.length)) :: sIa w.heap.size (ig l 3) :: sZ (ig l 3) :: sI (ig l 3) :: sT (fun s=>F5 s (ig l 3)) :: sT (fun s=>F5 s (ig l 3)) :: sT (fun s=>U5 s ((ig l 3:Int):Rat)) :: sV (.bool false) :: sII m0 n0 :: sI m0 :: sZ 0 :: sV (.bool true) :: sI n0 :: sZ 0 :: sV (.bool true) :: [])) (fun m k=>if m=3 then 9-k else 0) (0) (fun _=>rfl) [1000000,3] [some [[.t 16,.t 17,.t 18,.t 19,.t 20,.t 21,.t 22,.t 23,.t 24,.t 25,.t 26,.t 27,.t 28,.t 29,.t 30,.t 31,.t 32,.t 33,.t 34],[.t 8],[.t 7]],none,none,some [[.t 13]],some [[.t 13]],some [[.t 13]],some [[.t 13]]] (.cons rfl (.cons rfl (.cons Ha .nil))) (rs:=((co 6 (.call ⟨.builtin .len, #[(.tmp 17)], #[22]⟩) 3 [on 2] [0,1,2,3,4,5] [],[(5,0,true)]) :: (co 7 (.binOp .lss 3 (.tmp 16) (.tmp 18) 3) 4 [on 3,on 6] [0,1,2,3,4,5,6] [],[(5,0,true)]) :: (co 8 (.binOp .lss 3 (.tmp 21) (.const (.int .i64 9)) 3) 4 [on 3,.v false [.lit (.int .i64 9)]] [0,1,2,3,4,5,6,7] [],[(5,0,true)]) :: (co 9 (.call ⟨.builtin .len, #[(.tmp 17)], #[22]⟩) 3 [on 2] [0,1,2,3,4,5] [],[(5,0,false)]) :: (co 10 (.binOp .lss 3 (.tmp 16) (.tmp 18) 3) 4 [on 3,on 9] [0,1,2,3,4,5,9] [],[(5,0,false)]) :: (co 11 (.indexAddr 22 (.tmp 27) (.tmp 28)) 0 [on 2,on 3] [0,1,2,3,4,5,6,7,8] [],[(8,0,true),(5,0,true)]) :: (co 12 (.load 3 (.tmp 29)) 3 [on 11] [0,1,2,3,4,5,6,7,8,11] [],[(8,0,true),(5,0,true)]) :: (cla 13 10 [on 12] [0,1,2,3,4,5,6,7,8,11,12],[(8,0,true),(5,0,true)]) :: (cla 14 9 [ag 2 13] [0,1,2,3,4,5,6,7,8,11,12,13],[(8,0,true),(5,0,true)]) :: (cow 15 (.call ⟨.builtin .append, #[(.tmp 26),(.tmp 33)], #[23,23]⟩) 23 [on 4,.v false [.row 0 0 1 1]] [0,1,2,3,4,5,6,7,8,11,12,13,14] [(0,30,[.an 14 0,.an 14 1,.an 14 2,.an 14 3])],[(8,0,true),(5,0,true)]) :: (co 16 (.binOp .add 3 (.tmp 24) (.const (.int .i64 1)) 3) 3 [on 3,.v false [.lit (.int .i64 1)]] [0,1,2,3,4,5,6,7,8,11,12,13,14,15] [],[(8,0,true),(5,0,true)]) :: (cla 17 10 [on 0] [0,1,2,3,4,5,6,7,8],[(8,0,false),(5,0,true)]) :: (cla 18 10 [on 1] [0,1,2,3,4,5,6,7,8,17],[(8,0,false),(5,0,true)]) :: (cla 19 11 [ag 2 17,ag 2 18,on 4] [0,1,2,3,4,5,6,7,8,17,18],[(8,0,false),(5,0,true)]) :: (cla 20 12 [] [0,1,2,3,4,5,6,7,8,17,18,19],[(8,0,false),(5,0,true)]) :: (co 21 (.binOp .lss 3 (.tmp 46) (.const (.int .i64 0)) 3) 4 [on 0,.v false [.lit (.int .i64 0)]] [0,1,2,3,4,5,6,7,8,17,18,19,20] [],[(8,0,false),(5,0,true)]) :: (cla 22 13 [ag 20 19] [0,1,2,3,4,5,6,7,8,17,18,19,20,21],[(8,0,false),(5,0,true)]) :: (cla 23 10 [on 0] [0,1,2,3,4,5,9,10],[(5,0,false)]) :: (cla 24 10 [on 1] [0,1,2,3,4,5,9,10,23],[(5,0,false)]) :: (cla 25 11 [ag 2 23,ag 2 24,on 4] [0,1,2,3,4,5,9,10,23,24],[(5,0,false)]) :: (cla 26 12 [] [0,1,2,3,4,5,9,10,23,24,25],[(5,0,false)]) :: (co 27 (.binOp .lss 3 (.tmp 46) (.const (.int .i64 0)) 3) 4 [on 0,.v false [.lit (.int .i64 0)]] [0,1,2,3,4,5,9,10,23,24,25,26] [],[(5,0,false)]) :: (co 28 (.binOp .lss 3 (.tmp 49) (.const (.int .i64 0)) 3) 4 [on 1,.v false [.lit (.int .i64 0)]] [0,1,2,3,4,5,9,10,23,24,25,26,27] [],[(5,0,false)]) :: (co 29 (.call ⟨.builtin .len, #[(.tmp 53)], #[23]⟩) 3 [on 4] [0,1,2,3,4,5,9,10,23,24,25,26,27,28] [],[(5,0,false)]) :: (co 30 (.binOp .gtr 3 (.tmp 54) (.const (.int .i64 4)) 3) 4 [on 29,.v false [.lit (.int .i64 4)]] [0,1,2,3,4,5,9,10,23,24,25,26,27,28,29] [],[(5,0,false)]) :: (cla 31 14 [ag 20 25] [0,1,2,3,4,5,9,10,23,24,25,26,27,28,29,30],[(5,0,false)]) :: (co 32 (.call ⟨.builtin .len, #[(.tmp 71)], #[23]⟩) 3 [on 4] [0,1,2,3,4,5,9,10,23,24,25,26,27,28,29,30,31] [],[(5,0,false)]) :: (co 33 (.binOp .lss 3 (.tmp 70) (.tmp 72) 3) 4 [.v false [.lit (.int .i64 0)],on 32] [0,1,2,3,4,5,9,10,23,24,25,26,27,28,29,30,31,32] [],[(5,0,false)]) :: (co 34 (.indexAddr 22 (.tmp 74) (.tmp 75)) 0 [on 2,.v false [.lit (.int .i64 0)]] [0,1,2,3,4,5,9,10,23,24,25,26,27,28,29,30,31,32,33] [],[(33,0,true),(5,0,false)]) :: (co 35 (.load 3 (.tmp 76)) 3 [on 34] [0,1,2,3,4,5,9,10,23,24,25,26,27,28,29,30,31,32,33,34] [],[(33,0,true),(5,0,false)]) :: (cla 36 10 [on 35] [0,1,2,3,4,5,9,10,23,24,25,26,27,28,29,30,31,32,33,34,35],[(33,0,true),(5,0,false)]) :: (cla 37 15 [ag 2 36] [0,1,2,3,4,5,9,10,23,24,25,26,27,28,29,30,31,32,33,34,35,36],[(33,0,true),(5,0,false)]) :: (cla 39 16 [ag 4 31] [0,1,2,3,4,5,9,10,23,24,25,26,27,28,29,30,31,32,33,38],[(5,0,false)]) :: (co 40 (.binOp .neq 9 (.tmp 83) (.tmp 84) 9) 4 [on 39,on 38] [0,1,2,3,4,5,9,10,23,24,25,26,27,28,29,30,31,32,33,38,39] [],[(5,0,false)]) :: (co 41 (.call ⟨.builtin .len, #[(.tmp 71)], #[23]⟩) 3 [on 4] [0,1,2,3,4,5,9,10,23,24,25,26,27,28,29,30,31,32,33,38,39,40] [],[(5,0,false)]) :: (co 42 (.binOp .lss 3 (.tmp 70) (.tmp 72) 3) 4 [.v false [.lit (.int .i64 1)],on 41] [0,1,2,3,4,5,9,10,23,24,25,26,27,28,29,30,31,32,33,38,39,40,41] [],[(5,0,false)]) :: (co 43 (.indexAddr 22 (.tmp 74) (.tmp 75)) 0 [on 2,.v false [.lit (.int .i64 1)]] [0,1,2,3,4,5,9,10,23,24,25,26,27,28,29,30,31,32,33,38,39,40,41,42] [],[(42,0,true),(5,0,false)]) :: (co 44 (.load 3 (.tmp 76)) 3 [on 43] [0,1,2,3,4,5,9,10,23,24,25,26,27,28,29,30,31,32,33,38,39,40,41,42,43] [],[(42,0,true),(5,0,false)]) :: (cla 45 10 [on 44] [0,1,2,3,4,5,9,10,23,24,25,26,27,28,29,30,31,32,33,38,39,40,41,42,43,44],[(42,0,true),(5,0,false)]) :: (cla 46 15 [ag 2 45] [0,1,2,3,4,5,9,10,23,24,25,26,27,28,29,30,31,32,33,38,39,40,41,42,43,44,45],[(42,0,true),(5,0,false)]) :: (cla 48 16 [.v true [.an 31 4,.an 31 5,.an 31 6,.an 31 7]] [0,1,2,3,4,5,9,10,23,24,25,26,27,28,29,30,31,32,33,38,39,40,41,42,47],[(5,0,false)]) :: (co 49 (.binOp .neq 9 (.tmp 83) (.tmp 84) 9) 4 [on 48,on 47] [0,1,2,3,4,5,9,10,23,24,25,26,27,28,29,30,31,32,33,38,39,40,41,42,47,48] [],[(5,0,false)]) :: (co 50 (.call ⟨.builtin .len, #[(.tmp 71)], #[23]⟩) 3 [on 4] [0,1,2,3,4,5,9,10,23,24,25,26,27,28,29,30,31,32,33,38,39,40,41,42,47,48,49] [],[(5,0,false)]) :: (co 51 (.binOp .lss 3 (.tmp 70) (.tmp 72) 3) 4 [.v false [.lit (.int .i64 2)],on 50] [0,1,2,3,4,5,9,10,23,24,25,26,27,28,29,30,31,32,33,38,39,40,41,42,47,48,49,50] [],[(5,0,false)]) :: (co 52 (.indexAddr 22 (.tmp 74) (.tmp 75)) 0 [on 2,.v false [.lit (.int .i64 2)]] [0,1,2,3,4,5,9,10,23,24,25,26,27,28,29,30,31,32,33,38,39,40,41,42,47,48,49,50,51] [],[(51,0,true),(5,0,false)]) :: (co 53 (.load 3 (.tmp 76)) 3 [on 52] [0,1,2,3,4,5,9,10,23,24,25,26,27,28,29,30,31,32,33,38,39,40,41,42,47,48,49,50,51,52] [],[(51,0,true),(5,0,false)]) :: (cla 54 10 [on 53] [0,1,2,3,4,5,9,10,23,24,25,26,27,28,29,30,31,32,33,38,39,40,41,42,47,48,49,50,51,52,53],[(51,0,true),(5,0,false)]) :: (cla 55 15 [ag 2 54] [0,1,2,3,4,5,9,10,23,24,25,26,27,28,29,30,31,32,33,38,39,40,41,42,47,48,49,50,51,52,53,54],[(51,0,true),(5,0,false)]) :: (cla 57 16 [.v true [.an 31 8,.an 31 9,.an 31 10,.an 31 11]] [0,1,2,3,4,5,9,10,23,24,25,26,27,28,29,30,31,32,33,38,39,40,41,42,47,48,49,50,51,56],[(5,0,false)]) :: (co 58 (.binOp .neq 9 (.tmp 83) (.tmp 84) 9) 4 [on 57,on 56] [0,1,2,3,4,5,9,10,23,24,25,26,27,28,29,30,31,32,33,38,39,40,41,42,47,48,49,50,51,56,57] [],[(5,0,false)]) :: (co 59 (.call ⟨.builtin .len, #[(.tmp 71)], #[23]⟩) 3 [on 4] [0,1,2,3,4,5,9,10,23,24,25,26,27,28,29,30,31,32,33,38,39,40,41,42,47,48,49,50,51,56,57,58] [],[(5,0,false)]) :: (co 60 (.binOp .lss 3 (.tmp 70) (.tmp 72) 3) 4 [.v false [.lit (.int .i64 3)],on 59] [0,1,2,3,4,5,9,10,23,24,25,26,27,28,29,30,31,32,33,38,39,40,41,42,47,48,49,50,51,56,57,58,59] [],[(5,0,false)]) :: (co 61 (.indexAddr 22 (.tmp 74) (.tmp 75)) 0 [on 2,.v false [.lit (.int .i64 3)]] [0,1,2,3,4,5,9,10,23,24,25,26,27,28,29,30,31,32,33,38,39,40,41,42,47,48,49,50,51,56,57,58,59,60] [],[(60,0,true),(5,0,false)]) :: (co 62 (.load 3 (.tmp 76)) 3 [on 61] [0,1,2,3,4,5,9,10,23,24,25,26,27,28,29,30,31,32,33,38,39,40,41,42,47,48,49,50,51,56,57,58,59,60,61] [],[(60,0,true),(5,0,false)]) :: (cla 63 10 [on 62] [0,1,2,3,4,5,9,10,23,24,25,26,27,28,29,30,31,32,33,38,39,40,41,42,47,48,49,50,51,56,57,58,59,60,61,62],[(60,0,true),(5,0,false)]) :: (cla 64 15 [ag 2 63] [0,1,2,3,4,5,9,10,23,24,25,26,27,28,29,30,31,32,33,38,39,40,41,42,47,48,49,50,51,56,57,58,59,60,61,62,63],[(60,0,true),(5,0,false)]) :: (cla 66 16 [.v true [.an 31 12,.an 31 13,.an 31 14,.an 31 15]] [0,1,2,3,4,5,9,10,23,24,25,26,27,28,29,30,31,32,33,38,39,40,41,42,47,48,49,50,51,56,57,58,59,60,65],[(5,0,false)]) :: (co 67 (.binOp .neq 9 (.tmp 83) (.tmp 84) 9) 4 [on 66,on 65] [0,1,2,3,4,5,9,10,23,24,25,26,27,28,29,30,31,32,33,38,39,40,41,42,47,48,49,50,51,56,57,58,59,60,65,66] [],[(5,0,false)]) :: (cla 68 17 [ag 20 25] [0,1,2,3,4,5,9,10,23,24,25,26,27,28,29,30,31,32,33,38,39,40,41,42,47,48,49,50,51,56,57,58,59,60,65,66,67],[(5,0,false)]) :: (cla 69 10 [on 0] [0,1,2,3,4,5,9,10,23,24,25,26,27,28,29,30,31,32,33,38,39,40,41,42,47,48,49,50,51,56,57,58,59,60,65,66,67,68],[(5,0,false)]) :: (cla 70 18 [ag 2 68,ag 2 69] [0,1,2,3,4,5,9,10,23,24,25,26,27,28,29,30,31,32,33,38,39,40,41,42,47,48,49,50,51,56,57,58,59,60,65,66,67,68,69],[(5,0,false)]) :: (co 71 (.binOp .eql 3 (.tmp 97) (.const (.int .i64 0)) 3) 4 [on 70,.v false [.lit (.int .i64 0)]] [0,1,2,3,4,5,9,10,23,24,25,26,27,28,29,30,31,32,33,38,39,40,41,42,47,48,49,50,51,56,57,58,59,60,65,66,67,68,69,70] [],[(5,0,false)]) :: (cla 72 10 [on 1] [0,1,2,3,4,5,9,10,23,24,25,26,27,28,29,30,31,32,33,38,39,40,41,42,47,48,49,50,51,56,57,58,59,60,65,66,67,68,69,70,71],[(5,0,false)]) :: (cla 73 18 [.v true [.an 68 2,.an 68 3],ag 2 72] [0,1,2,3,4,5,9,10,23,24,25,26,27,28,29,30,31,32,33,38,39,40,41,42,47,48,49,50,51,56,57,58,59,60,65,66,67,68,69,70,71,72],[(5,0,false)]) :: (co 74 (.binOp .eql 3 (.tmp 104) (.const (.int .i64 0)) 3) 4 [on 73,.v false [.lit (.int .i64 0)]] [0,1,2,3,4,5,9,10,23,24,25,26,27,28,29,30,31,32,33,38,39,40,41,42,47,48,49,50,51,56,57,58,59,60,65,66,67,68,69,70,71,72,73] [],[(5,0,false)]) :: [])) (js:=[.loop false 3 [(3,.v false [.lit (.int .i64 0)]),(4,.v false [.lit (.slice none 0 0)])] (List.range 3) [],.ghost 5 (List.range 5) [],.test 8 0 (List.range 9) [(5,0,true)],.loop true 3 [(3,on 16),(4,on 15)] [0,1,2,3,4,5,6,7,8,11,12,13,14,15,16] [(8,0,true),(5,0,true)],.test 33 0 [0,1,2,3,4,5,9,10,23,24,25,26,27,28,29,30,31,32,33] [(5,0,false)],.meet [(38,on 37)] [0,1,2,3,4,5,9,10,23,24,25,26,27,28,29,30,31,32,33,34,35,36,37] [(33,0,true),(5,0,false)],.meet [(38,.v false [.lit (.string ({ data := #[48] }))])] [0,1,2,3,4,5,9,10,23,24,25,26,27,28,29,30,31,32,33] [(33,0,false),(5,0,false)],.test 42 0 [0,1,2,3,4,5,9,10,23,24,25,26,27,28,29,30,31,32,33,38,39,40,41,42] [(5,0,false)],.meet [(47,on 46)] [0,1,2,3,4,5,9,10,23,24,25,26,27,28,29,30,31,32,33,38,39,40,41,42,43,44,45,46] [(42,0,true),(5,0,false)],.meet [(47,.v false [.lit (.string ({ data := #[48] }))])] [0,1,2,3,4,5,9,10,23,24,25,26,27,28,29,30,31,32,33,38,39,40,41,42] [(42,0,false),(5,0,false)],.test 51 0 [0,1,2,3,4,5,9,10,23,24,25,26,27,28,29,30,31,32,33,38,39,40,41,42,47,48,49,50,51] [(5,0,false)],.meet [(56,on 55)] [0,1,2,3,4,5,9,10,23,24,25,26,27,28,29,30,31,32,33,38,39,40,41,42,47,48,49,50,51,52,53,54,55] [(51,0,true),(5,0,false)],.meet [(56,.v false [.lit (.string ({ data := #[48] }))])] [0,1,2,3,4,5,9,10,23,24,25,26,27,28,29,30,31,32,33,38,39,40,41,42,47,48,49,50,51] [(51,0,false),(5,0,false)],.test 60 0 [0,1,2,3,4,5,9,10,23,24,25,26,27,28,29,30,31,32,33,38,39,40,41,42,47,48,49,50,51,56,57,58,59,60] [(5,0,false)],.meet [(65,on 64)] [0,1,2,3,4,5,9,10,23,24,25,26,27,28,29,30,31,32,33,38,39,40,41,42,47,48,49,50,51,56,57,58,59,60,61,62,63,64] [(60,0,true),(5,0,false)],.meet [(65,.v false [.lit (.string ({ data := #[48] }))])] [0,1,2,3,4,5,9,10,23,24,25,26,27,28,29,30,31,32,33,38,39,40,41,42,47,48,49,50,51,56,57,58,59,60] [(60,0,false),(5,0,false)]]) (outs:=[⟨.v false [.lit (.bool true)],[0,1,2,3,4,5,6,7,8,17,18,19,20,21,22],[(8,0,false),(5,0,true)],[],[]⟩,⟨.v false [.lit (.bool true)],[0,1,2,3,4,5,9,10,23,24,25,26,27,28,29,30,31,32,33,38,39,40,41,42,47,48,49,50,51,56,57,58,59,60,65,66,67,68,69,70,71,72,73,74],[(5,0,false)],[],[]⟩]) (nc:=75) (by kernel_rfl)
  (fun k=>⟨fun σ W g h hp hb=>fun ρ o ho _ hv=>⟨_,eD (h 2 rfl) ho (C6 hv) ⟨3,by kernel_rfl⟩,rfl⟩,
  fun σ W g h hp hb=>fun ρ o ho _ hv=>by
   have hi:k<l.length:=of_decide_eq_true (vb (h 5 rfl) (hp 5 0 true rfl))
   exact ⟨_,E6 ho ((A0 hv).1.trans (h 3 rfl).1) ((A0 hv).2.trans (h 6 rfl)) (decide_eq_true (by omega)),rfl⟩,
  fun σ W g h hp hb=>fun ρ o ho _ hv=>⟨_,E6 ho ((A0 hv).1.trans (h 3 rfl).1) (A0 hv).2 (decide_eq_decide.2 (by omega)),rfl⟩,
  fun σ W g h hp hb=>fun ρ o ho _ hv=>⟨_,eD (h 2 rfl) ho (C6 hv) ⟨3,by kernel_rfl⟩,rfl⟩,
  fun σ W g h hp hb=>fun ρ o ho _ hv=>by
   have q:=of_decide_eq_false (vb (h 5 rfl) (hp 5 0 false rfl))
   exact ⟨_,E6 ho ((A0 hv).1.trans (h 3 rfl).1) ((A0 hv).2.trans (h 9 rfl)) (decide_eq_false (by omega)),rfl⟩,
  fun σ W g h hp hb=>fun ρ o ho _ hv=>by
   have hi:k<l.length:=of_decide_eq_true (vb (h 5 rfl) (hp 5 0 true rfl))
   have h9:k<9:=of_decide_eq_true (vb (h 8 rfl) (hp 8 0 true rfl))
   obtain ⟨u,h1,h2,h3⟩:=mI (h 2 rfl) ho (A0 hv).1 k hi ((A0 hv).2.trans (h 3 rfl).1)
   exact ⟨u,h1,h2,fun q hq=>⟨2,rfl,h3 q hq⟩⟩,
  fun σ W g h hp hb=>fun ρ o ho _ hv=>⟨_,aW (h 11 rfl) ho (C6 hv),rfl⟩,
  fun σ W g h hp hb=>by
   have hi:k<l.length:=of_decide_eq_true (vb (h 5 rfl) (hp 5 0 true rfl))
   have h9:k<9:=of_decide_eq_true (vb (h 8 rfl) (hp 8 0 true rfl))
   have hb9:=hL _ (P0 hi)
   exact Q9 (congrArg (fun v=>[v]) (h 12 rfl)) (B8 W _ hb9.1 hb9.2),
  fun σ W g h hp hb=>by
   have hi:k<l.length:=of_decide_eq_true (vb (h 5 rfl) (hp 5 0 true rfl))
   have h9:k<9:=of_decide_eq_true (vb (h 8 rfl) (hp 8 0 true rfl))
   have hb9:=hL _ (P0 hi)
   exact B4 W _ _ 1 (h 13 rfl) (by omega) (J7 hb9),
  fun σ W g h hp hb=>fun ρ o ho _ hv=>by
   have hi:k<l.length:=of_decide_eq_true (vb (h 5 rfl) (hp 5 0 true rfl))
   have h9:k<9:=of_decide_eq_true (vb (h 8 rfl) (hp 8 0 true rfl))
   exact appS kRat g rfl (m0:=4) rfl rfl (by rw [<- nL hi];rfl) (h 4 rfl) (X0 kRat (by kernel_rfl) (eF _ _ (by kernel_rfl)) (by decide) (h 4 rfl) (cs:=[σ.an 14 0, σ.an 14 1, σ.an 14 2, σ.an 14 3]) rfl (hb.1 _ (.head _)) (h 14 rfl) (W0 (h 14 rfl)) (by rw [I9];simp;omega) g.size ho (A0 hv).1 (A0 hv).2)
    (fun m hm hne hr=>by
    match m,hm,hne,hr with
    | 0,_,_,hr=>exact absurd hr Bool.false_ne_true
    | 1,_,_,hr=>exact absurd hr Bool.false_ne_true
    | 2,_,_,_=>exact .inl ⟨h 2 rfl,fun q hq=>D7 (h 4 rfl) (IrV.block (h 2 rfl) hq)⟩
    | 3,_,_,hr=>exact absurd hr Bool.false_ne_true
    | 4,_,hne,_=>exact absurd rfl hne
    | 5,_,_,hr=>exact absurd hr Bool.false_ne_true
    | 6,_,_,hr=>exact absurd hr Bool.false_ne_true
    | 7,_,_,hr=>exact absurd hr Bool.false_ne_true
    | 8,_,_,hr=>exact absurd hr Bool.false_ne_true
    | 9,hm,_,_=>exact absurd hm Bool.false_ne_true
    | 10,hm,_,_=>exact absurd hm Bool.false_ne_true
    | 11,_,_,_=>exact .inl ⟨h 11 rfl,fun q hq=>D7 (h 4 rfl) (IaV.block (h 11 rfl) hq)⟩
    | 12,_,_,hr=>exact absurd hr Bool.false_ne_true
    | 13,_,_,hr=>exact absurd hr Bool.false_ne_true
    | 14,_,_,hr=>exact absurd hr Bool.false_ne_true
    | j+15,hm,_,_=>exact absurd hm (by simp)),
  fun σ W g h hp hb=>fun ρ o ho _ hv=>by
   have hi:k<l.length:=of_decide_eq_true (vb (h 5 rfl) (hp 5 0 true rfl))
   have h9:k<9:=of_decide_eq_true (vb (h 8 rfl) (hp 8 0 true rfl))
   exact ⟨_,A5 ho ((A0 hv).1.trans (h 3 rfl).1) (A0 hv).2 (T9 (by omega) (by omega)),rfl⟩,
  fun σ W g h hp hb=>Q9 (congrArg (fun v=>[v]) (h 0 rfl)) (B8 W m0 hm.1 hm.2),
  fun σ W g h hp hb=>Q9 (congrArg (fun v=>[v]) (h 1 rfl)) (B8 W n0 hn.1 hn.2),
  fun σ W g h hp hb=>by
   have hi:k<l.length:=of_decide_eq_true (vb (h 5 rfl) (hp 5 0 true rfl))
   have h9:¬ k<9:=of_decide_eq_false (vb (h 8 rfl) (hp 8 0 false rfl))
   have hk:k<=9/\k<=l.length:=(h 3 rfl).2
   have hF:False:=by omega
   exact hF.elim,
  fun σ W g h hp hb=>toV (M5 W (hTab.kept g (by simp))) rfl,
  fun σ W g h hp hb=>fun ρ o ho _ hv=>by
   have hi:k<l.length:=of_decide_eq_true (vb (h 5 rfl) (hp 5 0 true rfl))
   have h9:¬ k<9:=of_decide_eq_false (vb (h 8 rfl) (hp 8 0 false rfl))
   have hk:k<=9/\k<=l.length:=(h 3 rfl).2
   have hF:False:=by omega
   exact hF.elim,
  fun σ W g h hp hb=>toV (J2 W _ 0 0 0 0 0 0 1 (sdE (h 19 rfl)) (by omega) (B9 (by omega)) (B9 (by omega)) (B9 (by omega)) (B9 (by omega)) (by unfold B;decide) (by unfold B;decide) (hTab.kept g (by simp))) (congrArg (Value.int .i64) (aB 0 0)),
  fun σ W g h hp hb=>Q9 (congrArg (fun v=>[v]) (h 0 rfl)) (B8 W m0 hm.1 hm.2),
  fun σ W g h hp hb=>Q9 (congrArg (fun v=>[v]) (h 1 rfl)) (B8 W n0 hn.1 hn.2),
  fun σ W g h hp hb=>by
   have hi:¬ k<l.length:=of_decide_eq_false (vb (h 5 rfl) (hp 5 0 false rfl))
   have hk:k<=9/\k<=l.length:=(h 3 rfl).2
   have hkl:l.take k=l:=List.take_of_length_le (by omega)
   have hh:=kD W _ _ _ m0 n0 (lq (l.take k)) 1 (h 23 rfl) (h 24 rfl) (h 4 rfl) (by rw [I9];simp;omega) (by omega) (J7 hm) (J7 hn) hm0 hn0 (lq_b fun z hz=>hL z (List.mem_of_mem_take hz)) (hTab.kept g (by simp))
   rw [vG,vG,vG,vG,hkl] at hh
   exact lT hh,
  fun σ W g h hp hb=>toV (M5 W (hTab.kept g (by simp))) rfl,
  fun σ W g h hp hb=>fun ρ o ho _ hv=>⟨_,E6 ho ((A0 hv).1.trans (h 0 rfl)) (A0 hv).2 (decide_eq_false (by omega)),rfl⟩,
  fun σ W g h hp hb=>fun ρ o ho _ hv=>⟨_,E6 ho ((A0 hv).1.trans (h 1 rfl)) (A0 hv).2 (decide_eq_false (by omega)),rfl⟩,
  fun σ W g h hp hb=>fun ρ o ho _ hv=>⟨_,iB (OwV.rs (h 4 rfl)) ho (C6 hv) ⟨30,by kernel_rfl⟩,rfl⟩,
  fun σ W g h hp hb=>fun ρ o ho _ hv=>by
   have hi:¬ k<l.length:=of_decide_eq_false (vb (h 5 rfl) (hp 5 0 false rfl))
   have hk:k<=9/\k<=l.length:=(h 3 rfl).2
   have hkl:l.take k=l:=List.take_of_length_le (by omega)
   exact ⟨_,pP ho ((A0 hv).1.trans (h 29 rfl)) (A0 hv).2 (decide_eq_false (by rw [I9,hkl];omega)),rfl⟩,
  fun σ W g h hp hb=>rC W _ _ _ ((ig l 0:Int):Rat) ((ig l 1:Int):Rat) ((ig l 2:Int):Rat) ((ig l 3:Int):Rat) 1 (sdE (h 25 rfl)) (by omega) (mW hL 0) (mW hL 1) (mW hL 2) (mW hL 3),
  fun σ W g h hp hb=>fun ρ o ho _ hv=>⟨_,iB (OwV.rs (h 4 rfl)) ho (C6 hv) ⟨30,by kernel_rfl⟩,rfl⟩,
  fun σ W g h hp hb=>fun ρ o ho _ hv=>by
   have hi:¬ k<l.length:=of_decide_eq_false (vb (h 5 rfl) (hp 5 0 false rfl))
   have hk:k<=9/\k<=l.length:=(h 3 rfl).2
   have hkl:l.take k=l:=List.take_of_length_le (by omega)
   exact ⟨_,E6 ho (A0 hv).1 ((A0 hv).2.trans (h 32 rfl)) (by rw [I9,hkl];exact decide_eq_decide.2 (by omega)),rfl⟩,
  fun σ W g h hp hb=>fun ρ o ho _ hv=>by
   have hi2 : 0<l.length:=of_decide_eq_true (vb (h 33 rfl) (hp 33 0 true rfl))
   obtain ⟨u,h1,h2,h3⟩:=mI (h 2 rfl) ho (A0 hv).1 0 hi2 (A0 hv).2
   exact ⟨u,h1,h2,fun q hq=>⟨2,rfl,h3 q hq⟩⟩,
  fun σ W g h hp hb=>fun ρ o ho _ hv=>⟨_,aW (h 34 rfl) ho (C6 hv),rfl⟩,
  fun σ W g h hp hb=>by
   have hi2 : 0<l.length:=of_decide_eq_true (vb (h 33 rfl) (hp 33 0 true rfl))
   have hb9:=hL _ (P0 hi2)
   exact Q9 (congrArg (fun v=>[v]) (h 35 rfl)) (B8 W _ hb9.1 hb9.2),
  fun σ W g h hp hb=>by
   have hi2 : 0<l.length:=of_decide_eq_true (vb (h 33 rfl) (hp 33 0 true rfl))
   have hb9:=hL _ (P0 hi2)
   exact toT (U0 W _ _ 1 (h 36 rfl) (by omega) (J7 hb9)),
  fun σ W g h hp hb=>toT (cG W _ ((ig l 0:Int):Rat) 1 (pa0 (h 31 rfl)) (by omega) (mW hL 0).1 (mW hL 0).2),
  fun σ W g h hp hb=>fun ρ o ho _ hv=>by
   obtain ⟨s,e,hs⟩:=h 39 rfl
   obtain ⟨t,e2,ht⟩:=h 38 rfl
   exact ⟨_,jA ho ((A0 hv).1.trans e) ((A0 hv).2.trans e2) (aQ hs ht),rfl⟩,
  fun σ W g h hp hb=>fun ρ o ho _ hv=>⟨_,iB (OwV.rs (h 4 rfl)) ho (C6 hv) ⟨30,by kernel_rfl⟩,rfl⟩,
  fun σ W g h hp hb=>fun ρ o ho _ hv=>by
   have hi:¬ k<l.length:=of_decide_eq_false (vb (h 5 rfl) (hp 5 0 false rfl))
   have hk:k<=9/\k<=l.length:=(h 3 rfl).2
   have hkl:l.take k=l:=List.take_of_length_le (by omega)
   exact ⟨_,E6 ho (A0 hv).1 ((A0 hv).2.trans (h 41 rfl)) (by rw [I9,hkl];exact decide_eq_decide.2 (by omega)),rfl⟩,
  fun σ W g h hp hb=>fun ρ o ho _ hv=>by
   have hi2 : 1<l.length:=of_decide_eq_true (vb (h 42 rfl) (hp 42 0 true rfl))
   obtain ⟨u,h1,h2,h3⟩:=mI (h 2 rfl) ho (A0 hv).1 1 hi2 (A0 hv).2
   exact ⟨u,h1,h2,fun q hq=>⟨2,rfl,h3 q hq⟩⟩,
  fun σ W g h hp hb=>fun ρ o ho _ hv=>⟨_,aW (h 43 rfl) ho (C6 hv),rfl⟩,
  fun σ W g h hp hb=>by
   have hi2 : 1<l.length:=of_decide_eq_true (vb (h 42 rfl) (hp 42 0 true rfl))
   have hb9:=hL _ (P0 hi2)
   exact Q9 (congrArg (fun v=>[v]) (h 44 rfl)) (B8 W _ hb9.1 hb9.2),
  fun σ W g h hp hb=>by
   have hi2 : 1<l.length:=of_decide_eq_true (vb (h 42 rfl) (hp 42 0 true rfl))
   have hb9:=hL _ (P0 hi2)
   exact toT (U0 W _ _ 1 (h 45 rfl) (by omega) (J7 hb9)),
  fun σ W g h hp hb=>toT (cG W _ ((ig l 1:Int):Rat) 1 (pa1 (h 31 rfl)) (by omega) (mW hL 1).1 (mW hL 1).2),
  fun σ W g h hp hb=>fun ρ o ho _ hv=>by
   obtain ⟨s,e,hs⟩:=h 48 rfl
   obtain ⟨t,e2,ht⟩:=h 47 rfl
   exact ⟨_,jA ho ((A0 hv).1.trans e) ((A0 hv).2.trans e2) (aQ hs ht),rfl⟩,
  fun σ W g h hp hb=>fun ρ o ho _ hv=>⟨_,iB (OwV.rs (h 4 rfl)) ho (C6 hv) ⟨30,by kernel_rfl⟩,rfl⟩,
  fun σ W g h hp hb=>fun ρ o ho _ hv=>by
   have hi:¬ k<l.length:=of_decide_eq_false (vb (h 5 rfl) (hp 5 0 false rfl))
   have hk:k<=9/\k<=l.length:=(h 3 rfl).2
   have hkl:l.take k=l:=List.take_of_length_le (by omega)
   exact ⟨_,E6 ho (A0 hv).1 ((A0 hv).2.trans (h 50 rfl)) (by rw [I9,hkl];exact decide_eq_decide.2 (by omega)),rfl⟩,
  fun σ W g h hp hb=>fun ρ o ho _ hv=>by
   have hi2 : 2<l.length:=of_decide_eq_true (vb (h 51 rfl) (hp 51 0 true rfl))
   obtain ⟨u,h1,h2,h3⟩:=mI (h 2 rfl) ho (A0 hv).1 2 hi2 (A0 hv).2
   exact ⟨u,h1,h2,fun q hq=>⟨2,rfl,h3 q hq⟩⟩,
  fun σ W g h hp hb=>fun ρ o ho _ hv=>⟨_,aW (h 52 rfl) ho (C6 hv),rfl⟩,
  fun σ W g h hp hb=>by
   have hi2 : 2<l.length:=of_decide_eq_true (vb (h 51 rfl) (hp 51 0 true rfl))
   have hb9:=hL _ (P0 hi2)
   exact Q9 (congrArg (fun v=>[v]) (h 53 rfl)) (B8 W _ hb9.1 hb9.2),
  fun σ W g h hp hb=>by
   have hi2 : 2<l.length:=of_decide_eq_true (vb (h 51 rfl) (hp 51 0 true rfl))
   have hb9:=hL _ (P0 hi2)
   exact toT (U0 W _ _ 1 (h 54 rfl) (by omega) (J7 hb9)),
  fun σ W g h hp hb=>toT (cG W _ ((ig l 2:Int):Rat) 1 (pa2 (h 31 rfl)) (by omega) (mW hL 2).1 (mW hL 2).2),
  fun σ W g h hp hb=>fun ρ o ho _ hv=>by
   obtain ⟨s,e,hs⟩:=h 57 rfl
   obtain ⟨t,e2,ht⟩:=h 56 rfl
   exact ⟨_,jA ho ((A0 hv).1.trans e) ((A0 hv).2.trans e2) (aQ hs ht),rfl⟩,
  fun σ W g h hp hb=>fun ρ o ho _ hv=>⟨_,iB (OwV.rs (h 4 rfl)) ho (C6 hv) ⟨30,by kernel_rfl⟩,rfl⟩,
  fun σ W g h hp hb=>fun ρ o ho _ hv=>by
   have hi:¬ k<l.length:=of_decide_eq_false (vb (h 5 rfl) (hp 5 0 false rfl))
   have hk:k<=9/\k<=l.length:=(h 3 rfl).2
   have hkl:l.take k=l:=List.take_of_length_le (by omega)
   exact ⟨_,E6 ho (A0 hv).1 ((A0 hv).2.trans (h 59 rfl)) (by rw [I9,hkl];exact decide_eq_decide.2 (by omega)),rfl⟩,
  fun σ W g h hp hb=>fun ρ o ho _ hv=>by
   have hi2 : 3<l.length:=of_decide_eq_true (vb (h 60 rfl) (hp 60 0 true rfl))
   obtain ⟨u,h1,h2,h3⟩:=mI (h 2 rfl) ho (A0 hv).1 3 hi2 (A0 hv).2
   exact ⟨u,h1,h2,fun q hq=>⟨2,rfl,h3 q hq⟩⟩,
  fun σ W g h hp hb=>fun ρ o ho _ hv=>⟨_,aW (h 61 rfl) ho (C6 hv),rfl⟩,
  fun σ W g h hp hb=>by
   have hi2 : 3<l.length:=of_decide_eq_true (vb (h 60 rfl) (hp 60 0 true rfl))
   have hb9:=hL _ (P0 hi2)
   exact Q9 (congrArg (fun v=>[v]) (h 62 rfl)) (B8 W _ hb9.1 hb9.2),
  fun σ W g h hp hb=>by
   have hi2 : 3<l.length:=of_decide_eq_true (vb (h 60 rfl) (hp 60 0 true rfl))
   have hb9:=hL _ (P0 hi2)
   exact toT (U0 W _ _ 1 (h 63 rfl) (by omega) (J7 hb9)),
  fun σ W g h hp hb=>toT (cG W _ ((ig l 3:Int):Rat) 1 (pa3 (h 31 rfl)) (by omega) (mW hL 3).1 (mW hL 3).2),
  fun σ W g h hp hb=>fun ρ o ho _ hv=>by
   obtain ⟨s,e,hs⟩:=h 66 rfl
   obtain ⟨t,e2,ht⟩:=h 65 rfl
   exact ⟨_,jA ho ((A0 hv).1.trans e) ((A0 hv).2.trans e2) (aQ hs ht),rfl⟩,
  fun σ W g h hp hb=>toII (SField_any W _ m0 n0 ((ig l 0:Int):Rat) ((ig l 1:Int):Rat) ((ig l 2:Int):Rat) ((ig l 3:Int):Rat) 1 (sdE (h 25 rfl)) (by omega) (J7 hm) (J7 hn)),
  fun σ W g h hp hb=>Q9 (congrArg (fun v=>[v]) (h 0 rfl)) (B8 W m0 hm.1 hm.2),
  fun σ W g h hp hb=>toZ (L8 W _ _ _ _ 1 (ii1 (h 68 rfl)) (h 69 rfl) (by omega) (J7 hm) (J7 hm)) (sF _),
  fun σ W g h hp hb=>fun ρ o ho _ hv=>⟨_,eq_told true ho ((A0 hv).1.trans (h 70 rfl)) (A0 hv).2 (decide_eq_true rfl),rfl⟩,
  fun σ W g h hp hb=>Q9 (congrArg (fun v=>[v]) (h 1 rfl)) (B8 W n0 hn.1 hn.2),
  fun σ W g h hp hb=>toZ (L8 W _ _ _ _ 1 (ii2 (h 68 rfl)) (h 72 rfl) (by omega) (J7 hn) (J7 hn)) (sF _),
  fun σ W g h hp hb=>fun ρ o ho _ hv=>⟨_,eq_told true ho ((A0 hv).1.trans (h 73 rfl)) (A0 hv).2 (decide_eq_true rfl),rfl⟩,
  trivial⟩)
  (fun k=>⟨fun σ W g h hp=>⟨0,(fun e=>nomatch e),⟨rfl,fun m hm=>(if_neg (by omega)).trans (if_neg (by omega)).symm⟩,⟨rfl,by omega,by omega⟩,⟨OwV.nil kRat _ _,fun q hq=>by cases hq⟩,trivial⟩,
  fun σ W g h hp=>⟨rfl,_,rfl⟩,
  fun σ W g h hp=>⟨_,h 8 rfl⟩,
  fun σ W g h hp=>by
   have hi:k<l.length:=of_decide_eq_true (vb (h 5 rfl) (hp 5 0 true rfl))
   have h9:k<9:=of_decide_eq_true (vb (h 8 rfl) (hp 8 0 true rfl))
   exact ⟨k+1,fun _=>by show (if 3=3 then 9-(k+1) else 0)<(if 3=3 then 9-k else 0);rw [if_pos rfl,if_pos rfl];omega,⟨rfl,fun m hm=>(if_neg (by omega)).trans (if_neg (by omega)).symm⟩,⟨(h 16 rfl).trans (by push_cast;rfl),by omega,by omega⟩,⟨h 15 rfl,fun q hq=>⟨15,rfl,hq⟩⟩,trivial⟩,
  fun σ W g h hp=>⟨_,h 33 rfl⟩,
  fun σ W g h hp=>⟨h 37 rfl,trivial⟩,
  fun σ W g h hp=>by
   have hi2:¬ 0<l.length:=of_decide_eq_false (vb (h 33 rfl) (hp 33 0 false rfl))
   exact ⟨⟨_,rfl,by rw [jS hi2];exact nC⟩,trivial⟩,
  fun σ W g h hp=>⟨_,h 42 rfl⟩,
  fun σ W g h hp=>⟨h 46 rfl,trivial⟩,
  fun σ W g h hp=>by
   have hi2:¬ 1<l.length:=of_decide_eq_false (vb (h 42 rfl) (hp 42 0 false rfl))
   exact ⟨⟨_,rfl,by rw [jS hi2];exact nC⟩,trivial⟩,
  fun σ W g h hp=>⟨_,h 51 rfl⟩,
  fun σ W g h hp=>⟨h 55 rfl,trivial⟩,
  fun σ W g h hp=>by
   have hi2:¬ 2<l.length:=of_decide_eq_false (vb (h 51 rfl) (hp 51 0 false rfl))
   exact ⟨⟨_,rfl,by rw [jS hi2];exact nC⟩,trivial⟩,
  fun σ W g h hp=>⟨_,h 60 rfl⟩,
  fun σ W g h hp=>⟨h 64 rfl,trivial⟩,
  fun σ W g h hp=>by
   have hi2:¬ 3<l.length:=of_decide_eq_false (vb (h 60 rfl) (hp 60 0 false rfl))
   exact ⟨⟨_,rfl,by rw [jS hi2];exact nC⟩,trivial⟩,
  trivial⟩)
  (fun k hk=>⟨fun τ W g h hp hb=>⟨rfl,g⟩,
  fun τ W g h hp hb=>⟨rfl,g⟩,
  trivial⟩)
theorem oH (w:World) (m0 n0:Int) (va:Value) (l:List Int) (hm:(-9223372036854775808<=m0/\m0<=9223372036854775807)) (hn:(-9223372036854775808<=n0/\n0<=9223372036854775807)) (Ha:IrV w.heap.size w va l) (hL:∀ z ∈ l, -9223372036854775808<=z/\z<=9223372036854775807) (hTab:Tab w) :
 Calls Tryz.prog 3 #[.int .i64 m0,.int .i64 n0,va] w (fun e w'=>e = .returned (.bool true)/\w.grownBy w' none):=by
 by_cases h1:m0<0
 · exact SMakes_no0 w m0 n0 va l hm hn Ha hL hTab h1
 by_cases h2:n0<0
 · exact SMakes_no1 w m0 n0 va l hm hn Ha hL hTab h1 h2
 by_cases h4 : 4<l.length
 · exact SMakes_no2 w m0 n0 va l hm hn Ha hL hTab h1 h2 h4
 exact SMakes_good w m0 n0 va l hm hn Ha hL hTab (by omega) (by omega) (by omega)
end Go.Proofs.YtdgdmicbbfoghaaGreatDoor
namespace Go.Proofs.YtdgdmicbbfoghaaGreatDoor.SurdMakes
open Go.ChangeShapes Go.WideShapes Go.ChangeAt Go.RowKit Go.ChangeMaps
open Go.Deep
section
variable {H:Type} {enc:TypeId × Value->H} {W:World} {sp:Nat->Bool}
theorem open_irs {a0:Option Addr} {len cap:Nat} {d:DataW H} {p:List MemPlace} (h:DataW.Trod enc Tryz.prog W 0 sp true 22 (.slice a0 len cap) d p) :
 ∃ l:List Int,IrV W.heap.size W (.slice a0 len cap) l /\ ∀ z ∈ l, -9223372036854775808<=z/\z<=9223372036854775807:=by
 obtain ⟨n,hn⟩:=h
 rcases open_ints Tryz.underlying22 Tryz.underlying3 int_cells hn with ⟨hcs,_⟩ | ⟨a,ln,cp,zs,hcs,_,hl,hm,hz,_,hcell,hwf⟩
 · simp [Value.cells] at hcs
   obtain ⟨rfl,rfl,rfl⟩:=hcs
   exact ⟨[],⟨none,0,0,rfl,rfl,Nat.le_refl _,.inl rfl⟩,fun z hz=>by cases hz⟩
 · simp [Value.cells] at hcs
   obtain ⟨rfl,rfl,rfl⟩:=hcs
   have hzl:len<=zs.length:=by rw [hz];split<;>omega
   refine ⟨zs.take len,⟨some a,len,cap,rfl,by rw [List.length_take];omega,hl, ?_⟩,fun z hz=>i64_wf (hwf z (List.mem_of_mem_take hz))⟩
   by_cases h0:len=0
   · subst h0;exact .inl (by simp)
   · have c0:=hcell 0 (by omega)
     obtain ⟨b,off,spot⟩:=a
     have hs:=cell_spot c0
     have hs:spot=none:=by simpa [Addr.add] using hs
     subst hs
     refine .inr ⟨b,off,rfl, ?_,fun i hi=>?_⟩
     · rw [Addr.add_lit] at c0;exact kA c0
     · rw [List.length_take] at hi
       have c:=hcell i (by omega)
       rw [Addr.add_lit] at c
       rw [c,List.getElem_take,List.getD_eq_getElem?_getD,List.getElem?_eq_getElem (by omega),Option.getD_some]
end
theorem contract (H:Type) (enc:TypeId × Value->H) (W:World) (base:Nat) (args:Array Value) (ds gs:List (DataW H)) (before:List MemPlace)
 (hval:∀ (j:Nat) t v,Tryz.f3.params[j]?=some t->args[j]?=some v->Value.okWide Tryz.prog W .any base t v)
 (hW:DataW.Whole enc Tryz.prog Tryz.f3.params.toList Rows.surdMakesSpec.vars false W args.toList ds gs before) (hL:laidMetH Tryz.prog Rows.surdMakesRow.laid W) :
 Calls Tryz.prog 3 args W fun e W'=>∃ v,e = .returned v/\Rows.surdMakesSpec.post enc Tryz.prog Tryz.f3 false true false false W args v W':=by
 have hW':=hW
 obtain ⟨p,q,hA0,hV,rfl,hfz,hnd⟩:=hW
 have hA:DataW.TrodAll enc Tryz.prog W 0 (fun _=>true) true Tryz.f3.params.toList args.toList ds p:=hA0
 rw [Tryz.params3] at hA hval
 obtain ⟨v0,vs0,d0,ds0,p0,q0,hargs0,rfl,rfl,h0,r0⟩:=trodAll_cons hA
 obtain ⟨v1,vs1,d1,ds1,p1,q1,hargs1,rfl,rfl,h1,r1⟩:=trodAll_cons r0
 obtain ⟨v2,vs2,d2,ds2,p2,q2,hargs2,rfl,rfl,h2,r2⟩:=trodAll_cons r1
 obtain ⟨rfl,rfl,rfl⟩:=trodAll_nil r2
 obtain rfl:args = #[v0,v1,v2]:=by cases args;simp_all
 obtain ⟨rfl,rfl⟩:=trodVars_none hV
 simp only [List.append_nil] at hW' hfz
 have hlt:∀ p ∈ p0++(p1++p2),p.block<W.heap.size:=fun p hp=>by
  have:=DataW.TrodAll.lt hA p (by simpa using hp)
  exact this
 have hv0:=hval 0 3 v0 rfl rfl
 obtain ⟨x0,rfl,_,_,w0⟩:=open_int Tryz.underlying3 hv0 h0
 have hv1:=hval 1 3 v1 rfl rfl
 obtain ⟨x1,rfl,_,_,w1⟩:=open_int Tryz.underlying3 hv1 h1
 have hv2:=hval 2 22 v2 rfl rfl
 obtain ⟨s2,n2,c2,rfl⟩:=okWide_slice Tryz.underlying22 hv2
 obtain ⟨l2,hd2,hs2⟩:=open_irs h2
 clear hA0
 refine (oH W x0 x1 _ l2 (i64_wf w0) (i64_wf w1) hd2 hs2 (tab_of hL)).mono fun e W' ⟨he,hg⟩=>?_
 subst he
 have hs0:∀ sp:Nat->Bool,(∀ p ∈ p0,sp p.block=true)->DataW.Trod enc Tryz.prog W' 0 sp true 3 (.int .i64 x0) d0 p0:=fun sp hsp=>
  Go.WideElems.Trod_stays (by kernel_rfl) (by kernel_rfl) (of_decide_eq_true (by kernel_rfl)) h0 (fun p hp=>iI hg (hlt p (by simp [hp]))) hsp
 have hs1:∀ sp:Nat->Bool,(∀ p ∈ p1,sp p.block=true)->DataW.Trod enc Tryz.prog W' 0 sp true 3 (.int .i64 x1) d1 p1:=fun sp hsp=>
  Go.WideElems.Trod_stays (by kernel_rfl) (by kernel_rfl) (of_decide_eq_true (by kernel_rfl)) h1 (fun p hp=>iI hg (hlt p (by simp [hp]))) hsp
 have hs2:∀ sp:Nat->Bool,(∀ p ∈ p2,sp p.block=true)->DataW.Trod enc Tryz.prog W' 0 sp true 22 (.slice s2 n2 c2) d2 p2:=fun sp hsp=>
  Go.WideElems.Trod_stays (by kernel_rfl) (by kernel_rfl) (of_decide_eq_true (by kernel_rfl)) h2 (fun p hp=>iI hg (hlt p (by simp [hp]))) hsp
 exact ⟨_,rfl,post_places hW' hlt (fun _ _ _=>trodAll_cons_mk (shut_bool Tryz.underlying4 _) trodAll_mk0) (fun sp hsp=>by
  have:=trodAll_cons_mk (hs0 sp (fun p hp=>hsp p (by simp [hp]))) (trodAll_cons_mk (hs1 sp (fun p hp=>hsp p (by simp [hp]))) (trodAll_cons_mk (hs2 sp (fun p hp=>hsp p (by simp [hp]))) (trodAll_mk0)))
  rw [List.append_nil] at this
  exact this) (fun _=>rfl) hg (ok_one (by kernel_rfl) rfl (okWide_bool_mk Tryz.underlying4 _))⟩
theorem laid_met (os:Os):laidMet Tryz.prog Rows.surdMakesRow.laid ((lE os).forCall (fun _ _=>0) ⟨#[], #[.int .i64 0,.int .i64 0,.slice none 0 0],[]⟩).memory:=
 laidMet_of_run' 80 (by kernel_rfl) (by kernel_rfl)
theorem reads (os:Os) {H:Type} (enc:TypeId × Value->H):∃ places,DataW.whole enc Tryz.prog ((lE os).forCall (fun _ _=>0) ⟨#[], #[.int .i64 0,.int .i64 0,.slice none 0 0],[]⟩).memory Tryz.f3.params.toList Rows.surdMakesSpec.vars false #[Value.int .i64 0,Value.int .i64 0,Value.slice none 0 0].toList 8=some ([.lit (.int .i64 0),.lit (.int .i64 0),.nil],[],places):=
 ⟨[],by kernel_rfl⟩
theorem lifted (os:Os) (started:os.Started) (H:Type) (enc:TypeId × Value->H) (F:Stop.Interp) :
 ReturnsInHanded {} Tryz.checked os 3 .any ((OpenSpec.ofChange Rows.surdMakesSpec).preRow enc Tryz.prog Tryz.f3 Rows.surdMakesRow.domain false Rows.surdMakesRow.laid) (((OpenSpec.ofChange Rows.surdMakesSpec).at F).post enc Tryz.prog Tryz.f3 false true false false):=by
 obtain ⟨places,hx⟩:=reads os enc
 refine returnsInHanded_of_row (C:=Tryz.checked) (s:=OpenSpec.ofChange Rows.surdMakesSpec) law_own started (by kernel_rfl) Tryz.func3
  (witness_row_at (enc:=enc) (C:=Tryz.checked) false (lE os) #[.int .i64 0,.int .i64 0,.slice none 0 0] rfl (by kernel_rfl) (by kernel_rfl) (by kernel_rfl)
   (OpenSpec.preRow_of_cond 8 hx (by kernel_rfl) (fun k hk=>by cases hk) (by kernel_rfl) (laid_met os))) ?_
 intro W base args ds gs before hval hW _ _ _ hL _ _
 exact contract H enc W base args ds gs before hval hW hL
theorem said:Rows.SurdMakesSaid:=
 OpenClaim.holds_of_cond 3 Tryz.f3 rfl rfl rfl rfl rfl rfl rfl ⟨rfl,rfl,rfl,rfl,rfl⟩ rfl rfl rfl rfl rfl (by kernel_rfl) Tryz.func3 (by kernel_rfl)
  (of_decide_eq_true (by kernel_rfl)) (by unfold Func.isWrapper;first | (rw [if_pos (by decide +kernel)];kernel_rfl) | (rw [if_neg (by decide +kernel)];exact ⟨rfl,rfl⟩))
  (fun os started H enc _ F=>by rw [OpenClaim.pre_eq_preRow];exact lifted os started H enc F)
theorem plain (f : FuncId) (fn : Func) (hf : Tryz.pinned.checked.prog.funcNamed "pellicle/pelliclelaw04.SurdMakes" = some f) (hfn : Tryz.pinned.checked.prog.funcs[f]? = some fn) :
 false=Tryz.pinned.checked.prog.looks [] /\ ∀ (j:Nat) t,fn.params[j]?=some t->Tryz.pinned.checked.prog.wantsStandIn t=false:=by
 obtain rfl : f = 3 := Option.some.inj ((show Tryz.prog.funcNamed "pellicle/pelliclelaw04.SurdMakes" = some 3 by kernel_rfl).symm.trans hf) |>.symm
 obtain rfl:fn=Tryz.f3:=(Option.some.inj (Tryz.func3.symm.trans hfn)).symm
 refine ⟨by kernel_rfl,fun j t ht=>?_⟩
 rw [Tryz.params3] at ht
 have ht2:=Array.mem_of_getElem? ht
 simp at ht2
 first | (rcases ht2 with rfl | rfl | rfl) | (rcases ht2 with rfl | rfl) | subst ht2
 all_goals exact (show Tryz.prog.wantsStandIn _=false by kernel_rfl)
theorem card:Rows.SurdMakesCardSaid:=
 Claim7.holds_tied_plain_at .later [] _ _ _ _ said (fun _ h=>by cases h) (by kernel_rfl) (fun _ h=>by cases h) surdMakes_row_tie rfl ⟨rfl,rfl⟩ (by kernel_rfl) rfl plain (by kernel_rfl)
end Go.Proofs.YtdgdmicbbfoghaaGreatDoor.SurdMakes
