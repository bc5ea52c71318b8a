/- SurdNears: whatever a number and a shift, what is told as the nearest is at most a half away: the law returns true and leaves its arguments. No condition. -/
import Derived.Below
import Derived.BigCall
import Derived.BigQuiet
import Derived.BigRegion
import Derived.ChangeOld
import Derived.Deep.AppendLies
import Derived.Deep.CutBlock
import Derived.Deep.CutRange
import Derived.Deep.DeepCutAuto
import Derived.Deep.DeepHandedRow
import Derived.Deep.LoopGhost
import Derived.Deep.MidRow
import Derived.Deep.QuietTactic
import Derived.Deep.RegionHeld3
import Derived.Deep.RegionLaw
import Derived.Deep.Slices
import Derived.Deep.Strs
import Derived.Deep.WholeRow
import Derived.Laws.AppendOwn
import Derived.Laws.Concat
import Derived.Laws.CopyOwn
import Derived.Laws.CopyRow
import Derived.Laws.Externs
import Derived.Laws.IdiomStrings
import Derived.Lib.BitFns
import Derived.Lib.Bytealg
import Derived.Lib.Hide
import Derived.Lib.LaidTab
import Derived.Lib.Slices
import Derived.Lib.Small
import Derived.Lib.Strings
import Derived.Lib.Walk
import Derived.LoopN
import Derived.Maps.AppendAt
import Derived.OpenShut
import Derived.OrdersHeld
import Derived.OrdersIn
import Derived.Outline
import Derived.OwnWalk
import Derived.ProofKit
import Derived.RangeFuncCalls
import Derived.RangeFuncNested
import Derived.RangeFuncOwn
import Derived.Shelf.Bits.Mul64
import Derived.Shelf.Spec.TrailingZeros
import Derived.StillTailTactics
import Derived.WalkKit
import Derived.WalkLawsBesides
import Derived.WalkSpells
import Derived.WideKeyArgs
import Derived.Test.YtdgdmicbbfoghaaGreatDoorCards
import Derived.Test.YtdgdmicbbfoghaaGreatDoorProg
import Derived.Test.YtdgdmicbbfoghaaGreatDoorRows
import Derived.Test.YtdgdmicbbfoghaaGreatDoorTie
import Derived.Test.YtdgdmicbbfoghaaGreatDoorMf22
set_option linter.unusedVariables false
set_option linter.unusedSimpArgs false
set_option maxRecDepth 100000
namespace Go.Proofs.YtdgdmicbbfoghaaGreatDoor
open Go.RowKit Mat Ex
theorem gt_told {P:Program} {ρ : Operand->Value} {o:Oper} {t t':TypeId} {x y:Operand} {a:Int} {W:World} (b:Bool) (ho:o.op = .binOp .gtr t x y t') (hx : ρ x = .int .i64 a) (hy : ρ y = .int .i64 0) (h:decide (0<a)=b):(execOp ρ o).run P W = .ok (.value (.bool b)) W:=
 A7 ho hx hy (by rw [<- h];rfl)
theorem nR {P:Program} {ρ : Operand->Value} {o:Oper} {t t':TypeId} {x y:Operand} {a:Int} {W:World} (b:Bool) (ho:o.op = .binOp .lss t x y t') (hx : ρ x = .int .i64 a) (hy : ρ y = .int .i64 0) (h:decide (a<0)=b):(execOp ρ o).run P W = .ok (.value (.bool b)) W:=
 A7 ho hx hy (by rw [<- h];rfl)
theorem nT {P:Program} {ρ : Operand->Value} {o:Oper} {t t':TypeId} {x y:Operand} {a:Int} {W:World} (b:Bool) (ho:o.op = .binOp .leq t x y t') (hx : ρ x = .int .i64 a) (hy : ρ y = .int .i64 0) (h:decide (a<=0)=b):(execOp ρ o).run P W = .ok (.value (.bool b)) W:=
 A7 ho hx hy (by rw [<- h];rfl)
theorem eq_told {P:Program} {ρ : Operand->Value} {o:Oper} {t t':TypeId} {x y:Operand} {a c:Int} {W:World} (b:Bool) (ho:o.op = .binOp .eql t x y t') (hx : ρ x = .int .i64 a) (hy : ρ y = .int .i64 c) (h:decide (a=c)=b):(execOp ρ o).run P W = .ok (.value (.bool b)) W:=
 A7 ho hx hy (by rw [<- h,show decide (a=c)=(a == c) from (Bool.beq_eq_decide_eq a c).symm];rfl)
theorem nV {P:Program} {ρ : Operand->Value} {o:Oper} {t t':TypeId} {x y:Operand} {a:Int} {W:World} (b:Bool) (ho:o.op = .binOp .geq t x y t') (hx : ρ x = .int .i64 a) (hy : ρ y = .int .i64 0) (h:decide (0<=a)=b):(execOp ρ o).run P W = .ok (.value (.bool b)) W:=
 A7 ho hx hy (by rw [<- h];rfl)
def sZE (z e:Int):Sp := .of (.tup [(none,0),(some (.int .i64 e),0)]) (fun v _=>v = .tuple #[.int .i64 z,.int .i64 e]) (fun v W h=>⟨P3 [.int .i64 z],F6 (by simp [Value.oneCell']),h⟩) (fun _ _ _ _ h=>h)
theorem toZE {P:Program} {f:FuncId} {args:Array Value} {W:World} {z c:Int} (h:Calls P f args W (oH W z c)):Calls P f args W (Ret W (sZE z c).F):=h.mono fun _ _ ⟨e,g⟩=>⟨_,e,rfl,g⟩
theorem mF {P:Program} {f:FuncId} {args:Array Value} {W:World} {y z c:Int} (e:y=z) (h:Calls P f args W (oH W y c)):Calls P f args W (Ret W (sZE z c).F):=by subst e;exact toZE h
theorem zcmp_self (z:Int):J0 z z=0:=by unfold J0;simp
theorem ze1 {z c:Int} {u v:Value} {W:World} : (sZE z c).F (.tuple #[u,v]) W->u = .int .i64 z:=fun h=>by cases h;rfl
theorem near_is (m n:Nat) (r0 r1 r2 r3:Rat) (K:Nat) (hK : 1<=K/\K<=1900) (b0:Bd1 K r0) (b1:Bd1 K r1) (b2:Bd1 K r2) (b3:Bd1 K r3) (lm:m<B^K) (ln:n<B^K):∃ z:Int,SNear m n r0 r1 r2 r3 z/\z.natAbs<B^(30*(K+2)+12):=by
 have b4:Bd1 (K+2) (r0+1 / 2):=⟨fE b0.1 b0.2 half_bd.1 half_bd.2,fF b0.2 half_bd.2⟩
 obtain ⟨f,hf,lf⟩:=floor_is m n (r0+1 / 2) r1 r2 r3 (K+2) (by omega) b4 (b1.mono (by omega)) (b2.mono (by omega)) (b3.mono (by omega)) (B0 lm (by omega)) (B0 ln (by omega))
 obtain ⟨n1,n2⟩:=near_of hf
 have hB:B^(30*(K+2)+11)+1<B^(30*(K+2)+12):=by
  rw [show B^(30*(K+2)+12)=B^(30*(K+2)+11)*B from Nat.pow_succ _ _]
  have h1 : 0<B^(30*(K+2)+11):=Nat.pow_pos D6
  have h2 : 3<=B:=by unfold B;omega
  have:=Nat.mul_le_mul_left (B^(30*(K+2)+11)) h2
  omega
 by_cases h:sg4 m n (r0+1 / 2-f) r1 r2 r3=0
 · rcases (show f%2=0\/(f-1)%2=0 by omega) with he | he
   · exact ⟨f,n2 h f (.inl rfl) he,by omega⟩
   · exact ⟨f-1,n2 h (f-1) (.inr rfl) he,by omega⟩
 · exact ⟨f,n1 h,by omega⟩
theorem R1 {W:World} {q:Nat} {a b c d:Value} {r:Rat} (h:W.heap[q]?=some (.cells #[a,b,c,d] 30 (0,0))) (hr:RatV W (.agg #[a,b,c,d]) r):QSl W (some ⟨q,0,none⟩) [r].length [r]:=
 ⟨rfl,.inr ⟨q,_,rfl,h,fun i hi=>by
  have:i=0:=by simpa using hi
  subst this
  exact ⟨a,b,c,d,rfl,rfl,rfl,rfl,hr⟩⟩⟩
theorem zsum_b {x y:Int} {K:Nat} (hx:x.natAbs<B^K) (hy:y.natAbs<B^1) (hK : 1<=K):(x+y).natAbs<B^(K+1):=by
 have h1:B^1<=B^K:=Nat.pow_le_pow_right D6 hK
 have h2 : 2<=B:=by unfold B;omega
 have h3:=Nat.mul_le_mul_left (B^K) h2
 rw [Nat.pow_succ];omega
set_option maxHeartbeats 4000000 in
theorem SNears_main (w:World) (va:Value) (m n:Nat) ( by0:Int) (l:List ByteArray) (Ha:NmV w.heap.size w va m n l) (hb1 : -9223372036854775808<=by0) (hb2:by0<=9223372036854775807) (hm:(-9223372036854775808<=(m:Int)/\(m:Int)<=9223372036854775807)) (hn:(-9223372036854775808<=(n:Int)/\(n:Int)<=9223372036854775807)) (hTab:Tab w) (k1:mOK m n l) :
 Calls Tryz.prog 8 #[va,.int .i64 by0] w (fun e w'=>e = .returned (.bool true)/\w.grownBy w' none):=by
 have lm:m<B^2:=by have:=N9 hm.1 hm.2;rwa [Int.natAbs_natCast] at this
 have ln:n<B^2:=by have:=N9 hn.1 hn.2;rwa [Int.natAbs_natCast] at this
 obtain ⟨a0,ea0⟩:∃ x,pv l 0=x:=⟨_,rfl⟩
 obtain ⟨a1,ea1⟩:∃ x,pv l 1=x:=⟨_,rfl⟩
 obtain ⟨a2,ea2⟩:∃ x,pv l 2=x:=⟨_,rfl⟩
 obtain ⟨a3,ea3⟩:∃ x,pv l 3=x:=⟨_,rfl⟩
 have ba0:Bd1 2 a0:=ea0 ▸ pv_bd k1.2.2.2 0
 have ba1:Bd1 2 a1:=ea1 ▸ pv_bd k1.2.2.2 1
 have ba2:Bd1 2 a2:=ea2 ▸ pv_bd k1.2.2.2 2
 have ba3:Bd1 2 a3:=ea3 ▸ pv_bd k1.2.2.2 3
 obtain ⟨N0,hN0,lN⟩:∃ z:Int,SNear m n a0 a1 a2 a3 z/\z.natAbs<B^132:=near_is m n a0 a1 a2 a3 2 (by omega) ba0 ba1 ba2 ba3 lm ln
 have bup:Bd1 134 ((N0:Rat)+1 / 2):=(G9 (B8 (E:=132) (by omega) lN) half_bd).mono (by omega)
 have bdn:Bd1 134 ((N0:Rat)-1 / 2):=by rw [Rat.sub_eq_add_neg];exact (G9 (B8 (E:=132) (by omega) lN) half_bd.neg).mono (by omega)
 have lb:by0.natAbs<B^1:=by unfold B;omega
 have lbb:(by0+by0).natAbs<B^2:=by unfold B;omega
 have bby:Bd1 3 (((by0+by0:Int)):Rat):=(B8 (E:=2) (by omega) lbb).mono (by omega)
 have bmv:Bd1 7 (a0+((by0+by0:Int):Rat)):=(G9 ba0 bby).mono (by omega)
 have lN1:(N0+by0).natAbs<B^133:=zsum_b lN lb (by omega)
 have lN3:(N0+by0+by0).natAbs<B^135:=B0 (zsum_b lN1 lb (by omega):_<B^134) (by omega)
 have lN2:(N0+(by0+by0)).natAbs<B^135:=by rw [<- Int.add_assoc];exact lN3
 have hup:sg4 m n (a0 + -((N0:Rat)+1 / 2)) (a1 + -0) (a2 + -0) (a3 + -0)=sg4 m n (a0-N0-1 / 2) a1 a2 a3:=by rw [show a0 + -((N0:Rat)+1 / 2)=a0-N0-1 / 2 by grind,show a1 + -0=a1 by grind,show a2 + -0=a2 by grind,show a3 + -0=a3 by grind]
 have hdn:sg4 m n (a0 + -((N0:Rat)-1 / 2)) (a1 + -0) (a2 + -0) (a3 + -0)=sg4 m n (a0-N0+1 / 2) a1 a2 a3:=by rw [show a0 + -((N0:Rat)-1 / 2)=a0-N0+1 / 2 by grind,show a1 + -0=a1 by grind,show a2 + -0=a2 by grind,show a3 + -0=a3 by grind]
 have hN:=hN0
 obtain ⟨n1,n2,n3⟩:=hN
 have t1:=nO m n (a0-N0-1 / 2) a1 a2 a3
 have t2:=nO m n (a0-N0+1 / 2) a1 a2 a3
 rcases (show (sg4 m n (a0-N0-1 / 2) a1 a2 a3 = -1/\sg4 m n (a0-N0+1 / 2) a1 a2 a3=1)\/(sg4 m n (a0-N0-1 / 2) a1 a2 a3 = -1/\sg4 m n (a0-N0+1 / 2) a1 a2 a3=0)\/(sg4 m n (a0-N0-1 / 2) a1 a2 a3=0/\sg4 m n (a0-N0+1 / 2) a1 a2 a3=1)\/(sg4 m n (a0-N0-1 / 2) a1 a2 a3=0/\sg4 m n (a0-N0+1 / 2) a1 a2 a3=0) by omega) with ⟨q1,q2⟩ | ⟨q1,q2⟩ | ⟨q1,q2⟩ | ⟨q1,q2⟩
 · skip
   have hi:=hup.trans q1
   have hj:=hdn.trans q2
   refine A4 B6 Tryz.func8 [sNm w.heap.size m n l,sZ by0] [sMd m n a0 a1 a2 a3,sV (.bool true),sI N0,sII m n,sII m n,sQE (1 / 2) 0,sQ (N0:Rat),sQ (N0+1 / 2),X8 m n (N0+1 / 2) 0 0 0 0,sQ (N0:Rat),sQ (N0-1 / 2),X8 m n (N0-1 / 2) 0 0 0 0,sZE (-1) 0,sZE 1 0,sI 2,kY (N0 / 2) (N0%2) 0,sI by0,sI by0,sI (by0+by0),sQ ((by0+by0:Int):Rat),X8 m n ((by0+by0:Int):Rat) 0 0 0 0,X8 m n (a0+((by0+by0:Int):Rat)) a1 a2 a3 0,sV (.bool true),sV (.bool true),sV (.bool true),sV (.bool true),sI (N0+(by0+by0)),sI by0,sI (N0+by0),sI by0,sI (N0+by0+by0),sZ 0,sV (.bool true)] (.cons Ha (.cons rfl .nil)) (rs:=[cl 2 19 [ag 3 0],cl 3 12 [],cl 4 34 [ag 20 2],cl 5 17 [ag 20 2],cl 6 17 [ag 20 2],cl 7 41 [.v false [.lit (.int .i64 1)],.v false [.lit (.int .i64 2)]],cl 8 9 [ag 2 4],cl 9 42 [ag 4 8,ag 4 7],clb 10 11 [ag 2 5,.v true [.an 6 2,.an 6 3],.v false [.row 9 0 1 1]] [0,1,2,3,4,5,6,7,8,9] [(9,30,[.an 9 0,.an 9 1,.an 9 2,.an 9 3])],cl 11 9 [ag 2 4],cl 12 43 [ag 4 11,ag 4 7],clb 13 11 [ag 2 5,.v true [.an 6 2,.an 6 3],.v false [.row 11 0 1 1]] [0,1,2,3,4,5,6,7,8,9,10,11,12] [(11,30,[.an 12 0,.an 12 1,.an 12 2,.an 12 3])],cl 14 24 [ag 20 2,ag 20 10],cl 15 24 [ag 20 2,ag 20 13],cl 16 10 [.v false [.lit (.int .i64 2)]],cl 17 44 [ag 2 4,ag 2 16],cl 18 10 [on 1],cl 19 10 [on 1],cl 20 45 [ag 2 18,ag 2 19],cl 21 9 [ag 2 20],clb 22 11 [ag 2 5,.v true [.an 6 2,.an 6 3],.v false [.row 15 0 1 1]] [0,1,2,3,4,5,6,7,8,9,10,11,12,13,14,15,16,17,18,19,20,21] [(15,30,[.an 21 0,.an 21 1,.an 21 2,.an 21 3])],cl 23 21 [ag 20 2,ag 20 22],co 24 (.binOp .leq 3 (.tmp 119) (.const (.int .i64 0)) 3) 4 [on 14,.v false [.lit (.int .i64 0)]] [0,1,2,3,4,5,6,7,8,9,10,11,12,13,14,15,16,17,18,19,20,21,22,23] [],co 25 (.binOp .geq 3 (.tmp 122) (.const (.int .i64 0)) 3) 4 [on 15,.v false [.lit (.int .i64 0)]] [0,1,2,3,4,5,6,7,8,9,10,11,12,13,14,15,16,17,18,19,20,21,22,23,24] [],co 26 (.binOp .lss 3 (.tmp 126) (.const (.int .i64 0)) 3) 4 [on 14,.v false [.lit (.int .i64 0)]] [0,1,2,3,4,5,6,7,8,9,10,11,12,13,14,15,16,17,18,19,20,21,22,23,24,25] [],co 27 (.binOp .gtr 3 (.tmp 129) (.const (.int .i64 0)) 3) 4 [on 15,.v false [.lit (.int .i64 0)]] [0,1,2,3,4,5,6,7,8,9,10,11,12,13,14,15,16,17,18,19,20,21,22,23,24,25,26] [],cl 28 34 [ag 20 23],cl 29 10 [on 1],cl 30 45 [ag 2 4,ag 2 29],cl 31 10 [on 1],cl 32 45 [ag 2 30,ag 2 31],cl 33 18 [ag 2 28,ag 2 32],co 34 (.binOp .eql 3 (.tmp 148) (.const (.int .i64 0)) 3) 4 [on 33,.v false [.lit (.int .i64 0)]] [0,1,2,3,4,5,6,7,8,9,10,11,12,13,14,15,16,17,18,19,20,21,22,23,24,25,26,27,28,29,30,31,32,33] []]) (out := .v false [.lit (.bool true)]) (nc:=35) (by kernel_rfl)
    ⟨fun σ W g h hb=>kS (L8 W _ m n l ((h 0 rfl).wide g.size) hm hn (hTab.kept g (by simp)) k1 ea0 ea1 ea2 ea3),
    fun σ W g h hb=>toV (K0 W (hTab.kept g (by simp))) rfl,
    fun σ W g h hb=>P8 W _ m n a0 a1 a2 a3 2 (md1 (h 2 rfl)) (by omega) (ba0.mono (by omega)) (ba1.mono (by omega)) (ba2.mono (by omega)) (ba3.mono (by omega)) lm ln (hTab.kept g (by simp)) N0 hN0,
    fun σ W g h hb=>jC (P4 W _ m n a0 a1 a2 a3 2 (md1 (h 2 rfl)) (by omega) (wB 2 lm) (wB 2 ln)),
    fun σ W g h hb=>jC (P4 W _ m n a0 a1 a2 a3 2 (md1 (h 2 rfl)) (by omega) (wB 2 lm) (wB 2 ln)),
    fun σ W g h hb=>toQE (by rw [<- bT];exact gQ W 1 2 (by omega) (by omega) (by omega) (by omega) (hTab.kept g (by simp))) (by rw [if_neg (by decide)]),
    fun σ W g h hb=>B2 W _ N0 132 (h 4 rfl) (by omega) lN,
    fun σ W g h hb=>F4 W _ _ (N0:Rat) (1 / 2) 132 (h 8 rfl) (qE (h 7 rfl)) (by omega) (D5 (by omega) lN).1 (D5 (by omega) lN).2 (half_bd.mono (by omega)).1 (half_bd.mono (by omega)).2 (hTab.kept g (by simp)),
    fun σ W g h hb=>Q0 (O4 W _ _ _ 1 m n [(N0+1 / 2)] 134 (ii1 (h 5 rfl)) (ii2 (h 6 rfl)) (R1 (hb.1 _ (.head _)) (h 9 rfl)) (by simp) (by omega) (wB 134 lm) (wB 134 ln) (by omega) (by omega) (fun x hx=>by rw [List.mem_singleton.1 hx];exact bup) (hTab.kept g (by simp))),
    fun σ W g h hb=>B2 W _ N0 132 (h 4 rfl) (by omega) lN,
    fun σ W g h hb=>fC W _ _ (N0:Rat) (1 / 2) 132 (h 11 rfl) (qE (h 7 rfl)) (by omega) (D5 (by omega) lN).1 (D5 (by omega) lN).2 (half_bd.mono (by omega)).1 (half_bd.mono (by omega)).2 (hTab.kept g (by simp)),
    fun σ W g h hb=>Q0 (O4 W _ _ _ 1 m n [(N0-1 / 2)] 134 (ii1 (h 5 rfl)) (ii2 (h 6 rfl)) (R1 (hb.1 _ (.head _)) (h 12 rfl)) (by simp) (by omega) (wB 134 lm) (wB 134 ln) (by omega) (by omega) (fun x hx=>by rw [List.mem_singleton.1 hx];exact bdn) (hTab.kept g (by simp))),
    fun σ W g h hb=>mF hi (P9 W _ _ m n m n a0 a1 a2 a3 (N0+1 / 2) 0 0 0 134 (md1 (h 2 rfl)) (sdE (h 10 rfl)) (by omega) (B0 lm (by omega)) (B0 ln (by omega)) (B0 lm (by omega)) (B0 ln (by omega)) ⟨ba0.mono (by omega),bup⟩ ⟨ba1.mono (by omega),B7 (by omega)⟩ ⟨ba2.mono (by omega),B7 (by omega)⟩ ⟨ba3.mono (by omega),B7 (by omega)⟩ ⟨rfl,rfl⟩ (hTab.kept g (by simp))),
    fun σ W g h hb=>mF hj (P9 W _ _ m n m n a0 a1 a2 a3 (N0-1 / 2) 0 0 0 134 (md1 (h 2 rfl)) (sdE (h 13 rfl)) (by omega) (B0 lm (by omega)) (B0 ln (by omega)) (B0 lm (by omega)) (B0 ln (by omega)) ⟨ba0.mono (by omega),bdn⟩ ⟨ba1.mono (by omega),B7 (by omega)⟩ ⟨ba2.mono (by omega),B7 (by omega)⟩ ⟨ba3.mono (by omega),B7 (by omega)⟩ ⟨rfl,rfl⟩ (hTab.kept g (by simp))),
    fun σ W g h hb=>C5 W 2 (by omega) (by omega),
    fun σ W g h hb=>gX (K6 W _ _ N0 2 132 (h 4 rfl) (h 16 rfl) (by omega) lN (B0 (K:=1) (by unfold B;decide) (by omega)) (by decide)) rfl,
    fun σ W g h hb=>W8 (congrArg (fun v=>[v]) (h 1 rfl)) (C5 W by0 hb1 hb2),
    fun σ W g h hb=>W8 (congrArg (fun v=>[v]) (h 1 rfl)) (C5 W by0 hb1 hb2),
    fun σ W g h hb=>D7 W _ _ by0 by0 1 (h 18 rfl) (h 19 rfl) (by omega) lb lb,
    fun σ W g h hb=>B2 W _ (by0+by0) 2 (h 20 rfl) (by omega) lbb,
    fun σ W g h hb=>Q0 (O4 W _ _ _ 1 m n [((by0+by0:Int):Rat)] 3 (ii1 (h 5 rfl)) (ii2 (h 6 rfl)) (R1 (hb.1 _ (.head _)) (h 21 rfl)) (by simp) (by omega) (wB 3 lm) (wB 3 ln) (by omega) (by omega) (fun x hx=>by rw [List.mem_singleton.1 hx];exact bby) (hTab.kept g (by simp))),
    fun σ W g h hb=>Q0 (oE W _ _ m n m n a0 a1 a2 a3 ((by0+by0:Int):Rat) 0 0 0 3 (md1 (h 2 rfl)) (sdE (h 22 rfl)) (by omega) (wB 3 lm) (wB 3 ln) (wB 3 lm) (wB 3 ln) ⟨ba0.mono (by omega),bby⟩ ⟨ba1.mono (by omega),B7 (by omega)⟩ ⟨ba2.mono (by omega),B7 (by omega)⟩ ⟨ba3.mono (by omega),B7 (by omega)⟩ ⟨rfl,rfl⟩ (hTab.kept g (by simp)) rfl (Rat.add_zero _) (Rat.add_zero _) (Rat.add_zero _)),
    fun σ W g h hb=>fun ρ o ho _ hv=>⟨_,nT true ho ((A1 hv).1.trans (ze1 (h 14 rfl))) (A1 hv).2 (decide_eq_true (by decide)),rfl⟩,
    fun σ W g h hb=>fun ρ o ho _ hv=>⟨_,nV true ho ((A1 hv).1.trans (ze1 (h 15 rfl))) (A1 hv).2 (decide_eq_true (by decide)),rfl⟩,
    fun σ W g h hb=>fun ρ o ho _ hv=>⟨_,nR true ho ((A1 hv).1.trans (ze1 (h 14 rfl))) (A1 hv).2 (decide_eq_true (by decide)),rfl⟩,
    fun σ W g h hb=>fun ρ o ho _ hv=>⟨_,gt_told true ho ((A1 hv).1.trans (ze1 (h 15 rfl))) (A1 hv).2 (decide_eq_true (by decide)),rfl⟩,
    fun σ W g h hb=>P8 W _ m n (a0+((by0+by0:Int):Rat)) a1 a2 a3 7 (sdE (h 23 rfl)) (by omega) (bmv.mono (by omega)) (ba1.mono (by omega)) (ba2.mono (by omega)) (ba3.mono (by omega)) (B0 lm (by omega)) (B0 ln (by omega)) (hTab.kept g (by simp)) _ (hN0.shift (by0+by0) (by omega)),
    fun σ W g h hb=>W8 (congrArg (fun v=>[v]) (h 1 rfl)) (C5 W by0 hb1 hb2),
    fun σ W g h hb=>D7 W _ _ N0 by0 132 (h 4 rfl) (h 29 rfl) (by omega) lN (B0 lb (by omega)),
    fun σ W g h hb=>W8 (congrArg (fun v=>[v]) (h 1 rfl)) (C5 W by0 hb1 hb2),
    fun σ W g h hb=>D7 W _ _ (N0+by0) by0 133 (h 30 rfl) (h 31 rfl) (by omega) lN1 (B0 lb (by omega)),
    fun σ W g h hb=>toZ (G6 W _ _ _ _ 135 (h 28 rfl) (h 32 rfl) (by omega) lN2 lN3) (by rw [Int.add_assoc];exact zcmp_self _),
    fun σ W g h hb=>fun ρ o ho _ hv=>⟨_,eq_told true ho ((A1 hv).1.trans (h 33 rfl)) (A1 hv).2 (decide_eq_true rfl),rfl⟩,
    trivial⟩ fun τ W g h=>⟨rfl,g⟩
 · skip
   have hi:=hup.trans q1
   have hj:=hdn.trans q2
   have hev:N0%2=0:=n3 (by omega)
   refine A4 B6 Tryz.func8 [sNm w.heap.size m n l,sZ by0] [sMd m n a0 a1 a2 a3,sV (.bool true),sI N0,sII m n,sII m n,sQE (1 / 2) 0,sQ (N0:Rat),sQ (N0+1 / 2),X8 m n (N0+1 / 2) 0 0 0 0,sQ (N0:Rat),sQ (N0-1 / 2),X8 m n (N0-1 / 2) 0 0 0 0,sZE (-1) 0,sZE 0 0,sI 2,kY (N0 / 2) (N0%2) 0,sI by0,sI by0,sI (by0+by0),sQ ((by0+by0:Int):Rat),X8 m n ((by0+by0:Int):Rat) 0 0 0 0,X8 m n (a0+((by0+by0:Int):Rat)) a1 a2 a3 0,sV (.bool true),sV (.bool true),sV (.bool true),sV (.bool false),sZ 0,sV (.bool true),sI (N0+(by0+by0)),sI by0,sI (N0+by0),sI by0,sI (N0+by0+by0),sZ 0,sV (.bool true)] (.cons Ha (.cons rfl .nil)) (rs:=[cl 2 19 [ag 3 0],cl 3 12 [],cl 4 34 [ag 20 2],cl 5 17 [ag 20 2],cl 6 17 [ag 20 2],cl 7 41 [.v false [.lit (.int .i64 1)],.v false [.lit (.int .i64 2)]],cl 8 9 [ag 2 4],cl 9 42 [ag 4 8,ag 4 7],clb 10 11 [ag 2 5,.v true [.an 6 2,.an 6 3],.v false [.row 9 0 1 1]] [0,1,2,3,4,5,6,7,8,9] [(9,30,[.an 9 0,.an 9 1,.an 9 2,.an 9 3])],cl 11 9 [ag 2 4],cl 12 43 [ag 4 11,ag 4 7],clb 13 11 [ag 2 5,.v true [.an 6 2,.an 6 3],.v false [.row 11 0 1 1]] [0,1,2,3,4,5,6,7,8,9,10,11,12] [(11,30,[.an 12 0,.an 12 1,.an 12 2,.an 12 3])],cl 14 24 [ag 20 2,ag 20 10],cl 15 24 [ag 20 2,ag 20 13],cl 16 10 [.v false [.lit (.int .i64 2)]],cl 17 44 [ag 2 4,ag 2 16],cl 18 10 [on 1],cl 19 10 [on 1],cl 20 45 [ag 2 18,ag 2 19],cl 21 9 [ag 2 20],clb 22 11 [ag 2 5,.v true [.an 6 2,.an 6 3],.v false [.row 15 0 1 1]] [0,1,2,3,4,5,6,7,8,9,10,11,12,13,14,15,16,17,18,19,20,21] [(15,30,[.an 21 0,.an 21 1,.an 21 2,.an 21 3])],cl 23 21 [ag 20 2,ag 20 22],co 24 (.binOp .leq 3 (.tmp 119) (.const (.int .i64 0)) 3) 4 [on 14,.v false [.lit (.int .i64 0)]] [0,1,2,3,4,5,6,7,8,9,10,11,12,13,14,15,16,17,18,19,20,21,22,23] [],co 25 (.binOp .geq 3 (.tmp 122) (.const (.int .i64 0)) 3) 4 [on 15,.v false [.lit (.int .i64 0)]] [0,1,2,3,4,5,6,7,8,9,10,11,12,13,14,15,16,17,18,19,20,21,22,23,24] [],co 26 (.binOp .lss 3 (.tmp 126) (.const (.int .i64 0)) 3) 4 [on 14,.v false [.lit (.int .i64 0)]] [0,1,2,3,4,5,6,7,8,9,10,11,12,13,14,15,16,17,18,19,20,21,22,23,24,25] [],co 27 (.binOp .gtr 3 (.tmp 129) (.const (.int .i64 0)) 3) 4 [on 15,.v false [.lit (.int .i64 0)]] [0,1,2,3,4,5,6,7,8,9,10,11,12,13,14,15,16,17,18,19,20,21,22,23,24,25,26] [],cl 28 46 [.v true [.an 17 2,.an 17 3]],co 29 (.binOp .eql 3 (.tmp 134) (.const (.int .i64 0)) 3) 4 [on 28,.v false [.lit (.int .i64 0)]] [0,1,2,3,4,5,6,7,8,9,10,11,12,13,14,15,16,17,18,19,20,21,22,23,24,25,26,27,28] [],cl 30 34 [ag 20 23],cl 31 10 [on 1],cl 32 45 [ag 2 4,ag 2 31],cl 33 10 [on 1],cl 34 45 [ag 2 32,ag 2 33],cl 35 18 [ag 2 30,ag 2 34],co 36 (.binOp .eql 3 (.tmp 148) (.const (.int .i64 0)) 3) 4 [on 35,.v false [.lit (.int .i64 0)]] [0,1,2,3,4,5,6,7,8,9,10,11,12,13,14,15,16,17,18,19,20,21,22,23,24,25,26,27,28,29,30,31,32,33,34,35] []]) (out := .v false [.lit (.bool true)]) (nc:=37) (by kernel_rfl)
    ⟨fun σ W g h hb=>kS (L8 W _ m n l ((h 0 rfl).wide g.size) hm hn (hTab.kept g (by simp)) k1 ea0 ea1 ea2 ea3),
    fun σ W g h hb=>toV (K0 W (hTab.kept g (by simp))) rfl,
    fun σ W g h hb=>P8 W _ m n a0 a1 a2 a3 2 (md1 (h 2 rfl)) (by omega) (ba0.mono (by omega)) (ba1.mono (by omega)) (ba2.mono (by omega)) (ba3.mono (by omega)) lm ln (hTab.kept g (by simp)) N0 hN0,
    fun σ W g h hb=>jC (P4 W _ m n a0 a1 a2 a3 2 (md1 (h 2 rfl)) (by omega) (wB 2 lm) (wB 2 ln)),
    fun σ W g h hb=>jC (P4 W _ m n a0 a1 a2 a3 2 (md1 (h 2 rfl)) (by omega) (wB 2 lm) (wB 2 ln)),
    fun σ W g h hb=>toQE (by rw [<- bT];exact gQ W 1 2 (by omega) (by omega) (by omega) (by omega) (hTab.kept g (by simp))) (by rw [if_neg (by decide)]),
    fun σ W g h hb=>B2 W _ N0 132 (h 4 rfl) (by omega) lN,
    fun σ W g h hb=>F4 W _ _ (N0:Rat) (1 / 2) 132 (h 8 rfl) (qE (h 7 rfl)) (by omega) (D5 (by omega) lN).1 (D5 (by omega) lN).2 (half_bd.mono (by omega)).1 (half_bd.mono (by omega)).2 (hTab.kept g (by simp)),
    fun σ W g h hb=>Q0 (O4 W _ _ _ 1 m n [(N0+1 / 2)] 134 (ii1 (h 5 rfl)) (ii2 (h 6 rfl)) (R1 (hb.1 _ (.head _)) (h 9 rfl)) (by simp) (by omega) (wB 134 lm) (wB 134 ln) (by omega) (by omega) (fun x hx=>by rw [List.mem_singleton.1 hx];exact bup) (hTab.kept g (by simp))),
    fun σ W g h hb=>B2 W _ N0 132 (h 4 rfl) (by omega) lN,
    fun σ W g h hb=>fC W _ _ (N0:Rat) (1 / 2) 132 (h 11 rfl) (qE (h 7 rfl)) (by omega) (D5 (by omega) lN).1 (D5 (by omega) lN).2 (half_bd.mono (by omega)).1 (half_bd.mono (by omega)).2 (hTab.kept g (by simp)),
    fun σ W g h hb=>Q0 (O4 W _ _ _ 1 m n [(N0-1 / 2)] 134 (ii1 (h 5 rfl)) (ii2 (h 6 rfl)) (R1 (hb.1 _ (.head _)) (h 12 rfl)) (by simp) (by omega) (wB 134 lm) (wB 134 ln) (by omega) (by omega) (fun x hx=>by rw [List.mem_singleton.1 hx];exact bdn) (hTab.kept g (by simp))),
    fun σ W g h hb=>mF hi (P9 W _ _ m n m n a0 a1 a2 a3 (N0+1 / 2) 0 0 0 134 (md1 (h 2 rfl)) (sdE (h 10 rfl)) (by omega) (B0 lm (by omega)) (B0 ln (by omega)) (B0 lm (by omega)) (B0 ln (by omega)) ⟨ba0.mono (by omega),bup⟩ ⟨ba1.mono (by omega),B7 (by omega)⟩ ⟨ba2.mono (by omega),B7 (by omega)⟩ ⟨ba3.mono (by omega),B7 (by omega)⟩ ⟨rfl,rfl⟩ (hTab.kept g (by simp))),
    fun σ W g h hb=>mF hj (P9 W _ _ m n m n a0 a1 a2 a3 (N0-1 / 2) 0 0 0 134 (md1 (h 2 rfl)) (sdE (h 13 rfl)) (by omega) (B0 lm (by omega)) (B0 ln (by omega)) (B0 lm (by omega)) (B0 ln (by omega)) ⟨ba0.mono (by omega),bdn⟩ ⟨ba1.mono (by omega),B7 (by omega)⟩ ⟨ba2.mono (by omega),B7 (by omega)⟩ ⟨ba3.mono (by omega),B7 (by omega)⟩ ⟨rfl,rfl⟩ (hTab.kept g (by simp))),
    fun σ W g h hb=>C5 W 2 (by omega) (by omega),
    fun σ W g h hb=>gX (K6 W _ _ N0 2 132 (h 4 rfl) (h 16 rfl) (by omega) lN (B0 (K:=1) (by unfold B;decide) (by omega)) (by decide)) rfl,
    fun σ W g h hb=>W8 (congrArg (fun v=>[v]) (h 1 rfl)) (C5 W by0 hb1 hb2),
    fun σ W g h hb=>W8 (congrArg (fun v=>[v]) (h 1 rfl)) (C5 W by0 hb1 hb2),
    fun σ W g h hb=>D7 W _ _ by0 by0 1 (h 18 rfl) (h 19 rfl) (by omega) lb lb,
    fun σ W g h hb=>B2 W _ (by0+by0) 2 (h 20 rfl) (by omega) lbb,
    fun σ W g h hb=>Q0 (O4 W _ _ _ 1 m n [((by0+by0:Int):Rat)] 3 (ii1 (h 5 rfl)) (ii2 (h 6 rfl)) (R1 (hb.1 _ (.head _)) (h 21 rfl)) (by simp) (by omega) (wB 3 lm) (wB 3 ln) (by omega) (by omega) (fun x hx=>by rw [List.mem_singleton.1 hx];exact bby) (hTab.kept g (by simp))),
    fun σ W g h hb=>Q0 (oE W _ _ m n m n a0 a1 a2 a3 ((by0+by0:Int):Rat) 0 0 0 3 (md1 (h 2 rfl)) (sdE (h 22 rfl)) (by omega) (wB 3 lm) (wB 3 ln) (wB 3 lm) (wB 3 ln) ⟨ba0.mono (by omega),bby⟩ ⟨ba1.mono (by omega),B7 (by omega)⟩ ⟨ba2.mono (by omega),B7 (by omega)⟩ ⟨ba3.mono (by omega),B7 (by omega)⟩ ⟨rfl,rfl⟩ (hTab.kept g (by simp)) rfl (Rat.add_zero _) (Rat.add_zero _) (Rat.add_zero _)),
    fun σ W g h hb=>fun ρ o ho _ hv=>⟨_,nT true ho ((A1 hv).1.trans (ze1 (h 14 rfl))) (A1 hv).2 (decide_eq_true (by decide)),rfl⟩,
    fun σ W g h hb=>fun ρ o ho _ hv=>⟨_,nV true ho ((A1 hv).1.trans (ze1 (h 15 rfl))) (A1 hv).2 (decide_eq_true (by decide)),rfl⟩,
    fun σ W g h hb=>fun ρ o ho _ hv=>⟨_,nR true ho ((A1 hv).1.trans (ze1 (h 14 rfl))) (A1 hv).2 (decide_eq_true (by decide)),rfl⟩,
    fun σ W g h hb=>fun ρ o ho _ hv=>⟨_,gt_told false ho ((A1 hv).1.trans (ze1 (h 15 rfl))) (A1 hv).2 (decide_eq_false (by decide)),rfl⟩,
    fun σ W g h hb=>toZ (D3 W _ (N0%2) 132 (iiE2 (h 17 rfl)) (by omega) (by rw [hev];exact Nat.pow_pos D6)) (by rw [hev];rfl),
    fun σ W g h hb=>fun ρ o ho _ hv=>⟨_,eq_told true ho ((A1 hv).1.trans (h 28 rfl)) (A1 hv).2 (decide_eq_true rfl),rfl⟩,
    fun σ W g h hb=>P8 W _ m n (a0+((by0+by0:Int):Rat)) a1 a2 a3 7 (sdE (h 23 rfl)) (by omega) (bmv.mono (by omega)) (ba1.mono (by omega)) (ba2.mono (by omega)) (ba3.mono (by omega)) (B0 lm (by omega)) (B0 ln (by omega)) (hTab.kept g (by simp)) _ (hN0.shift (by0+by0) (by omega)),
    fun σ W g h hb=>W8 (congrArg (fun v=>[v]) (h 1 rfl)) (C5 W by0 hb1 hb2),
    fun σ W g h hb=>D7 W _ _ N0 by0 132 (h 4 rfl) (h 31 rfl) (by omega) lN (B0 lb (by omega)),
    fun σ W g h hb=>W8 (congrArg (fun v=>[v]) (h 1 rfl)) (C5 W by0 hb1 hb2),
    fun σ W g h hb=>D7 W _ _ (N0+by0) by0 133 (h 32 rfl) (h 33 rfl) (by omega) lN1 (B0 lb (by omega)),
    fun σ W g h hb=>toZ (G6 W _ _ _ _ 135 (h 30 rfl) (h 34 rfl) (by omega) lN2 lN3) (by rw [Int.add_assoc];exact zcmp_self _),
    fun σ W g h hb=>fun ρ o ho _ hv=>⟨_,eq_told true ho ((A1 hv).1.trans (h 35 rfl)) (A1 hv).2 (decide_eq_true rfl),rfl⟩,
    trivial⟩ fun τ W g h=>⟨rfl,g⟩
 · skip
   have hi:=hup.trans q1
   have hj:=hdn.trans q2
   have hev:N0%2=0:=n3 (by omega)
   refine A4 B6 Tryz.func8 [sNm w.heap.size m n l,sZ by0] [sMd m n a0 a1 a2 a3,sV (.bool true),sI N0,sII m n,sII m n,sQE (1 / 2) 0,sQ (N0:Rat),sQ (N0+1 / 2),X8 m n (N0+1 / 2) 0 0 0 0,sQ (N0:Rat),sQ (N0-1 / 2),X8 m n (N0-1 / 2) 0 0 0 0,sZE 0 0,sZE 1 0,sI 2,kY (N0 / 2) (N0%2) 0,sI by0,sI by0,sI (by0+by0),sQ ((by0+by0:Int):Rat),X8 m n ((by0+by0:Int):Rat) 0 0 0 0,X8 m n (a0+((by0+by0:Int):Rat)) a1 a2 a3 0,sV (.bool true),sV (.bool true),sV (.bool false),sZ 0,sV (.bool true),sI (N0+(by0+by0)),sI by0,sI (N0+by0),sI by0,sI (N0+by0+by0),sZ 0,sV (.bool true)] (.cons Ha (.cons rfl .nil)) (rs:=[cl 2 19 [ag 3 0],cl 3 12 [],cl 4 34 [ag 20 2],cl 5 17 [ag 20 2],cl 6 17 [ag 20 2],cl 7 41 [.v false [.lit (.int .i64 1)],.v false [.lit (.int .i64 2)]],cl 8 9 [ag 2 4],cl 9 42 [ag 4 8,ag 4 7],clb 10 11 [ag 2 5,.v true [.an 6 2,.an 6 3],.v false [.row 9 0 1 1]] [0,1,2,3,4,5,6,7,8,9] [(9,30,[.an 9 0,.an 9 1,.an 9 2,.an 9 3])],cl 11 9 [ag 2 4],cl 12 43 [ag 4 11,ag 4 7],clb 13 11 [ag 2 5,.v true [.an 6 2,.an 6 3],.v false [.row 11 0 1 1]] [0,1,2,3,4,5,6,7,8,9,10,11,12] [(11,30,[.an 12 0,.an 12 1,.an 12 2,.an 12 3])],cl 14 24 [ag 20 2,ag 20 10],cl 15 24 [ag 20 2,ag 20 13],cl 16 10 [.v false [.lit (.int .i64 2)]],cl 17 44 [ag 2 4,ag 2 16],cl 18 10 [on 1],cl 19 10 [on 1],cl 20 45 [ag 2 18,ag 2 19],cl 21 9 [ag 2 20],clb 22 11 [ag 2 5,.v true [.an 6 2,.an 6 3],.v false [.row 15 0 1 1]] [0,1,2,3,4,5,6,7,8,9,10,11,12,13,14,15,16,17,18,19,20,21] [(15,30,[.an 21 0,.an 21 1,.an 21 2,.an 21 3])],cl 23 21 [ag 20 2,ag 20 22],co 24 (.binOp .leq 3 (.tmp 119) (.const (.int .i64 0)) 3) 4 [on 14,.v false [.lit (.int .i64 0)]] [0,1,2,3,4,5,6,7,8,9,10,11,12,13,14,15,16,17,18,19,20,21,22,23] [],co 25 (.binOp .geq 3 (.tmp 122) (.const (.int .i64 0)) 3) 4 [on 15,.v false [.lit (.int .i64 0)]] [0,1,2,3,4,5,6,7,8,9,10,11,12,13,14,15,16,17,18,19,20,21,22,23,24] [],co 26 (.binOp .lss 3 (.tmp 126) (.const (.int .i64 0)) 3) 4 [on 14,.v false [.lit (.int .i64 0)]] [0,1,2,3,4,5,6,7,8,9,10,11,12,13,14,15,16,17,18,19,20,21,22,23,24,25] [],cl 27 46 [.v true [.an 17 2,.an 17 3]],co 28 (.binOp .eql 3 (.tmp 134) (.const (.int .i64 0)) 3) 4 [on 27,.v false [.lit (.int .i64 0)]] [0,1,2,3,4,5,6,7,8,9,10,11,12,13,14,15,16,17,18,19,20,21,22,23,24,25,26,27] [],cl 29 34 [ag 20 23],cl 30 10 [on 1],cl 31 45 [ag 2 4,ag 2 30],cl 32 10 [on 1],cl 33 45 [ag 2 31,ag 2 32],cl 34 18 [ag 2 29,ag 2 33],co 35 (.binOp .eql 3 (.tmp 148) (.const (.int .i64 0)) 3) 4 [on 34,.v false [.lit (.int .i64 0)]] [0,1,2,3,4,5,6,7,8,9,10,11,12,13,14,15,16,17,18,19,20,21,22,23,24,25,26,27,28,29,30,31,32,33,34] []]) (out := .v false [.lit (.bool true)]) (nc:=36) (by kernel_rfl)
    ⟨fun σ W g h hb=>kS (L8 W _ m n l ((h 0 rfl).wide g.size) hm hn (hTab.kept g (by simp)) k1 ea0 ea1 ea2 ea3),
    fun σ W g h hb=>toV (K0 W (hTab.kept g (by simp))) rfl,
    fun σ W g h hb=>P8 W _ m n a0 a1 a2 a3 2 (md1 (h 2 rfl)) (by omega) (ba0.mono (by omega)) (ba1.mono (by omega)) (ba2.mono (by omega)) (ba3.mono (by omega)) lm ln (hTab.kept g (by simp)) N0 hN0,
    fun σ W g h hb=>jC (P4 W _ m n a0 a1 a2 a3 2 (md1 (h 2 rfl)) (by omega) (wB 2 lm) (wB 2 ln)),
    fun σ W g h hb=>jC (P4 W _ m n a0 a1 a2 a3 2 (md1 (h 2 rfl)) (by omega) (wB 2 lm) (wB 2 ln)),
    fun σ W g h hb=>toQE (by rw [<- bT];exact gQ W 1 2 (by omega) (by omega) (by omega) (by omega) (hTab.kept g (by simp))) (by rw [if_neg (by decide)]),
    fun σ W g h hb=>B2 W _ N0 132 (h 4 rfl) (by omega) lN,
    fun σ W g h hb=>F4 W _ _ (N0:Rat) (1 / 2) 132 (h 8 rfl) (qE (h 7 rfl)) (by omega) (D5 (by omega) lN).1 (D5 (by omega) lN).2 (half_bd.mono (by omega)).1 (half_bd.mono (by omega)).2 (hTab.kept g (by simp)),
    fun σ W g h hb=>Q0 (O4 W _ _ _ 1 m n [(N0+1 / 2)] 134 (ii1 (h 5 rfl)) (ii2 (h 6 rfl)) (R1 (hb.1 _ (.head _)) (h 9 rfl)) (by simp) (by omega) (wB 134 lm) (wB 134 ln) (by omega) (by omega) (fun x hx=>by rw [List.mem_singleton.1 hx];exact bup) (hTab.kept g (by simp))),
    fun σ W g h hb=>B2 W _ N0 132 (h 4 rfl) (by omega) lN,
    fun σ W g h hb=>fC W _ _ (N0:Rat) (1 / 2) 132 (h 11 rfl) (qE (h 7 rfl)) (by omega) (D5 (by omega) lN).1 (D5 (by omega) lN).2 (half_bd.mono (by omega)).1 (half_bd.mono (by omega)).2 (hTab.kept g (by simp)),
    fun σ W g h hb=>Q0 (O4 W _ _ _ 1 m n [(N0-1 / 2)] 134 (ii1 (h 5 rfl)) (ii2 (h 6 rfl)) (R1 (hb.1 _ (.head _)) (h 12 rfl)) (by simp) (by omega) (wB 134 lm) (wB 134 ln) (by omega) (by omega) (fun x hx=>by rw [List.mem_singleton.1 hx];exact bdn) (hTab.kept g (by simp))),
    fun σ W g h hb=>mF hi (P9 W _ _ m n m n a0 a1 a2 a3 (N0+1 / 2) 0 0 0 134 (md1 (h 2 rfl)) (sdE (h 10 rfl)) (by omega) (B0 lm (by omega)) (B0 ln (by omega)) (B0 lm (by omega)) (B0 ln (by omega)) ⟨ba0.mono (by omega),bup⟩ ⟨ba1.mono (by omega),B7 (by omega)⟩ ⟨ba2.mono (by omega),B7 (by omega)⟩ ⟨ba3.mono (by omega),B7 (by omega)⟩ ⟨rfl,rfl⟩ (hTab.kept g (by simp))),
    fun σ W g h hb=>mF hj (P9 W _ _ m n m n a0 a1 a2 a3 (N0-1 / 2) 0 0 0 134 (md1 (h 2 rfl)) (sdE (h 13 rfl)) (by omega) (B0 lm (by omega)) (B0 ln (by omega)) (B0 lm (by omega)) (B0 ln (by omega)) ⟨ba0.mono (by omega),bdn⟩ ⟨ba1.mono (by omega),B7 (by omega)⟩ ⟨ba2.mono (by omega),B7 (by omega)⟩ ⟨ba3.mono (by omega),B7 (by omega)⟩ ⟨rfl,rfl⟩ (hTab.kept g (by simp))),
    fun σ W g h hb=>C5 W 2 (by omega) (by omega),
    fun σ W g h hb=>gX (K6 W _ _ N0 2 132 (h 4 rfl) (h 16 rfl) (by omega) lN (B0 (K:=1) (by unfold B;decide) (by omega)) (by decide)) rfl,
    fun σ W g h hb=>W8 (congrArg (fun v=>[v]) (h 1 rfl)) (C5 W by0 hb1 hb2),
    fun σ W g h hb=>W8 (congrArg (fun v=>[v]) (h 1 rfl)) (C5 W by0 hb1 hb2),
    fun σ W g h hb=>D7 W _ _ by0 by0 1 (h 18 rfl) (h 19 rfl) (by omega) lb lb,
    fun σ W g h hb=>B2 W _ (by0+by0) 2 (h 20 rfl) (by omega) lbb,
    fun σ W g h hb=>Q0 (O4 W _ _ _ 1 m n [((by0+by0:Int):Rat)] 3 (ii1 (h 5 rfl)) (ii2 (h 6 rfl)) (R1 (hb.1 _ (.head _)) (h 21 rfl)) (by simp) (by omega) (wB 3 lm) (wB 3 ln) (by omega) (by omega) (fun x hx=>by rw [List.mem_singleton.1 hx];exact bby) (hTab.kept g (by simp))),
    fun σ W g h hb=>Q0 (oE W _ _ m n m n a0 a1 a2 a3 ((by0+by0:Int):Rat) 0 0 0 3 (md1 (h 2 rfl)) (sdE (h 22 rfl)) (by omega) (wB 3 lm) (wB 3 ln) (wB 3 lm) (wB 3 ln) ⟨ba0.mono (by omega),bby⟩ ⟨ba1.mono (by omega),B7 (by omega)⟩ ⟨ba2.mono (by omega),B7 (by omega)⟩ ⟨ba3.mono (by omega),B7 (by omega)⟩ ⟨rfl,rfl⟩ (hTab.kept g (by simp)) rfl (Rat.add_zero _) (Rat.add_zero _) (Rat.add_zero _)),
    fun σ W g h hb=>fun ρ o ho _ hv=>⟨_,nT true ho ((A1 hv).1.trans (ze1 (h 14 rfl))) (A1 hv).2 (decide_eq_true (by decide)),rfl⟩,
    fun σ W g h hb=>fun ρ o ho _ hv=>⟨_,nV true ho ((A1 hv).1.trans (ze1 (h 15 rfl))) (A1 hv).2 (decide_eq_true (by decide)),rfl⟩,
    fun σ W g h hb=>fun ρ o ho _ hv=>⟨_,nR false ho ((A1 hv).1.trans (ze1 (h 14 rfl))) (A1 hv).2 (decide_eq_false (by decide)),rfl⟩,
    fun σ W g h hb=>toZ (D3 W _ (N0%2) 132 (iiE2 (h 17 rfl)) (by omega) (by rw [hev];exact Nat.pow_pos D6)) (by rw [hev];rfl),
    fun σ W g h hb=>fun ρ o ho _ hv=>⟨_,eq_told true ho ((A1 hv).1.trans (h 27 rfl)) (A1 hv).2 (decide_eq_true rfl),rfl⟩,
    fun σ W g h hb=>P8 W _ m n (a0+((by0+by0:Int):Rat)) a1 a2 a3 7 (sdE (h 23 rfl)) (by omega) (bmv.mono (by omega)) (ba1.mono (by omega)) (ba2.mono (by omega)) (ba3.mono (by omega)) (B0 lm (by omega)) (B0 ln (by omega)) (hTab.kept g (by simp)) _ (hN0.shift (by0+by0) (by omega)),
    fun σ W g h hb=>W8 (congrArg (fun v=>[v]) (h 1 rfl)) (C5 W by0 hb1 hb2),
    fun σ W g h hb=>D7 W _ _ N0 by0 132 (h 4 rfl) (h 30 rfl) (by omega) lN (B0 lb (by omega)),
    fun σ W g h hb=>W8 (congrArg (fun v=>[v]) (h 1 rfl)) (C5 W by0 hb1 hb2),
    fun σ W g h hb=>D7 W _ _ (N0+by0) by0 133 (h 31 rfl) (h 32 rfl) (by omega) lN1 (B0 lb (by omega)),
    fun σ W g h hb=>toZ (G6 W _ _ _ _ 135 (h 29 rfl) (h 33 rfl) (by omega) lN2 lN3) (by rw [Int.add_assoc];exact zcmp_self _),
    fun σ W g h hb=>fun ρ o ho _ hv=>⟨_,eq_told true ho ((A1 hv).1.trans (h 34 rfl)) (A1 hv).2 (decide_eq_true rfl),rfl⟩,
    trivial⟩ fun τ W g h=>⟨rfl,g⟩
 · skip
   have hi:=hup.trans q1
   have hj:=hdn.trans q2
   have hev:N0%2=0:=n3 (by omega)
   refine A4 B6 Tryz.func8 [sNm w.heap.size m n l,sZ by0] [sMd m n a0 a1 a2 a3,sV (.bool true),sI N0,sII m n,sII m n,sQE (1 / 2) 0,sQ (N0:Rat),sQ (N0+1 / 2),X8 m n (N0+1 / 2) 0 0 0 0,sQ (N0:Rat),sQ (N0-1 / 2),X8 m n (N0-1 / 2) 0 0 0 0,sZE 0 0,sZE 0 0,sI 2,kY (N0 / 2) (N0%2) 0,sI by0,sI by0,sI (by0+by0),sQ ((by0+by0:Int):Rat),X8 m n ((by0+by0:Int):Rat) 0 0 0 0,X8 m n (a0+((by0+by0:Int):Rat)) a1 a2 a3 0,sV (.bool true),sV (.bool true),sV (.bool false),sZ 0,sV (.bool true),sI (N0+(by0+by0)),sI by0,sI (N0+by0),sI by0,sI (N0+by0+by0),sZ 0,sV (.bool true)] (.cons Ha (.cons rfl .nil)) (rs:=[cl 2 19 [ag 3 0],cl 3 12 [],cl 4 34 [ag 20 2],cl 5 17 [ag 20 2],cl 6 17 [ag 20 2],cl 7 41 [.v false [.lit (.int .i64 1)],.v false [.lit (.int .i64 2)]],cl 8 9 [ag 2 4],cl 9 42 [ag 4 8,ag 4 7],clb 10 11 [ag 2 5,.v true [.an 6 2,.an 6 3],.v false [.row 9 0 1 1]] [0,1,2,3,4,5,6,7,8,9] [(9,30,[.an 9 0,.an 9 1,.an 9 2,.an 9 3])],cl 11 9 [ag 2 4],cl 12 43 [ag 4 11,ag 4 7],clb 13 11 [ag 2 5,.v true [.an 6 2,.an 6 3],.v false [.row 11 0 1 1]] [0,1,2,3,4,5,6,7,8,9,10,11,12] [(11,30,[.an 12 0,.an 12 1,.an 12 2,.an 12 3])],cl 14 24 [ag 20 2,ag 20 10],cl 15 24 [ag 20 2,ag 20 13],cl 16 10 [.v false [.lit (.int .i64 2)]],cl 17 44 [ag 2 4,ag 2 16],cl 18 10 [on 1],cl 19 10 [on 1],cl 20 45 [ag 2 18,ag 2 19],cl 21 9 [ag 2 20],clb 22 11 [ag 2 5,.v true [.an 6 2,.an 6 3],.v false [.row 15 0 1 1]] [0,1,2,3,4,5,6,7,8,9,10,11,12,13,14,15,16,17,18,19,20,21] [(15,30,[.an 21 0,.an 21 1,.an 21 2,.an 21 3])],cl 23 21 [ag 20 2,ag 20 22],co 24 (.binOp .leq 3 (.tmp 119) (.const (.int .i64 0)) 3) 4 [on 14,.v false [.lit (.int .i64 0)]] [0,1,2,3,4,5,6,7,8,9,10,11,12,13,14,15,16,17,18,19,20,21,22,23] [],co 25 (.binOp .geq 3 (.tmp 122) (.const (.int .i64 0)) 3) 4 [on 15,.v false [.lit (.int .i64 0)]] [0,1,2,3,4,5,6,7,8,9,10,11,12,13,14,15,16,17,18,19,20,21,22,23,24] [],co 26 (.binOp .lss 3 (.tmp 126) (.const (.int .i64 0)) 3) 4 [on 14,.v false [.lit (.int .i64 0)]] [0,1,2,3,4,5,6,7,8,9,10,11,12,13,14,15,16,17,18,19,20,21,22,23,24,25] [],cl 27 46 [.v true [.an 17 2,.an 17 3]],co 28 (.binOp .eql 3 (.tmp 134) (.const (.int .i64 0)) 3) 4 [on 27,.v false [.lit (.int .i64 0)]] [0,1,2,3,4,5,6,7,8,9,10,11,12,13,14,15,16,17,18,19,20,21,22,23,24,25,26,27] [],cl 29 34 [ag 20 23],cl 30 10 [on 1],cl 31 45 [ag 2 4,ag 2 30],cl 32 10 [on 1],cl 33 45 [ag 2 31,ag 2 32],cl 34 18 [ag 2 29,ag 2 33],co 35 (.binOp .eql 3 (.tmp 148) (.const (.int .i64 0)) 3) 4 [on 34,.v false [.lit (.int .i64 0)]] [0,1,2,3,4,5,6,7,8,9,10,11,12,13,14,15,16,17,18,19,20,21,22,23,24,25,26,27,28,29,30,31,32,33,34] []]) (out := .v false [.lit (.bool true)]) (nc:=36) (by kernel_rfl)
    ⟨fun σ W g h hb=>kS (L8 W _ m n l ((h 0 rfl).wide g.size) hm hn (hTab.kept g (by simp)) k1 ea0 ea1 ea2 ea3),
    fun σ W g h hb=>toV (K0 W (hTab.kept g (by simp))) rfl,
    fun σ W g h hb=>P8 W _ m n a0 a1 a2 a3 2 (md1 (h 2 rfl)) (by omega) (ba0.mono (by omega)) (ba1.mono (by omega)) (ba2.mono (by omega)) (ba3.mono (by omega)) lm ln (hTab.kept g (by simp)) N0 hN0,
    fun σ W g h hb=>jC (P4 W _ m n a0 a1 a2 a3 2 (md1 (h 2 rfl)) (by omega) (wB 2 lm) (wB 2 ln)),
    fun σ W g h hb=>jC (P4 W _ m n a0 a1 a2 a3 2 (md1 (h 2 rfl)) (by omega) (wB 2 lm) (wB 2 ln)),
    fun σ W g h hb=>toQE (by rw [<- bT];exact gQ W 1 2 (by omega) (by omega) (by omega) (by omega) (hTab.kept g (by simp))) (by rw [if_neg (by decide)]),
    fun σ W g h hb=>B2 W _ N0 132 (h 4 rfl) (by omega) lN,
    fun σ W g h hb=>F4 W _ _ (N0:Rat) (1 / 2) 132 (h 8 rfl) (qE (h 7 rfl)) (by omega) (D5 (by omega) lN).1 (D5 (by omega) lN).2 (half_bd.mono (by omega)).1 (half_bd.mono (by omega)).2 (hTab.kept g (by simp)),
    fun σ W g h hb=>Q0 (O4 W _ _ _ 1 m n [(N0+1 / 2)] 134 (ii1 (h 5 rfl)) (ii2 (h 6 rfl)) (R1 (hb.1 _ (.head _)) (h 9 rfl)) (by simp) (by omega) (wB 134 lm) (wB 134 ln) (by omega) (by omega) (fun x hx=>by rw [List.mem_singleton.1 hx];exact bup) (hTab.kept g (by simp))),
    fun σ W g h hb=>B2 W _ N0 132 (h 4 rfl) (by omega) lN,
    fun σ W g h hb=>fC W _ _ (N0:Rat) (1 / 2) 132 (h 11 rfl) (qE (h 7 rfl)) (by omega) (D5 (by omega) lN).1 (D5 (by omega) lN).2 (half_bd.mono (by omega)).1 (half_bd.mono (by omega)).2 (hTab.kept g (by simp)),
    fun σ W g h hb=>Q0 (O4 W _ _ _ 1 m n [(N0-1 / 2)] 134 (ii1 (h 5 rfl)) (ii2 (h 6 rfl)) (R1 (hb.1 _ (.head _)) (h 12 rfl)) (by simp) (by omega) (wB 134 lm) (wB 134 ln) (by omega) (by omega) (fun x hx=>by rw [List.mem_singleton.1 hx];exact bdn) (hTab.kept g (by simp))),
    fun σ W g h hb=>mF hi (P9 W _ _ m n m n a0 a1 a2 a3 (N0+1 / 2) 0 0 0 134 (md1 (h 2 rfl)) (sdE (h 10 rfl)) (by omega) (B0 lm (by omega)) (B0 ln (by omega)) (B0 lm (by omega)) (B0 ln (by omega)) ⟨ba0.mono (by omega),bup⟩ ⟨ba1.mono (by omega),B7 (by omega)⟩ ⟨ba2.mono (by omega),B7 (by omega)⟩ ⟨ba3.mono (by omega),B7 (by omega)⟩ ⟨rfl,rfl⟩ (hTab.kept g (by simp))),
    fun σ W g h hb=>mF hj (P9 W _ _ m n m n a0 a1 a2 a3 (N0-1 / 2) 0 0 0 134 (md1 (h 2 rfl)) (sdE (h 13 rfl)) (by omega) (B0 lm (by omega)) (B0 ln (by omega)) (B0 lm (by omega)) (B0 ln (by omega)) ⟨ba0.mono (by omega),bdn⟩ ⟨ba1.mono (by omega),B7 (by omega)⟩ ⟨ba2.mono (by omega),B7 (by omega)⟩ ⟨ba3.mono (by omega),B7 (by omega)⟩ ⟨rfl,rfl⟩ (hTab.kept g (by simp))),
    fun σ W g h hb=>C5 W 2 (by omega) (by omega),
    fun σ W g h hb=>gX (K6 W _ _ N0 2 132 (h 4 rfl) (h 16 rfl) (by omega) lN (B0 (K:=1) (by unfold B;decide) (by omega)) (by decide)) rfl,
    fun σ W g h hb=>W8 (congrArg (fun v=>[v]) (h 1 rfl)) (C5 W by0 hb1 hb2),
    fun σ W g h hb=>W8 (congrArg (fun v=>[v]) (h 1 rfl)) (C5 W by0 hb1 hb2),
    fun σ W g h hb=>D7 W _ _ by0 by0 1 (h 18 rfl) (h 19 rfl) (by omega) lb lb,
    fun σ W g h hb=>B2 W _ (by0+by0) 2 (h 20 rfl) (by omega) lbb,
    fun σ W g h hb=>Q0 (O4 W _ _ _ 1 m n [((by0+by0:Int):Rat)] 3 (ii1 (h 5 rfl)) (ii2 (h 6 rfl)) (R1 (hb.1 _ (.head _)) (h 21 rfl)) (by simp) (by omega) (wB 3 lm) (wB 3 ln) (by omega) (by omega) (fun x hx=>by rw [List.mem_singleton.1 hx];exact bby) (hTab.kept g (by simp))),
    fun σ W g h hb=>Q0 (oE W _ _ m n m n a0 a1 a2 a3 ((by0+by0:Int):Rat) 0 0 0 3 (md1 (h 2 rfl)) (sdE (h 22 rfl)) (by omega) (wB 3 lm) (wB 3 ln) (wB 3 lm) (wB 3 ln) ⟨ba0.mono (by omega),bby⟩ ⟨ba1.mono (by omega),B7 (by omega)⟩ ⟨ba2.mono (by omega),B7 (by omega)⟩ ⟨ba3.mono (by omega),B7 (by omega)⟩ ⟨rfl,rfl⟩ (hTab.kept g (by simp)) rfl (Rat.add_zero _) (Rat.add_zero _) (Rat.add_zero _)),
    fun σ W g h hb=>fun ρ o ho _ hv=>⟨_,nT true ho ((A1 hv).1.trans (ze1 (h 14 rfl))) (A1 hv).2 (decide_eq_true (by decide)),rfl⟩,
    fun σ W g h hb=>fun ρ o ho _ hv=>⟨_,nV true ho ((A1 hv).1.trans (ze1 (h 15 rfl))) (A1 hv).2 (decide_eq_true (by decide)),rfl⟩,
    fun σ W g h hb=>fun ρ o ho _ hv=>⟨_,nR false ho ((A1 hv).1.trans (ze1 (h 14 rfl))) (A1 hv).2 (decide_eq_false (by decide)),rfl⟩,
    fun σ W g h hb=>toZ (D3 W _ (N0%2) 132 (iiE2 (h 17 rfl)) (by omega) (by rw [hev];exact Nat.pow_pos D6)) (by rw [hev];rfl),
    fun σ W g h hb=>fun ρ o ho _ hv=>⟨_,eq_told true ho ((A1 hv).1.trans (h 27 rfl)) (A1 hv).2 (decide_eq_true rfl),rfl⟩,
    fun σ W g h hb=>P8 W _ m n (a0+((by0+by0:Int):Rat)) a1 a2 a3 7 (sdE (h 23 rfl)) (by omega) (bmv.mono (by omega)) (ba1.mono (by omega)) (ba2.mono (by omega)) (ba3.mono (by omega)) (B0 lm (by omega)) (B0 ln (by omega)) (hTab.kept g (by simp)) _ (hN0.shift (by0+by0) (by omega)),
    fun σ W g h hb=>W8 (congrArg (fun v=>[v]) (h 1 rfl)) (C5 W by0 hb1 hb2),
    fun σ W g h hb=>D7 W _ _ N0 by0 132 (h 4 rfl) (h 30 rfl) (by omega) lN (B0 lb (by omega)),
    fun σ W g h hb=>W8 (congrArg (fun v=>[v]) (h 1 rfl)) (C5 W by0 hb1 hb2),
    fun σ W g h hb=>D7 W _ _ (N0+by0) by0 133 (h 31 rfl) (h 32 rfl) (by omega) lN1 (B0 lb (by omega)),
    fun σ W g h hb=>toZ (G6 W _ _ _ _ 135 (h 29 rfl) (h 33 rfl) (by omega) lN2 lN3) (by rw [Int.add_assoc];exact zcmp_self _),
    fun σ W g h hb=>fun ρ o ho _ hv=>⟨_,eq_told true ho ((A1 hv).1.trans (h 34 rfl)) (A1 hv).2 (decide_eq_true rfl),rfl⟩,
    trivial⟩ fun τ W g h=>⟨rfl,g⟩
theorem SNears_no (w:World) (va:Value) (M N by0:Int) (l:List ByteArray) (Ha:NmV w.heap.size w va M N l) (hb1 : -9223372036854775808<=by0) (hb2:by0<=9223372036854775807) (hm:(-9223372036854775808<=M/\M<=9223372036854775807)) (hn:(-9223372036854775808<=N/\N<=9223372036854775807)) (hTab:Tab w) (k1:¬ mOK M N l) :
 Calls Tryz.prog 8 #[va,.int .i64 by0] w (fun e w'=>e = .returned (.bool true)/\w.grownBy w' none):=by
 refine A4 B6 Tryz.func8 [sNm w.heap.size M N l,sZ by0] [sMn,sV (.bool true),sV (.bool true)] (.cons Ha (.cons rfl .nil)) (rs:=[cl 2 19 [ag 3 0],cl 3 12 [],cl 4 12 []]) (out := .v false [.lit (.bool true)]) (nc:=5) (by kernel_rfl)
  ⟨fun σ W g h hb=>toMn (dG W _ M N l ((h 0 rfl).wide g.size) hm hn (hTab.kept g (by simp)) k1),
  fun σ W g h hb=>toV (K0 W (hTab.kept g (by simp))) rfl,
  fun σ W g h hb=>toV (K0 W (hTab.kept g (by simp))) rfl,
  trivial⟩ fun τ W g h=>⟨rfl,g⟩
theorem oV (w:World) (va:Value) (M N by0:Int) (l:List ByteArray) (Ha:NmV w.heap.size w va M N l) (hm:(-9223372036854775808<=M/\M<=9223372036854775807)) (hn:(-9223372036854775808<=N/\N<=9223372036854775807)) (hby:(-9223372036854775808<=by0/\by0<=9223372036854775807)) (hTab:Tab w) :
 Calls Tryz.prog 8 #[va,.int .i64 by0] w (fun e w'=>e = .returned (.bool true)/\w.grownBy w' none):=by
 obtain ⟨hb1,hb2⟩:=hby
 by_cases k1:mOK M N l
 rotate_left
 · exact SNears_no w va M N by0 l Ha hb1 hb2 hm hn hTab k1
 obtain ⟨m,rfl⟩:=Int.eq_ofNat_of_zero_le k1.1
 obtain ⟨n,rfl⟩:=Int.eq_ofNat_of_zero_le k1.2.1
 exact SNears_main w va m n by0 l Ha hb1 hb2 hm hn hTab k1
end Go.Proofs.YtdgdmicbbfoghaaGreatDoor
namespace Go.Proofs.YtdgdmicbbfoghaaGreatDoor.SurdNears
open Go.ChangeShapes Go.WideShapes Go.ChangeAt Go.RowKit Go.ChangeMaps
theorem contract (H:Type) (enc:TypeId × Value->H) (W:World) (base:Nat) (args:Array Value) (ds gs:List (DataW H)) (before:List MemPlace)
 (hval:∀ (j:Nat) t v,Tryz.f8.params[j]?=some t->args[j]?=some v->Value.okWide Tryz.prog W .any base t v)
 (hW:DataW.Whole enc Tryz.prog Tryz.f8.params.toList Rows.surdNearsSpec.vars false W args.toList ds gs before) (hL:laidMetH Tryz.prog Rows.surdNearsRow.laid W) :
 Calls Tryz.prog 8 args W fun e W'=>∃ v,e = .returned v/\Rows.surdNearsSpec.post enc Tryz.prog Tryz.f8 false true false false W args v W':=by
 have hW':=hW
 obtain ⟨p,q,hA0,hV,rfl,hfz,hnd⟩:=hW
 have hA:DataW.TrodAll enc Tryz.prog W 0 (fun _=>true) true Tryz.f8.params.toList args.toList ds p:=hA0
 rw [Tryz.params8] at hA hval
 obtain ⟨v0,vs0,d0,ds0,p0,q0,hargs0,rfl,rfl,h0,r0⟩:=trodAll_cons hA
 obtain ⟨v1,vs1,d1,ds1,p1,q1,hargs1,rfl,rfl,h1,r1⟩:=trodAll_cons r0
 obtain ⟨rfl,rfl,rfl⟩:=trodAll_nil r1
 obtain rfl:args = #[v0,v1]:=by cases args;simp_all
 obtain ⟨rfl,rfl⟩:=trodVars_none hV
 simp only [List.append_nil] at hW' hfz
 have hlt:∀ p ∈ p0++p1,p.block<W.heap.size:=fun p hp=>by
  have:=DataW.TrodAll.lt hA p (by simpa using hp)
  exact this
 have hv0:=hval 0 51 v0 rfl rfl
 obtain ⟨x0,y0,l0,N0,a0,b0⟩:=open_num hv0 h0
 have hv1:=hval 1 3 v1 rfl rfl
 obtain ⟨x1,rfl,_,_,w1⟩:=open_int Tryz.underlying3 hv1 h1
 clear hA0
 refine (oV W v0 x0 y0 x1 l0 N0 a0 b0 (qF w1) (tab_of hL)).mono fun e W' ⟨he,hg⟩=>?_
 subst he
 have hs0:∀ sp:Nat->Bool,(∀ p ∈ p0,sp p.block=true)->DataW.Trod enc Tryz.prog W' 0 sp true 51 (v0) d0 p0:=fun sp hsp=>
  Go.WideElems.Trod_stays (by kernel_rfl) (by kernel_rfl) (of_decide_eq_true (by kernel_rfl)) h0 (fun p hp=>cW hg (hlt p (by simp [hp]))) hsp
 have hs1:∀ sp:Nat->Bool,(∀ p ∈ p1,sp p.block=true)->DataW.Trod enc Tryz.prog W' 0 sp true 3 (.int .i64 x1) d1 p1:=fun sp hsp=>
  Go.WideElems.Trod_stays (by kernel_rfl) (by kernel_rfl) (of_decide_eq_true (by kernel_rfl)) h1 (fun p hp=>cW hg (hlt p (by simp [hp]))) hsp
 exact ⟨_,rfl,mN hW' hlt (fun _ _ _=>trodAll_cons_mk (shut_bool Tryz.underlying4 _) trodAll_mk0) (fun sp hsp=>by
  have:=trodAll_cons_mk (hs0 sp (fun p hp=>hsp p (by simp [hp]))) (trodAll_cons_mk (hs1 sp (fun p hp=>hsp p (by simp [hp]))) (trodAll_mk0))
  rw [List.append_nil] at this
  exact this) (fun _=>rfl) hg (ok_one (by kernel_rfl) rfl (okWide_bool_mk Tryz.underlying4 _))⟩
theorem laid_met (os:Os):laidMet Tryz.prog Rows.surdNearsRow.laid ((Y8 os).forCall (fun _ _=>0) ⟨#[], #[.agg #[.int .i64 0,.int .i64 0,.slice none 0 0],.int .i64 0],[]⟩).memory:=
 laidMet_of_run' 80 (by kernel_rfl) (by kernel_rfl)
theorem reads (os:Os) {H:Type} (enc:TypeId × Value->H):∃ places,DataW.whole enc Tryz.prog ((Y8 os).forCall (fun _ _=>0) ⟨#[], #[.agg #[.int .i64 0,.int .i64 0,.slice none 0 0],.int .i64 0],[]⟩).memory Tryz.f8.params.toList Rows.surdNearsSpec.vars false #[Value.agg #[.int .i64 0,.int .i64 0,.slice none 0 0],Value.int .i64 0].toList 8=some ([.agg [.lit (.int .i64 0),.lit (.int .i64 0),.nil],.lit (.int .i64 0)],[],places):=
 ⟨[],by kernel_rfl⟩
theorem lifted (os:Os) (started:os.Started) (H:Type) (enc:TypeId × Value->H) (F:Stop.Interp) :
 ReturnsInHanded {} Tryz.checked os 8 .any ((OpenSpec.ofChange Rows.surdNearsSpec).preRow enc Tryz.prog Tryz.f8 Rows.surdNearsRow.domain false Rows.surdNearsRow.laid) (((OpenSpec.ofChange Rows.surdNearsSpec).at F).post enc Tryz.prog Tryz.f8 false true false false):=by
 obtain ⟨places,hx⟩:=reads os enc
 refine returnsInHanded_of_row (C:=Tryz.checked) (s:=OpenSpec.ofChange Rows.surdNearsSpec) law_own started (by kernel_rfl) Tryz.func8
  (witness_row_at (enc:=enc) (C:=Tryz.checked) false (Y8 os) #[.agg #[.int .i64 0,.int .i64 0,.slice none 0 0],.int .i64 0] rfl (by kernel_rfl) (by kernel_rfl) (by kernel_rfl)
   (OpenSpec.preRow_of_cond 8 hx (by kernel_rfl) (fun k hk=>by cases hk) (by kernel_rfl) (laid_met os))) ?_
 intro W base args ds gs before hval hW _ _ _ hL _ _
 exact contract H enc W base args ds gs before hval hW hL
theorem said:Rows.SurdNearsSaid:=
 OpenClaim.holds_of_cond 8 Tryz.f8 rfl rfl rfl rfl rfl rfl rfl ⟨rfl,rfl,rfl,rfl,rfl⟩ rfl rfl rfl rfl rfl (by kernel_rfl) Tryz.func8 (by kernel_rfl)
  (of_decide_eq_true (by kernel_rfl)) (by unfold Func.isWrapper;first | (rw [if_pos (by decide +kernel)];kernel_rfl) | (rw [if_neg (by decide +kernel)];exact ⟨rfl,rfl⟩))
  (fun os started H enc _ F=>by rw [OpenClaim.pre_eq_preRow];exact lifted os started H enc F)
theorem plain (f : FuncId) (fn : Func) (hf : Tryz.pinned.checked.prog.funcNamed "pellicle/pelliclelaw04.SurdNears" = some f) (hfn : Tryz.pinned.checked.prog.funcs[f]? = some fn) :
 false=Tryz.pinned.checked.prog.looks [] /\ ∀ (j:Nat) t,fn.params[j]?=some t->Tryz.pinned.checked.prog.wantsStandIn t=false:=by
 obtain rfl : f = 8 := Option.some.inj ((show Tryz.prog.funcNamed "pellicle/pelliclelaw04.SurdNears" = some 8 by kernel_rfl).symm.trans hf) |>.symm
 obtain rfl:fn=Tryz.f8:=(Option.some.inj (Tryz.func8.symm.trans hfn)).symm
 refine ⟨by kernel_rfl,fun j t ht=>?_⟩
 rw [Tryz.params8] at ht
 have ht2:=Array.mem_of_getElem? ht
 simp at ht2
 first | (rcases ht2 with rfl | rfl | rfl) | (rcases ht2 with rfl | rfl) | subst ht2
 all_goals exact (show Tryz.prog.wantsStandIn _=false by kernel_rfl)
theorem card:Rows.SurdNearsCardSaid:=
 Claim7.holds_tied_plain_at .later [] _ _ _ _ said (fun _ h=>by cases h) (by kernel_rfl) (fun _ h=>by cases h) surdNears_row_tie rfl ⟨rfl,rfl⟩ (by kernel_rfl) rfl plain (by kernel_rfl)
end Go.Proofs.YtdgdmicbbfoghaaGreatDoor.SurdNears
