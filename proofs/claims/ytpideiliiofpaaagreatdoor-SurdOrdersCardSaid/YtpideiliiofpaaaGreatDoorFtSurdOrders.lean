/- SurdOrders: whatever three numbers, their order goes with sums, and products have the sign that their parts' signs make: the law returns true and leaves its arguments. No condition. -/
import Derived.Below
import Derived.BigCall
import Derived.BigQuiet
import Derived.BigRegion
import Derived.ChangeOld
import Derived.Deep.AppendLies
import Derived.Deep.CutBlock
import Derived.Deep.CutRange
import Derived.Deep.DeepCutAuto
import Derived.Deep.DeepHandedRow
import Derived.Deep.LoopGhost
import Derived.Deep.MidRow
import Derived.Deep.QuietTactic
import Derived.Deep.RegionHeld3
import Derived.Deep.RegionLaw
import Derived.Deep.Slices
import Derived.Deep.Strs
import Derived.Deep.WholeRow
import Derived.Laws.AppendOwn
import Derived.Laws.Concat
import Derived.Laws.CopyOwn
import Derived.Laws.CopyRow
import Derived.Laws.Externs
import Derived.Laws.IdiomStrings
import Derived.Lib.BitFns
import Derived.Lib.Bytealg
import Derived.Lib.Hide
import Derived.Lib.LaidTab
import Derived.Lib.Slices
import Derived.Lib.Small
import Derived.Lib.Strings
import Derived.Lib.Walk
import Derived.LoopN
import Derived.Maps.AppendAt
import Derived.OpenShut
import Derived.OrdersHeld
import Derived.OrdersIn
import Derived.Outline
import Derived.OwnWalk
import Derived.ProofKit
import Derived.RangeFuncCalls
import Derived.RangeFuncNested
import Derived.Shelf.Bits.Mul64
import Derived.Shelf.Spec.TrailingZeros
import Derived.StillTailTactics
import Derived.WalkKit
import Derived.WalkLawsBesides
import Derived.WalkSpells
import Derived.WideKeyArgs
import Derived.Test.YtpideiliiofpaaaGreatDoorCards
import Derived.Test.YtpideiliiofpaaaGreatDoorProg
import Derived.Test.YtpideiliiofpaaaGreatDoorRows
import Derived.Test.YtpideiliiofpaaaGreatDoorTie
import Derived.Test.YtpideiliiofpaaaGreatDoorMt22
set_option linter.unusedVariables false
set_option linter.unusedSimpArgs false
set_option maxRecDepth 100000
namespace Go.Proofs.YtpideiliiofpaaaGreatDoor
open Go.RowKit Mat Ex
theorem neg_told {P:Program} {ρ : Operand->Value} {o:Oper} {t:TypeId} {x:Operand} {z:Int} {W:World} (ho:o.op = .unOp .neg t x) (hx : ρ x = .int .i64 z) (hz:z=1\/z = -1\/z=0):(execOp ρ o).run P W = .ok (.value (.int .i64 (-z))) W:=by
 simp only [execOp,ho,hx];rcases hz with rfl | rfl | rfl<;>rfl
theorem mul_one3 {t:TypeId} {x y:Int} (hx:x=1\/x = -1\/x=0) (hy:y=1\/y = -1\/y=0):binOp .mul t (.int .i64 x) (.int .i64 y) = .pure (.int .i64 (x*y)):=by
 rcases hx with rfl | rfl | rfl<;>rcases hy with rfl | rfl | rfl<;>rfl
def sZE (z e:Int):Sp := .of (.tup [(none,0),(some (.int .i64 e),0)]) (fun v _=>v = .tuple #[.int .i64 z,.int .i64 e]) (fun v W h=>by
 subst h;exact Et (u := .bool true) (cs:=[.int .i64 z]) (by simp [Value.oneCell']) rfl) (fun _ _ _ _ h=>h)
theorem ze1 {z e:Int} {a b:Value} (h:Value.tuple #[a,b] = .tuple #[.int .i64 z,.int .i64 e]):a = .int .i64 z:=by cases h;rfl
theorem toZE {P:Program} {f:FuncId} {args:Array Value} {W:World} {z c:Int} (h:Calls P f args W (Wp W z c)):Calls P f args W (Ret W (sZE z c).F):=h.mono fun _ _ ⟨e,g⟩=>⟨_,e,rfl,g⟩
theorem sg_mul {m n:Nat} {a b c d a' b' c' d' p0 p1 p2 p3:Rat} (e0:a*a'+((m:Int):Rat)*(b*b')+((n:Int):Rat)*(c*c')+((m:Int):Rat)*((n:Int):Rat)*(d*d')=p0) (e1:a*b'+b*a'+((n:Int):Rat)*(c*d'+d*c')=p1) (e2:a*c'+c*a'+((m:Int):Rat)*(b*d'+d*b')=p2) (e3:a*d'+d*a'+b*c'+c*b'=p3) :
 sg4 m n p0 p1 p2 p3=sg4 m n a b c d*sg4 m n a' b' c' d':=by
 rw [<- e0, <- e1, <- e2, <- e3, <- sg4_mul]
 simp only [Rat.intCast_natCast]
set_option maxHeartbeats 4000000 in
theorem Wn (w:World) (va vb vc:Value) (m n:Nat) (M2 N2 M3 N3:Int) (l l2 l3:List ByteArray) (Ha:NmV w.heap.size w va m n l) (Hb:NmV w.heap.size w vb M2 N2 l2) (Hc:NmV w.heap.size w vc M3 N3 l3) (hm:(-9223372036854775808<=(m:Int)/\(m:Int)<=9223372036854775807)) (hn:(-9223372036854775808<=(n:Int)/\(n:Int)<=9223372036854775807)) (hTab:Tab w) (k1:mOK m n l) (k2:mOK m n l2) (k3:mOK m n l3) :
 Calls Tryz.prog 8 #[va,vb,vc] w (fun e w'=>e = .returned (.bool true)/\w.grownBy w' none):=by
 have lm:m<B^2:=by have:=Dn hm.1 hm.2;rwa [Int.natAbs_natCast] at this
 have ln:n<B^2:=by have:=Dn hn.1 hn.2;rwa [Int.natAbs_natCast] at this
 obtain ⟨a3_0,ea3_0⟩:∃ x,pv l 0=x:=⟨_,rfl⟩
 have ba3_0:Bd1 2 a3_0:=ea3_0 ▸ Dl k1.2.2.2 0
 obtain ⟨a3_1,ea3_1⟩:∃ x,pv l 1=x:=⟨_,rfl⟩
 have ba3_1:Bd1 2 a3_1:=ea3_1 ▸ Dl k1.2.2.2 1
 obtain ⟨a3_2,ea3_2⟩:∃ x,pv l 2=x:=⟨_,rfl⟩
 have ba3_2:Bd1 2 a3_2:=ea3_2 ▸ Dl k1.2.2.2 2
 obtain ⟨a3_3,ea3_3⟩:∃ x,pv l 3=x:=⟨_,rfl⟩
 have ba3_3:Bd1 2 a3_3:=ea3_3 ▸ Dl k1.2.2.2 3
 obtain ⟨a5_0,ea5_0⟩:∃ x,pv l2 0=x:=⟨_,rfl⟩
 have ba5_0:Bd1 2 a5_0:=ea5_0 ▸ Dl k2.2.2.2 0
 obtain ⟨a5_1,ea5_1⟩:∃ x,pv l2 1=x:=⟨_,rfl⟩
 have ba5_1:Bd1 2 a5_1:=ea5_1 ▸ Dl k2.2.2.2 1
 obtain ⟨a5_2,ea5_2⟩:∃ x,pv l2 2=x:=⟨_,rfl⟩
 have ba5_2:Bd1 2 a5_2:=ea5_2 ▸ Dl k2.2.2.2 2
 obtain ⟨a5_3,ea5_3⟩:∃ x,pv l2 3=x:=⟨_,rfl⟩
 have ba5_3:Bd1 2 a5_3:=ea5_3 ▸ Dl k2.2.2.2 3
 obtain ⟨a7_0,ea7_0⟩:∃ x,pv l3 0=x:=⟨_,rfl⟩
 have ba7_0:Bd1 2 a7_0:=ea7_0 ▸ Dl k3.2.2.2 0
 obtain ⟨a7_1,ea7_1⟩:∃ x,pv l3 1=x:=⟨_,rfl⟩
 have ba7_1:Bd1 2 a7_1:=ea7_1 ▸ Dl k3.2.2.2 1
 obtain ⟨a7_2,ea7_2⟩:∃ x,pv l3 2=x:=⟨_,rfl⟩
 have ba7_2:Bd1 2 a7_2:=ea7_2 ▸ Dl k3.2.2.2 2
 obtain ⟨a7_3,ea7_3⟩:∃ x,pv l3 3=x:=⟨_,rfl⟩
 have ba7_3:Bd1 2 a7_3:=ea7_3 ▸ Dl k3.2.2.2 3
 obtain ⟨s11_0,e11_0⟩:∃ x,a3_0+a7_0=x:=⟨_,rfl⟩
 have bs11_0:Bd1 (2*2+1) s11_0:=e11_0 ▸ (Ap (ba3_0.mono (by omega):Bd1 2 _) (ba7_0.mono (by omega):Bd1 2 _)).mono (by omega)
 obtain ⟨s11_1,e11_1⟩:∃ x,a3_1+a7_1=x:=⟨_,rfl⟩
 have bs11_1:Bd1 (2*2+1) s11_1:=e11_1 ▸ (Ap (ba3_1.mono (by omega):Bd1 2 _) (ba7_1.mono (by omega):Bd1 2 _)).mono (by omega)
 obtain ⟨s11_2,e11_2⟩:∃ x,a3_2+a7_2=x:=⟨_,rfl⟩
 have bs11_2:Bd1 (2*2+1) s11_2:=e11_2 ▸ (Ap (ba3_2.mono (by omega):Bd1 2 _) (ba7_2.mono (by omega):Bd1 2 _)).mono (by omega)
 obtain ⟨s11_3,e11_3⟩:∃ x,a3_3+a7_3=x:=⟨_,rfl⟩
 have bs11_3:Bd1 (2*2+1) s11_3:=e11_3 ▸ (Ap (ba3_3.mono (by omega):Bd1 2 _) (ba7_3.mono (by omega):Bd1 2 _)).mono (by omega)
 obtain ⟨s12_0,e12_0⟩:∃ x,a5_0+a7_0=x:=⟨_,rfl⟩
 have bs12_0:Bd1 (2*2+1) s12_0:=e12_0 ▸ (Ap (ba5_0.mono (by omega):Bd1 2 _) (ba7_0.mono (by omega):Bd1 2 _)).mono (by omega)
 obtain ⟨s12_1,e12_1⟩:∃ x,a5_1+a7_1=x:=⟨_,rfl⟩
 have bs12_1:Bd1 (2*2+1) s12_1:=e12_1 ▸ (Ap (ba5_1.mono (by omega):Bd1 2 _) (ba7_1.mono (by omega):Bd1 2 _)).mono (by omega)
 obtain ⟨s12_2,e12_2⟩:∃ x,a5_2+a7_2=x:=⟨_,rfl⟩
 have bs12_2:Bd1 (2*2+1) s12_2:=e12_2 ▸ (Ap (ba5_2.mono (by omega):Bd1 2 _) (ba7_2.mono (by omega):Bd1 2 _)).mono (by omega)
 obtain ⟨s12_3,e12_3⟩:∃ x,a5_3+a7_3=x:=⟨_,rfl⟩
 have bs12_3:Bd1 (2*2+1) s12_3:=e12_3 ▸ (Ap (ba5_3.mono (by omega):Bd1 2 _) (ba7_3.mono (by omega):Bd1 2 _)).mono (by omega)
 have mb14:=K3 (K:=2) (m:=m) (n:=n) (by omega) (wB 2 lm) (wB 2 ln) (ba3_0.mono (by omega)) (ba3_1.mono (by omega)) (ba3_2.mono (by omega)) (ba3_3.mono (by omega)) (ba5_0.mono (by omega)) (ba5_1.mono (by omega)) (ba5_2.mono (by omega)) (ba5_3.mono (by omega))
 obtain ⟨s14_0,e14_0⟩:∃ x,a3_0*a5_0+((m:Int):Rat)*(a3_1*a5_1)+((n:Int):Rat)*(a3_2*a5_2)+((m:Int):Rat)*((n:Int):Rat)*(a3_3*a5_3)=x:=⟨_,rfl⟩
 have bs14_0:Bd1 (16*2+5) s14_0:=e14_0 ▸ mb14.1
 obtain ⟨s14_1,e14_1⟩:∃ x,a3_0*a5_1+a3_1*a5_0+((n:Int):Rat)*(a3_2*a5_3+a3_3*a5_2)=x:=⟨_,rfl⟩
 have bs14_1:Bd1 (16*2+5) s14_1:=e14_1 ▸ mb14.2.1
 obtain ⟨s14_2,e14_2⟩:∃ x,a3_0*a5_2+a3_2*a5_0+((m:Int):Rat)*(a3_1*a5_3+a3_3*a5_1)=x:=⟨_,rfl⟩
 have bs14_2:Bd1 (16*2+5) s14_2:=e14_2 ▸ mb14.2.2.1
 obtain ⟨s14_3,e14_3⟩:∃ x,a3_0*a5_3+a3_3*a5_0+a3_1*a5_2+a3_2*a5_1=x:=⟨_,rfl⟩
 have bs14_3:Bd1 (16*2+5) s14_3:=e14_3 ▸ mb14.2.2.2
 have mb15:=K3 (K:=2) (m:=m) (n:=n) (by omega) (wB 2 lm) (wB 2 ln) (ba3_0.mono (by omega)) (ba3_1.mono (by omega)) (ba3_2.mono (by omega)) (ba3_3.mono (by omega)) (ba3_0.mono (by omega)) (ba3_1.mono (by omega)) (ba3_2.mono (by omega)) (ba3_3.mono (by omega))
 obtain ⟨s15_0,e15_0⟩:∃ x,a3_0*a3_0+((m:Int):Rat)*(a3_1*a3_1)+((n:Int):Rat)*(a3_2*a3_2)+((m:Int):Rat)*((n:Int):Rat)*(a3_3*a3_3)=x:=⟨_,rfl⟩
 have bs15_0:Bd1 (16*2+5) s15_0:=e15_0 ▸ mb15.1
 obtain ⟨s15_1,e15_1⟩:∃ x,a3_0*a3_1+a3_1*a3_0+((n:Int):Rat)*(a3_2*a3_3+a3_3*a3_2)=x:=⟨_,rfl⟩
 have bs15_1:Bd1 (16*2+5) s15_1:=e15_1 ▸ mb15.2.1
 obtain ⟨s15_2,e15_2⟩:∃ x,a3_0*a3_2+a3_2*a3_0+((m:Int):Rat)*(a3_1*a3_3+a3_3*a3_1)=x:=⟨_,rfl⟩
 have bs15_2:Bd1 (16*2+5) s15_2:=e15_2 ▸ mb15.2.2.1
 obtain ⟨s15_3,e15_3⟩:∃ x,a3_0*a3_3+a3_3*a3_0+a3_1*a3_2+a3_2*a3_1=x:=⟨_,rfl⟩
 have bs15_3:Bd1 (16*2+5) s15_3:=e15_3 ▸ mb15.2.2.2
 have u0 : -(a5_0 + -a3_0)=a3_0 + -a5_0:=by grind
 have w0:s11_0 + -s12_0=a3_0 + -a5_0:=by grind
 have u1 : -(a5_1 + -a3_1)=a3_1 + -a5_1:=by grind
 have w1:s11_1 + -s12_1=a3_1 + -a5_1:=by grind
 have u2 : -(a5_2 + -a3_2)=a3_2 + -a5_2:=by grind
 have w2:s11_2 + -s12_2=a3_2 + -a5_2:=by grind
 have u3 : -(a5_3 + -a3_3)=a3_3 + -a5_3:=by grind
 have w3:s11_3 + -s12_3=a3_3 + -a5_3:=by grind
 have g1:sg4 m n (a3_0 + -a5_0) (a3_1 + -a5_1) (a3_2 + -a5_2) (a3_3 + -a5_3) = -sg4 m n (a5_0 + -a3_0) (a5_1 + -a3_1) (a5_2 + -a3_2) (a5_3 + -a3_3):=by rw [<- sg4_neg,u0,u1,u2,u3]
 have g2:sg4 m n (a3_0 + -a5_0) (a3_1 + -a5_1) (a3_2 + -a5_2) (a3_3 + -a5_3)=sg4 m n (s11_0 + -s12_0) (s11_1 + -s12_1) (s11_2 + -s12_2) (s11_3 + -s12_3):=by rw [w0,w1,w2,w3]
 have g3:=sg_mul e14_0 e14_1 e14_2 e14_3
 have g4:=sg_mul e15_0 e15_1 e15_2 e15_3
 refine Af Aq Tryz.func8 [sNm w.heap.size m n l,sNm w.heap.size M2 N2 l2,sNm w.heap.size M3 N3 l3] [sMd m n a3_0 a3_1 a3_2 a3_3,sNm w.heap.size m n l2,sMd m n a5_0 a5_1 a5_2 a5_3,sNm w.heap.size m n l3,sMd m n a7_0 a7_1 a7_2 a7_3,sV (.bool true),sZE (sg4 m n (a3_0 + -a5_0) (a3_1 + -a5_1) (a3_2 + -a5_2) (a3_3 + -a5_3)) 0,sZE (sg4 m n (a5_0 + -a3_0) (a5_1 + -a3_1) (a5_2 + -a3_2) (a5_3 + -a3_3)) 0,Jl m n s11_0 s11_1 s11_2 s11_3 0,Jl m n s12_0 s12_1 s12_2 s12_3 0,sZE (sg4 m n (s11_0 + -s12_0) (s11_1 + -s12_1) (s11_2 + -s12_2) (s11_3 + -s12_3)) 0,Jl m n s14_0 s14_1 s14_2 s14_3 0,Jl m n s15_0 s15_1 s15_2 s15_3 0,sZ (-sg4 m n (a5_0 + -a3_0) (a5_1 + -a3_1) (a5_2 + -a3_2) (a5_3 + -a3_3)),sV (.bool true),sV (.bool true),sZ (sg4 m n s14_0 s14_1 s14_2 s14_3),sZ (sg4 m n a3_0 a3_1 a3_2 a3_3),sZ (sg4 m n a5_0 a5_1 a5_2 a5_3),sZ (sg4 m n a3_0 a3_1 a3_2 a3_3*sg4 m n a5_0 a5_1 a5_2 a5_3),sV (.bool true),sZ (sg4 m n s15_0 s15_1 s15_2 s15_3),sZ (sg4 m n a3_0 a3_1 a3_2 a3_3),sZ (sg4 m n a3_0 a3_1 a3_2 a3_3),sZ (sg4 m n a3_0 a3_1 a3_2 a3_3*sg4 m n a3_0 a3_1 a3_2 a3_3),sV (.bool true),sSd m n (-a3_0) (-a3_1) (-a3_2) (-a3_3),sZ (sg4 m n (-a3_0) (-a3_1) (-a3_2) (-a3_3)),sZ (sg4 m n a3_0 a3_1 a3_2 a3_3),sZ (-sg4 m n a3_0 a3_1 a3_2 a3_3),sV (.bool true)] (.cons Ha (.cons Hb (.cons Hc .nil))) (rs:=[cl 3 21 [ag 3 0],cl 4 22 [ag 3 0,ag 3 1],cl 5 21 [ag 3 4],cl 6 22 [ag 3 0,ag 3 2],cl 7 21 [ag 3 6],cl 8 14 [],cl 9 26 [ag 20 3,ag 20 5],cl 10 26 [ag 20 5,ag 20 3],cl 11 23 [ag 20 3,ag 20 7],cl 12 23 [ag 20 5,ag 20 7],cl 13 26 [ag 20 11,ag 20 12],cl 14 25 [ag 20 3,ag 20 5],cl 15 25 [ag 20 3,ag 20 3],co 16 (.unOp .neg 3 (.tmp 110)) 3 [on 10] [0,1,2,3,4,5,6,7,8,9,10,11,12,13,14,15] [],co 17 (.binOp .eql 3 (.tmp 109) (.tmp 111) 3) 4 [on 9,on 16] [0,1,2,3,4,5,6,7,8,9,10,11,12,13,14,15,16] [],co 18 (.binOp .eql 3 (.tmp 114) (.tmp 115) 3) 4 [on 9,on 13] [0,1,2,3,4,5,6,7,8,9,10,11,12,13,14,15,16,17] [],cl 19 15 [ag 20 14],cl 20 15 [ag 20 3],cl 21 15 [ag 20 5],co 22 (.binOp .mul 3 (.tmp 122) (.tmp 124) 3) 3 [on 20,on 21] [0,1,2,3,4,5,6,7,8,9,10,11,12,13,14,15,16,17,18,19,20,21] [],co 23 (.binOp .eql 3 (.tmp 120) (.tmp 125) 3) 4 [on 19,on 22] [0,1,2,3,4,5,6,7,8,9,10,11,12,13,14,15,16,17,18,19,20,21,22] [],cl 24 15 [ag 20 15],cl 25 15 [ag 20 3],cl 26 15 [ag 20 3],co 27 (.binOp .mul 3 (.tmp 132) (.tmp 134) 3) 3 [on 25,on 26] [0,1,2,3,4,5,6,7,8,9,10,11,12,13,14,15,16,17,18,19,20,21,22,23,24,25,26] [],co 28 (.binOp .eql 3 (.tmp 130) (.tmp 135) 3) 4 [on 24,on 27] [0,1,2,3,4,5,6,7,8,9,10,11,12,13,14,15,16,17,18,19,20,21,22,23,24,25,26,27] [],cl 29 31 [ag 20 3],cl 30 15 [ag 20 29],cl 31 15 [ag 20 3],co 32 (.unOp .neg 3 (.tmp 143)) 3 [on 31] [0,1,2,3,4,5,6,7,8,9,10,11,12,13,14,15,16,17,18,19,20,21,22,23,24,25,26,27,28,29,30,31] [],co 33 (.binOp .eql 3 (.tmp 141) (.tmp 144) 3) 4 [on 30,on 32] [0,1,2,3,4,5,6,7,8,9,10,11,12,13,14,15,16,17,18,19,20,21,22,23,24,25,26,27,28,29,30,31,32] []]) (out := .v false [.lit (.bool true)]) (nc:=34) (by kernel_rfl)
  ⟨fun σ W g h hb=>Jk (Dh W _ m n l ((h 0 rfl).wide g.size) hm hn (hTab.kept g (by simp)) k1 ea3_0 ea3_1 ea3_2 ea3_3),
  fun σ W g h hb=>(Cy w.heap.size W _ _ m n M2 N2 l l2 (h 0 rfl) (h 1 rfl)).mono fun _ _ ⟨v,e,h1,g1,h2⟩=>⟨v,e,h1,g1,fun q hq => .inr ⟨1,rfl,h2 q hq⟩⟩,
  fun σ W g h hb=>Jk (Dh W _ m n l2 ((h 4 rfl).wide g.size) hm hn (hTab.kept g (by simp)) k2 ea5_0 ea5_1 ea5_2 ea5_3),
  fun σ W g h hb=>(Cy w.heap.size W _ _ m n M3 N3 l l3 (h 0 rfl) (h 2 rfl)).mono fun _ _ ⟨v,e,h1,g1,h2⟩=>⟨v,e,h1,g1,fun q hq => .inr ⟨2,rfl,h2 q hq⟩⟩,
  fun σ W g h hb=>Jk (Dh W _ m n l3 ((h 6 rfl).wide g.size) hm hn (hTab.kept g (by simp)) k3 ea7_0 ea7_1 ea7_2 ea7_3),
  fun σ W g h hb=>toV (Bt W (hTab.kept g (by simp))) rfl,
  fun σ W g h hb=>toZE (Li W _ _ m n m n a3_0 a3_1 a3_2 a3_3 a5_0 a5_1 a5_2 a5_3 2 (md1 (h 3 rfl)) (md1 (h 5 rfl)) (by omega) (wN 2 lm) (wN 2 ln) (wN 2 lm) (wN 2 ln) ⟨ba3_0.mono (by omega),ba5_0.mono (by omega)⟩ ⟨ba3_1.mono (by omega),ba5_1.mono (by omega)⟩ ⟨ba3_2.mono (by omega),ba5_2.mono (by omega)⟩ ⟨ba3_3.mono (by omega),ba5_3.mono (by omega)⟩ ⟨rfl,rfl⟩ (hTab.kept g (by simp))),
  fun σ W g h hb=>toZE (Li W _ _ m n m n a5_0 a5_1 a5_2 a5_3 a3_0 a3_1 a3_2 a3_3 2 (md1 (h 5 rfl)) (md1 (h 3 rfl)) (by omega) (wN 2 lm) (wN 2 ln) (wN 2 lm) (wN 2 ln) ⟨ba5_0.mono (by omega),ba3_0.mono (by omega)⟩ ⟨ba5_1.mono (by omega),ba3_1.mono (by omega)⟩ ⟨ba5_2.mono (by omega),ba3_2.mono (by omega)⟩ ⟨ba5_3.mono (by omega),ba3_3.mono (by omega)⟩ ⟨rfl,rfl⟩ (hTab.kept g (by simp))),
  fun σ W g h hb=>Fx (Jb W _ _ m n m n a3_0 a3_1 a3_2 a3_3 a7_0 a7_1 a7_2 a7_3 2 (md1 (h 3 rfl)) (md1 (h 7 rfl)) (by omega) (wB 2 lm) (wB 2 ln) (wB 2 lm) (wB 2 ln) ⟨ba3_0.mono (by omega),ba7_0.mono (by omega)⟩ ⟨ba3_1.mono (by omega),ba7_1.mono (by omega)⟩ ⟨ba3_2.mono (by omega),ba7_2.mono (by omega)⟩ ⟨ba3_3.mono (by omega),ba7_3.mono (by omega)⟩ ⟨rfl,rfl⟩ (hTab.kept g (by simp)) e11_0 e11_1 e11_2 e11_3),
  fun σ W g h hb=>Fx (Jb W _ _ m n m n a5_0 a5_1 a5_2 a5_3 a7_0 a7_1 a7_2 a7_3 2 (md1 (h 5 rfl)) (md1 (h 7 rfl)) (by omega) (wB 2 lm) (wB 2 ln) (wB 2 lm) (wB 2 ln) ⟨ba5_0.mono (by omega),ba7_0.mono (by omega)⟩ ⟨ba5_1.mono (by omega),ba7_1.mono (by omega)⟩ ⟨ba5_2.mono (by omega),ba7_2.mono (by omega)⟩ ⟨ba5_3.mono (by omega),ba7_3.mono (by omega)⟩ ⟨rfl,rfl⟩ (hTab.kept g (by simp)) e12_0 e12_1 e12_2 e12_3),
  fun σ W g h hb=>toZE (Li W _ _ m n m n s11_0 s11_1 s11_2 s11_3 s12_0 s12_1 s12_2 s12_3 5 (sdE (h 11 rfl)) (sdE (h 12 rfl)) (by omega) (wN 5 lm) (wN 5 ln) (wN 5 lm) (wN 5 ln) ⟨bs11_0.mono (by omega),bs12_0.mono (by omega)⟩ ⟨bs11_1.mono (by omega),bs12_1.mono (by omega)⟩ ⟨bs11_2.mono (by omega),bs12_2.mono (by omega)⟩ ⟨bs11_3.mono (by omega),bs12_3.mono (by omega)⟩ ⟨rfl,rfl⟩ (hTab.kept g (by simp))),
  fun σ W g h hb=>Fx (I9 W _ _ m n m n a3_0 a3_1 a3_2 a3_3 a5_0 a5_1 a5_2 a5_3 2 (md1 (h 3 rfl)) (md1 (h 5 rfl)) (by omega) (wB 2 lm) (wB 2 ln) (wB 2 lm) (wB 2 ln) ⟨ba3_0.mono (by omega),ba5_0.mono (by omega)⟩ ⟨ba3_1.mono (by omega),ba5_1.mono (by omega)⟩ ⟨ba3_2.mono (by omega),ba5_2.mono (by omega)⟩ ⟨ba3_3.mono (by omega),ba5_3.mono (by omega)⟩ ⟨rfl,rfl⟩ (hTab.kept g (by simp)) e14_0 e14_1 e14_2 e14_3),
  fun σ W g h hb=>Fx (I9 W _ _ m n m n a3_0 a3_1 a3_2 a3_3 a3_0 a3_1 a3_2 a3_3 2 (md1 (h 3 rfl)) (md1 (h 3 rfl)) (by omega) (wB 2 lm) (wB 2 ln) (wB 2 lm) (wB 2 ln) ⟨ba3_0.mono (by omega),ba3_0.mono (by omega)⟩ ⟨ba3_1.mono (by omega),ba3_1.mono (by omega)⟩ ⟨ba3_2.mono (by omega),ba3_2.mono (by omega)⟩ ⟨ba3_3.mono (by omega),ba3_3.mono (by omega)⟩ ⟨rfl,rfl⟩ (hTab.kept g (by simp)) e15_0 e15_1 e15_2 e15_3),
  fun σ W g h hb=>fun ρ o ho _ hv=>⟨_,neg_told ho ((Bj hv).trans (ze1 (h 10 rfl))) (Gv _ _ _ _ _ _),rfl⟩,
  fun σ W g h hb=>fun ρ o ho _ hv=>⟨_,Ah ho ((Ad hv).1.trans (ze1 (h 9 rfl))) ((Ad hv).2.trans (h 16 rfl)) rfl,congrArg Value.bool (decide_eq_true (g1))⟩,
  fun σ W g h hb=>fun ρ o ho _ hv=>⟨_,Ah ho ((Ad hv).1.trans (ze1 (h 9 rfl))) ((Ad hv).2.trans (ze1 (h 13 rfl))) rfl,congrArg Value.bool (decide_eq_true (g2))⟩,
  fun σ W g h hb=>Qm (Cb W _ m n s14_0 s14_1 s14_2 s14_3 37 (sdE (h 14 rfl)) (by omega) (bs14_0.mono (by omega)) (bs14_1.mono (by omega)) (bs14_2.mono (by omega)) (bs14_3.mono (by omega)) (wN 37 lm) (wN 37 ln) (hTab.kept g (by simp))),
  fun σ W g h hb=>Qm (Cb W _ m n a3_0 a3_1 a3_2 a3_3 2 (md1 (h 3 rfl)) (by omega) (ba3_0.mono (by omega)) (ba3_1.mono (by omega)) (ba3_2.mono (by omega)) (ba3_3.mono (by omega)) (wN 2 lm) (wN 2 ln) (hTab.kept g (by simp))),
  fun σ W g h hb=>Qm (Cb W _ m n a5_0 a5_1 a5_2 a5_3 2 (md1 (h 5 rfl)) (by omega) (ba5_0.mono (by omega)) (ba5_1.mono (by omega)) (ba5_2.mono (by omega)) (ba5_3.mono (by omega)) (wN 2 lm) (wN 2 ln) (hTab.kept g (by simp))),
  fun σ W g h hb=>fun ρ o ho _ hv=>⟨_,Ah ho ((Ad hv).1.trans (h 20 rfl)) ((Ad hv).2.trans (h 21 rfl)) (mul_one3 (Gv _ _ _ _ _ _) (Gv _ _ _ _ _ _)),rfl⟩,
  fun σ W g h hb=>fun ρ o ho _ hv=>⟨_,Ah ho ((Ad hv).1.trans (h 19 rfl)) ((Ad hv).2.trans (h 22 rfl)) rfl,congrArg Value.bool (decide_eq_true (g3))⟩,
  fun σ W g h hb=>Qm (Cb W _ m n s15_0 s15_1 s15_2 s15_3 37 (sdE (h 15 rfl)) (by omega) (bs15_0.mono (by omega)) (bs15_1.mono (by omega)) (bs15_2.mono (by omega)) (bs15_3.mono (by omega)) (wN 37 lm) (wN 37 ln) (hTab.kept g (by simp))),
  fun σ W g h hb=>Qm (Cb W _ m n a3_0 a3_1 a3_2 a3_3 2 (md1 (h 3 rfl)) (by omega) (ba3_0.mono (by omega)) (ba3_1.mono (by omega)) (ba3_2.mono (by omega)) (ba3_3.mono (by omega)) (wN 2 lm) (wN 2 ln) (hTab.kept g (by simp))),
  fun σ W g h hb=>Qm (Cb W _ m n a3_0 a3_1 a3_2 a3_3 2 (md1 (h 3 rfl)) (by omega) (ba3_0.mono (by omega)) (ba3_1.mono (by omega)) (ba3_2.mono (by omega)) (ba3_3.mono (by omega)) (wN 2 lm) (wN 2 ln) (hTab.kept g (by simp))),
  fun σ W g h hb=>fun ρ o ho _ hv=>⟨_,Ah ho ((Ad hv).1.trans (h 25 rfl)) ((Ad hv).2.trans (h 26 rfl)) (mul_one3 (Gv _ _ _ _ _ _) (Gv _ _ _ _ _ _)),rfl⟩,
  fun σ W g h hb=>fun ρ o ho _ hv=>⟨_,Ah ho ((Ad hv).1.trans (h 24 rfl)) ((Ad hv).2.trans (h 27 rfl)) rfl,congrArg Value.bool (decide_eq_true (g4))⟩,
  fun σ W g h hb=>SNeg_any W _ m n a3_0 a3_1 a3_2 a3_3 2 (md1 (h 3 rfl)) (by omega) (wB 2 lm) (wB 2 ln) (ba3_0.mono (by omega)) (ba3_1.mono (by omega)) (ba3_2.mono (by omega)) (ba3_3.mono (by omega)),
  fun σ W g h hb=>Qm (Cb W _ m n (-a3_0) (-a3_1) (-a3_2) (-a3_3) 2 (id (h 29 rfl)) (by omega) (ba3_0.neg.mono (by omega)) (ba3_1.neg.mono (by omega)) (ba3_2.neg.mono (by omega)) (ba3_3.neg.mono (by omega)) (wN 2 lm) (wN 2 ln) (hTab.kept g (by simp))),
  fun σ W g h hb=>Qm (Cb W _ m n a3_0 a3_1 a3_2 a3_3 2 (md1 (h 3 rfl)) (by omega) (ba3_0.mono (by omega)) (ba3_1.mono (by omega)) (ba3_2.mono (by omega)) (ba3_3.mono (by omega)) (wN 2 lm) (wN 2 ln) (hTab.kept g (by simp))),
  fun σ W g h hb=>fun ρ o ho _ hv=>⟨_,neg_told ho ((Bj hv).trans (h 31 rfl)) (Gv _ _ _ _ _ _),rfl⟩,
  fun σ W g h hb=>fun ρ o ho _ hv=>⟨_,Ah ho ((Ad hv).1.trans (h 30 rfl)) ((Ad hv).2.trans (h 32 rfl)) rfl,congrArg Value.bool (decide_eq_true (sg4_neg _ _ _ _ _ _))⟩,
  trivial⟩ fun τ W g h=>⟨rfl,g⟩
theorem SOrders_no0 (w:World) (va vb vc:Value) (M N:Int) (M2 N2 M3 N3:Int) (l l2 l3:List ByteArray) (Ha:NmV w.heap.size w va M N l) (Hb:NmV w.heap.size w vb M2 N2 l2) (Hc:NmV w.heap.size w vc M3 N3 l3) (hm:(-9223372036854775808<=M/\M<=9223372036854775807)) (hn:(-9223372036854775808<=N/\N<=9223372036854775807)) (hTab:Tab w) (k1:¬ mOK M N l) :
 Calls Tryz.prog 8 #[va,vb,vc] w (fun e w'=>e = .returned (.bool true)/\w.grownBy w' none):=by
 refine Af Aq Tryz.func8 [sNm w.heap.size M N l,sNm w.heap.size M2 N2 l2,sNm w.heap.size M3 N3 l3] [sMn,sNm w.heap.size M N l2,sMg,sNm w.heap.size M N l3,sMg,sV (.bool true),sV (.bool true)] (.cons Ha (.cons Hb (.cons Hc .nil))) (rs:=[cl 3 21 [ag 3 0],cl 4 22 [ag 3 0,ag 3 1],cl 5 21 [ag 3 4],cl 6 22 [ag 3 0,ag 3 2],cl 7 21 [ag 3 6],cl 8 14 [],cl 9 14 []]) (out := .v false [.lit (.bool true)]) (nc:=10) (by kernel_rfl)
  ⟨fun σ W g h hb=>toMn (Eg W _ M N l ((h 0 rfl).wide g.size) hm hn (hTab.kept g (by simp)) k1),
  fun σ W g h hb=>(Cy w.heap.size W _ _ M N M2 N2 l l2 (h 0 rfl) (h 1 rfl)).mono fun _ _ ⟨v,e,h1,g1,h2⟩=>⟨v,e,h1,g1,fun q hq => .inr ⟨1,rfl,h2 q hq⟩⟩,
  fun σ W g h hb=>Gc W _ M N l2 ((h 4 rfl).wide g.size) hm hn (hTab.kept g (by simp)),
  fun σ W g h hb=>(Cy w.heap.size W _ _ M N M3 N3 l l3 (h 0 rfl) (h 2 rfl)).mono fun _ _ ⟨v,e,h1,g1,h2⟩=>⟨v,e,h1,g1,fun q hq => .inr ⟨2,rfl,h2 q hq⟩⟩,
  fun σ W g h hb=>Gc W _ M N l3 ((h 6 rfl).wide g.size) hm hn (hTab.kept g (by simp)),
  fun σ W g h hb=>toV (Bt W (hTab.kept g (by simp))) rfl,
  fun σ W g h hb=>toV (Bt W (hTab.kept g (by simp))) rfl,
  trivial⟩ fun τ W g h=>⟨rfl,g⟩
theorem SOrders_no1 (w:World) (va vb vc:Value) (M N:Int) (M2 N2 M3 N3:Int) (l l2 l3:List ByteArray) (Ha:NmV w.heap.size w va M N l) (Hb:NmV w.heap.size w vb M2 N2 l2) (Hc:NmV w.heap.size w vc M3 N3 l3) (hm:(-9223372036854775808<=M/\M<=9223372036854775807)) (hn:(-9223372036854775808<=N/\N<=9223372036854775807)) (hTab:Tab w) (k1:mOK M N l) (k2:¬ mOK M N l2) :
 Calls Tryz.prog 8 #[va,vb,vc] w (fun e w'=>e = .returned (.bool true)/\w.grownBy w' none):=by
 refine Af Aq Tryz.func8 [sNm w.heap.size M N l,sNm w.heap.size M2 N2 l2,sNm w.heap.size M3 N3 l3] [sMd M N (pv l 0) (pv l 1) (pv l 2) (pv l 3),sNm w.heap.size M N l2,sMn,sNm w.heap.size M N l3,sMg,sV (.bool true),sV (.bool true)] (.cons Ha (.cons Hb (.cons Hc .nil))) (rs:=[cl 3 21 [ag 3 0],cl 4 22 [ag 3 0,ag 3 1],cl 5 21 [ag 3 4],cl 6 22 [ag 3 0,ag 3 2],cl 7 21 [ag 3 6],cl 8 14 [],cl 9 14 []]) (out := .v false [.lit (.bool true)]) (nc:=10) (by kernel_rfl)
  ⟨fun σ W g h hb=>Jk (Ej W _ M N l ((h 0 rfl).wide g.size) hm hn (hTab.kept g (by simp)) k1),
  fun σ W g h hb=>(Cy w.heap.size W _ _ M N M2 N2 l l2 (h 0 rfl) (h 1 rfl)).mono fun _ _ ⟨v,e,h1,g1,h2⟩=>⟨v,e,h1,g1,fun q hq => .inr ⟨1,rfl,h2 q hq⟩⟩,
  fun σ W g h hb=>toMn (Eg W _ M N l2 ((h 4 rfl).wide g.size) hm hn (hTab.kept g (by simp)) k2),
  fun σ W g h hb=>(Cy w.heap.size W _ _ M N M3 N3 l l3 (h 0 rfl) (h 2 rfl)).mono fun _ _ ⟨v,e,h1,g1,h2⟩=>⟨v,e,h1,g1,fun q hq => .inr ⟨2,rfl,h2 q hq⟩⟩,
  fun σ W g h hb=>Gc W _ M N l3 ((h 6 rfl).wide g.size) hm hn (hTab.kept g (by simp)),
  fun σ W g h hb=>toV (Bt W (hTab.kept g (by simp))) rfl,
  fun σ W g h hb=>toV (Bt W (hTab.kept g (by simp))) rfl,
  trivial⟩ fun τ W g h=>⟨rfl,g⟩
theorem SOrders_no2 (w:World) (va vb vc:Value) (M N:Int) (M2 N2 M3 N3:Int) (l l2 l3:List ByteArray) (Ha:NmV w.heap.size w va M N l) (Hb:NmV w.heap.size w vb M2 N2 l2) (Hc:NmV w.heap.size w vc M3 N3 l3) (hm:(-9223372036854775808<=M/\M<=9223372036854775807)) (hn:(-9223372036854775808<=N/\N<=9223372036854775807)) (hTab:Tab w) (k1:mOK M N l) (k2:mOK M N l2) (k3:¬ mOK M N l3) :
 Calls Tryz.prog 8 #[va,vb,vc] w (fun e w'=>e = .returned (.bool true)/\w.grownBy w' none):=by
 refine Af Aq Tryz.func8 [sNm w.heap.size M N l,sNm w.heap.size M2 N2 l2,sNm w.heap.size M3 N3 l3] [sMd M N (pv l 0) (pv l 1) (pv l 2) (pv l 3),sNm w.heap.size M N l2,sMd M N (pv l2 0) (pv l2 1) (pv l2 2) (pv l2 3),sNm w.heap.size M N l3,sMn,sV (.bool true),sV (.bool true)] (.cons Ha (.cons Hb (.cons Hc .nil))) (rs:=[cl 3 21 [ag 3 0],cl 4 22 [ag 3 0,ag 3 1],cl 5 21 [ag 3 4],cl 6 22 [ag 3 0,ag 3 2],cl 7 21 [ag 3 6],cl 8 14 [],cl 9 14 []]) (out := .v false [.lit (.bool true)]) (nc:=10) (by kernel_rfl)
  ⟨fun σ W g h hb=>Jk (Ej W _ M N l ((h 0 rfl).wide g.size) hm hn (hTab.kept g (by simp)) k1),
  fun σ W g h hb=>(Cy w.heap.size W _ _ M N M2 N2 l l2 (h 0 rfl) (h 1 rfl)).mono fun _ _ ⟨v,e,h1,g1,h2⟩=>⟨v,e,h1,g1,fun q hq => .inr ⟨1,rfl,h2 q hq⟩⟩,
  fun σ W g h hb=>Jk (Ej W _ M N l2 ((h 4 rfl).wide g.size) hm hn (hTab.kept g (by simp)) k2),
  fun σ W g h hb=>(Cy w.heap.size W _ _ M N M3 N3 l l3 (h 0 rfl) (h 2 rfl)).mono fun _ _ ⟨v,e,h1,g1,h2⟩=>⟨v,e,h1,g1,fun q hq => .inr ⟨2,rfl,h2 q hq⟩⟩,
  fun σ W g h hb=>toMn (Eg W _ M N l3 ((h 6 rfl).wide g.size) hm hn (hTab.kept g (by simp)) k3),
  fun σ W g h hb=>toV (Bt W (hTab.kept g (by simp))) rfl,
  fun σ W g h hb=>toV (Bt W (hTab.kept g (by simp))) rfl,
  trivial⟩ fun τ W g h=>⟨rfl,g⟩
theorem Pv (w:World) (va vb vc:Value) (M N:Int) (M2 N2 M3 N3:Int) (l l2 l3:List ByteArray) (Ha:NmV w.heap.size w va M N l) (Hb:NmV w.heap.size w vb M2 N2 l2) (Hc:NmV w.heap.size w vc M3 N3 l3) (hm:(-9223372036854775808<=M/\M<=9223372036854775807)) (hn:(-9223372036854775808<=N/\N<=9223372036854775807)) (hTab:Tab w) :
 Calls Tryz.prog 8 #[va,vb,vc] w (fun e w'=>e = .returned (.bool true)/\w.grownBy w' none):=by
 by_cases k1:mOK M N l
 rotate_left
 · exact SOrders_no0 w va vb vc M N M2 N2 M3 N3 l l2 l3 Ha Hb Hc hm hn hTab k1
 by_cases k2:mOK M N l2
 rotate_left
 · exact SOrders_no1 w va vb vc M N M2 N2 M3 N3 l l2 l3 Ha Hb Hc hm hn hTab k1 k2
 by_cases k3:mOK M N l3
 rotate_left
 · exact SOrders_no2 w va vb vc M N M2 N2 M3 N3 l l2 l3 Ha Hb Hc hm hn hTab k1 k2 k3
 obtain ⟨m,rfl⟩:=Int.eq_ofNat_of_zero_le k1.1
 obtain ⟨n,rfl⟩:=Int.eq_ofNat_of_zero_le k1.2.1
 exact Wn w va vb vc m n M2 N2 M3 N3 l l2 l3 Ha Hb Hc hm hn hTab k1 k2 k3
end Go.Proofs.YtpideiliiofpaaaGreatDoor
namespace Go.Proofs.YtpideiliiofpaaaGreatDoor.SurdOrders
open Go.ChangeShapes Go.WideShapes Go.ChangeAt Go.RowKit Go.ChangeMaps
theorem contract (H:Type) (enc:TypeId × Value->H) (W:World) (base:Nat) (args:Array Value) (ds gs:List (DataW H)) (before:List MemPlace)
 (hval:∀ (j:Nat) t v,Tryz.f8.params[j]?=some t->args[j]?=some v->Value.okWide Tryz.prog W .any base t v)
 (hW:DataW.Whole enc Tryz.prog Tryz.f8.params.toList Rows.surdOrdersSpec.vars false W args.toList ds gs before) (hL:laidMetH Tryz.prog Rows.surdOrdersRow.laid W) :
 Calls Tryz.prog 8 args W fun e W'=>∃ v,e = .returned v/\Rows.surdOrdersSpec.post enc Tryz.prog Tryz.f8 false true false false W args v W':=by
 have hW':=hW
 obtain ⟨p,q,hA0,hV,rfl,hfz,hnd⟩:=hW
 have hA:DataW.TrodAll enc Tryz.prog W 0 (fun _=>true) true Tryz.f8.params.toList args.toList ds p:=hA0
 rw [Tryz.params8] at hA hval
 obtain ⟨v0,vs0,d0,ds0,p0,q0,hargs0,rfl,rfl,h0,r0⟩:=trodAll_cons hA
 obtain ⟨v1,vs1,d1,ds1,p1,q1,hargs1,rfl,rfl,h1,r1⟩:=trodAll_cons r0
 obtain ⟨v2,vs2,d2,ds2,p2,q2,hargs2,rfl,rfl,h2,r2⟩:=trodAll_cons r1
 obtain ⟨rfl,rfl,rfl⟩:=trodAll_nil r2
 obtain rfl:args = #[v0,v1,v2]:=by cases args;simp_all
 obtain ⟨rfl,rfl⟩:=trodVars_none hV
 simp only [List.append_nil] at hW' hfz
 have hlt:∀ p ∈ p0++(p1++p2),p.block<W.heap.size:=fun p hp=>by
  have:=DataW.TrodAll.lt hA p (by simpa using hp)
  exact this
 have hv0:=hval 0 51 v0 rfl rfl
 obtain ⟨x0,y0,l0,N0,a0,b0⟩:=Hl hv0 h0
 have hv1:=hval 1 51 v1 rfl rfl
 obtain ⟨x1,y1,l1,N1,a1,b1⟩:=Hl hv1 h1
 have hv2:=hval 2 51 v2 rfl rfl
 obtain ⟨x2,y2,l2,N2,a2,b2⟩:=Hl hv2 h2
 clear hA0
 refine (Pv W v0 v1 v2 x0 y0 x1 y1 x2 y2 l0 l1 l2 N0 N1 N2 a0 b0 (tab_of hL)).mono fun e W' ⟨he,hg⟩=>?_
 subst he
 have hs0:∀ sp:Nat->Bool,(∀ p ∈ p0,sp p.block=true)->DataW.Trod enc Tryz.prog W' 0 sp true 51 (v0) d0 p0:=fun sp hsp=>
  Go.WideElems.Trod_stays (by kernel_rfl) (by kernel_rfl) (of_decide_eq_true (by kernel_rfl)) h0 (fun p hp=>Fe hg (hlt p (by simp [hp]))) hsp
 have hs1:∀ sp:Nat->Bool,(∀ p ∈ p1,sp p.block=true)->DataW.Trod enc Tryz.prog W' 0 sp true 51 (v1) d1 p1:=fun sp hsp=>
  Go.WideElems.Trod_stays (by kernel_rfl) (by kernel_rfl) (of_decide_eq_true (by kernel_rfl)) h1 (fun p hp=>Fe hg (hlt p (by simp [hp]))) hsp
 have hs2:∀ sp:Nat->Bool,(∀ p ∈ p2,sp p.block=true)->DataW.Trod enc Tryz.prog W' 0 sp true 51 (v2) d2 p2:=fun sp hsp=>
  Go.WideElems.Trod_stays (by kernel_rfl) (by kernel_rfl) (of_decide_eq_true (by kernel_rfl)) h2 (fun p hp=>Fe hg (hlt p (by simp [hp]))) hsp
 exact ⟨_,rfl,Ph hW' hlt (fun _ _ _=>trodAll_cons_mk (shut_bool Tryz.underlying4 _) trodAll_mk0) (fun sp hsp=>by
  have:=trodAll_cons_mk (hs0 sp (fun p hp=>hsp p (by simp [hp]))) (trodAll_cons_mk (hs1 sp (fun p hp=>hsp p (by simp [hp]))) (trodAll_cons_mk (hs2 sp (fun p hp=>hsp p (by simp [hp]))) (trodAll_mk0)))
  rw [List.append_nil] at this
  exact this) (fun _=>rfl) hg (ok_one (by kernel_rfl) rfl (okWide_bool_mk Tryz.underlying4 _))⟩
theorem laid_met (os:Os):laidMet Tryz.prog Rows.surdOrdersRow.laid ((F7 os).forCall (fun _ _=>0) ⟨#[], #[.agg #[.int .i64 0,.int .i64 0,.slice none 0 0],.agg #[.int .i64 0,.int .i64 0,.slice none 0 0],.agg #[.int .i64 0,.int .i64 0,.slice none 0 0]],[]⟩).memory:=
 laidMet_of_run' 80 (by kernel_rfl) (by kernel_rfl)
theorem reads (os:Os) {H:Type} (enc:TypeId × Value->H):∃ places,DataW.whole enc Tryz.prog ((F7 os).forCall (fun _ _=>0) ⟨#[], #[.agg #[.int .i64 0,.int .i64 0,.slice none 0 0],.agg #[.int .i64 0,.int .i64 0,.slice none 0 0],.agg #[.int .i64 0,.int .i64 0,.slice none 0 0]],[]⟩).memory Tryz.f8.params.toList Rows.surdOrdersSpec.vars false #[Value.agg #[.int .i64 0,.int .i64 0,.slice none 0 0],Value.agg #[.int .i64 0,.int .i64 0,.slice none 0 0],Value.agg #[.int .i64 0,.int .i64 0,.slice none 0 0]].toList 8=some ([.agg [.lit (.int .i64 0),.lit (.int .i64 0),.nil],.agg [.lit (.int .i64 0),.lit (.int .i64 0),.nil],.agg [.lit (.int .i64 0),.lit (.int .i64 0),.nil]],[],places):=
 ⟨[],by kernel_rfl⟩
theorem lifted (os:Os) (started:os.Started) (H:Type) (enc:TypeId × Value->H) (F:Stop.Interp) :
 ReturnsInHanded {} Tryz.checked os 8 .any ((OpenSpec.ofChange Rows.surdOrdersSpec).preRow enc Tryz.prog Tryz.f8 Rows.surdOrdersRow.domain false Rows.surdOrdersRow.laid) (((OpenSpec.ofChange Rows.surdOrdersSpec).at F).post enc Tryz.prog Tryz.f8 false true false false):=by
 obtain ⟨places,hx⟩:=reads os enc
 refine returnsInHanded_of_row (C:=Tryz.checked) (s:=OpenSpec.ofChange Rows.surdOrdersSpec) law_own started (by kernel_rfl) Tryz.func8
  (witness_row_at (enc:=enc) (C:=Tryz.checked) false (F7 os) #[.agg #[.int .i64 0,.int .i64 0,.slice none 0 0],.agg #[.int .i64 0,.int .i64 0,.slice none 0 0],.agg #[.int .i64 0,.int .i64 0,.slice none 0 0]] rfl (by kernel_rfl) (by kernel_rfl) (by kernel_rfl)
   (OpenSpec.preRow_of_cond 8 hx (by kernel_rfl) (fun k hk=>by cases hk) (by kernel_rfl) (laid_met os))) ?_
 intro W base args ds gs before hval hW _ _ _ hL _ _
 exact contract H enc W base args ds gs before hval hW hL
theorem said:Rows.SurdOrdersSaid:=
 OpenClaim.holds_of_cond 8 Tryz.f8 rfl rfl rfl rfl rfl rfl rfl ⟨rfl,rfl,rfl,rfl,rfl⟩ rfl rfl rfl rfl rfl (by kernel_rfl) Tryz.func8 (by kernel_rfl)
  (of_decide_eq_true (by kernel_rfl)) (by unfold Func.isWrapper;first | (rw [if_pos (by decide +kernel)];kernel_rfl) | (rw [if_neg (by decide +kernel)];exact ⟨rfl,rfl⟩))
  (fun os started H enc _ F=>by rw [OpenClaim.pre_eq_preRow];exact lifted os started H enc F)
theorem plain (f : FuncId) (fn : Func) (hf : Tryz.pinned.checked.prog.funcNamed "pellicle/pelliclelaw04.SurdOrders" = some f) (hfn : Tryz.pinned.checked.prog.funcs[f]? = some fn) :
 false=Tryz.pinned.checked.prog.looks [] /\ ∀ (j:Nat) t,fn.params[j]?=some t->Tryz.pinned.checked.prog.wantsStandIn t=false:=by
 obtain rfl : f = 8 := Option.some.inj ((show Tryz.prog.funcNamed "pellicle/pelliclelaw04.SurdOrders" = some 8 by kernel_rfl).symm.trans hf) |>.symm
 obtain rfl:fn=Tryz.f8:=(Option.some.inj (Tryz.func8.symm.trans hfn)).symm
 refine ⟨by kernel_rfl,fun j t ht=>?_⟩
 rw [Tryz.params8] at ht
 have ht2:=Array.mem_of_getElem? ht
 simp at ht2
 first | (rcases ht2 with rfl | rfl | rfl) | (rcases ht2 with rfl | rfl) | subst ht2
 all_goals exact (show Tryz.prog.wantsStandIn _=false by kernel_rfl)
theorem card:Rows.SurdOrdersCardSaid:=
 Claim7.holds_tied_plain_at .later [] _ _ _ _ said (fun _ h=>by cases h) (by kernel_rfl) (fun _ h=>by cases h) surdOrders_row_tie rfl ⟨rfl,rfl⟩ (by kernel_rfl) rfl plain (by kernel_rfl)
end Go.Proofs.YtpideiliiofpaaaGreatDoor.SurdOrders
