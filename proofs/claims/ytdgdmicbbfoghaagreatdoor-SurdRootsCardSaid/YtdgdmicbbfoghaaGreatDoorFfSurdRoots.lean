/- SurdRoots: whatever two numbers, a root times itself is what it is the root of: the law returns true and leaves its arguments. No condition. -/
import Derived.Below
import Derived.BigCall
import Derived.BigQuiet
import Derived.BigRegion
import Derived.ChangeOld
import Derived.Deep.AppendLies
import Derived.Deep.CutBlock
import Derived.Deep.CutRange
import Derived.Deep.DeepCutAuto
import Derived.Deep.DeepHandedRow
import Derived.Deep.LoopGhost
import Derived.Deep.MidRow
import Derived.Deep.QuietTactic
import Derived.Deep.RegionHeld3
import Derived.Deep.RegionLaw
import Derived.Deep.Slices
import Derived.Deep.Strs
import Derived.Deep.WholeRow
import Derived.Laws.AppendOwn
import Derived.Laws.Concat
import Derived.Laws.CopyOwn
import Derived.Laws.CopyRow
import Derived.Laws.Externs
import Derived.Laws.IdiomStrings
import Derived.Lib.BitFns
import Derived.Lib.Bytealg
import Derived.Lib.Hide
import Derived.Lib.LaidTab
import Derived.Lib.Slices
import Derived.Lib.Small
import Derived.Lib.Strings
import Derived.Lib.Walk
import Derived.LoopN
import Derived.Maps.AppendAt
import Derived.OpenShut
import Derived.OrdersHeld
import Derived.OrdersIn
import Derived.Outline
import Derived.OwnWalk
import Derived.ProofKit
import Derived.RangeFuncCalls
import Derived.RangeFuncNested
import Derived.RangeFuncOwn
import Derived.Shelf.Bits.Mul64
import Derived.Shelf.Spec.TrailingZeros
import Derived.StillTailTactics
import Derived.WalkKit
import Derived.WalkLawsBesides
import Derived.WalkSpells
import Derived.WideKeyArgs
import Derived.Test.YtdgdmicbbfoghaaGreatDoorCards
import Derived.Test.YtdgdmicbbfoghaaGreatDoorProg
import Derived.Test.YtdgdmicbbfoghaaGreatDoorRows
import Derived.Test.YtdgdmicbbfoghaaGreatDoorTie
import Derived.Test.YtdgdmicbbfoghaaGreatDoorMf22
set_option linter.unusedVariables false
set_option linter.unusedSimpArgs false
set_option maxRecDepth 100000
namespace Go.Proofs.YtdgdmicbbfoghaaGreatDoor
open Go.RowKit Mat Ex
theorem eq_told {P:Program} {ρ : Operand->Value} {o:Oper} {t t':TypeId} {x y:Operand} {a c:Int} {W:World} (b:Bool) (ho:o.op = .binOp .eql t x y t') (hx : ρ x = .int .i64 a) (hy : ρ y = .int .i64 c) (h:decide (a=c)=b):(execOp ρ o).run P W = .ok (.value (.bool b)) W:=
 A7 ho hx hy (by rw [<- h,show decide (a=c)=(a == c) from (Bool.beq_eq_decide_eq a c).symm];rfl)
theorem root_sgn (N:Nat) : 0<=sos (-(D8 N:Int)).sign ((N:Int)).sign ((D8 N:Int)*D8 N-N).sign/\sos (-((D8 N:Int)+1)).sign ((N:Int)).sign (((D8 N:Int)+1)*((D8 N:Int)+1)-N).sign = -1:=by
 have h1:=aE N
 have h2:=jR N
 have h1':(D8 N:Int)*D8 N-N<=0:=by have:((D8 N*D8 N:Nat):Int)<=N:=by exact_mod_cast h1
                                   push_cast at this;omega
 have h2' : 0<((D8 N:Int)+1)*((D8 N:Int)+1)-N:=by have:(N:Int)<(((D8 N+1)*(D8 N+1):Nat):Int):=by exact_mod_cast h2
                                                  push_cast at this;omega
 have s3:(((D8 N:Int)+1)*((D8 N:Int)+1)-N).sign=1:=Int.sign_eq_one_of_pos h2'
 have s4:(-((D8 N:Int)+1)).sign = -1:=Int.sign_eq_neg_one_of_neg (by omega)
 have s5:((D8 N:Int)*D8 N-N).sign = -1\/((D8 N:Int)*D8 N-N).sign=0:=by
  rcases Int.lt_or_eq_of_le h1' with h | h
  · exact .inl (Int.sign_eq_neg_one_of_neg h)
  · rw [h];exact .inr rfl
 have s6:((N:Int)).sign=0\/((N:Int)).sign=1:=by
  rcases Nat.eq_zero_or_pos N with h | h
  · rw [h];exact .inl rfl
  · exact .inr (Int.sign_eq_one_of_pos (by omega))
 have s7:(-(D8 N:Int)).sign=0\/((-(D8 N:Int)).sign = -1/\((N:Int)).sign=1):=by
  rcases Nat.eq_zero_or_pos (D8 N) with h | h
  · rw [h];exact .inl rfl
  · refine .inr ⟨Int.sign_eq_neg_one_of_neg (by omega),Int.sign_eq_one_of_pos ?_⟩
    have : 1*1<=D8 N*D8 N:=Nat.mul_le_mul h h
    omega
 rw [s3,s4]
 generalize (-(D8 N:Int)).sign=a at *
 generalize ((D8 N:Int)*D8 N-N).sign=b at *
 generalize ((N:Int)).sign=c at *
 constructor
 · rcases s7 with rfl | ⟨rfl,rfl⟩
   · unfold sos;rw [if_pos rfl];omega
   · rcases s5 with rfl | rfl<;>decide
 · rcases s6 with rfl | rfl<;>decide
theorem mul_sgn (m n:Nat):((m*n:Nat):Int).sign=(m:Int).sign*(n:Int).sign:=by rw [Int.natCast_mul,Int.sign_mul]
theorem floor_m (m n:Nat):SFloor m n 0 1 0 0 (D8 m):=by
 have key:∀ z:Int,sg4 m n (0-(z:Rat)) 1 0 0=sos (-z).sign (m:Int).sign (z*z-m).sign:=fun z=>by
  rw [show (0:Rat)-(z:Rat)=((-z:Int):Rat) by rw [Rat.intCast_neg];grind,show (1:Rat)=((1:Int):Rat) from rfl,show (0:Rat)=((0:Int):Rat) from rfl,ssg_rs]
  unfold ssg psg
  simp only [Int.sign_zero,Int.zero_mul,Int.mul_zero,Int.sub_zero,Int.add_zero,Int.one_mul,Int.mul_one,Int.neg_mul_neg,show Int.sign 1=1 from rfl]
  generalize (-z).sign=a
  generalize (m:Int).sign=b
  generalize (z*z - ↑m).sign=c
  unfold sos
  simp only [if_true]
  split<;>simp_all
 have h:=root_sgn m
 exact ⟨by rw [key];exact h.1,by rw [show (((D8 m:Int)+1:Int))=(D8 m:Int)+1 from rfl,key];exact h.2⟩
theorem floor_mn (m n:Nat):SFloor m n 0 0 0 1 (D8 (m*n)):=by
 have key:∀ z:Int,sg4 m n (0-(z:Rat)) 0 0 1=sos (-z).sign ((m*n:Nat):Int).sign (z*z-((m*n:Nat):Int)).sign:=fun z=>by
  rw [show (0:Rat)-(z:Rat)=((-z:Int):Rat) by rw [Rat.intCast_neg];grind,show (1:Rat)=((1:Int):Rat) from rfl,show (0:Rat)=((0:Int):Rat) from rfl,ssg_rs,mul_sgn,Int.natCast_mul]
  unfold ssg psg
  simp only [Int.sign_zero,Int.zero_mul,Int.mul_zero,Int.sub_zero,Int.add_zero,Int.zero_add,Int.one_mul,Int.mul_one,Int.neg_mul_neg,show Int.sign 1=1 from rfl]
  generalize (-z).sign=a
  generalize (m:Int).sign=b
  generalize (n:Int).sign=b2
  generalize (z*z - ↑m * ↑n).sign=c
  unfold sos
  by_cases hc:c=0<;>by_cases ha:a=0<;>simp [ha,hc]
 have h:=root_sgn (m*n)
 exact ⟨by rw [key];exact h.1,by rw [show (((D8 (m*n):Int)+1:Int))=(D8 (m*n):Int)+1 from rfl,key];exact h.2⟩
theorem one_bd2:Bd1 2 (1:Rat):=F3 (by decide +kernel)
theorem zero_bd2:Bd1 2 (0:Rat):=F3 (by decide +kernel)
theorem nroot_self (a:Nat):D8 a<=a:=by
 have h1:=aE a
 rcases Nat.eq_zero_or_pos (D8 a) with h | h
 · omega
 · exact Nat.le_trans (Nat.le_mul_of_pos_left _ h) h1
theorem fV {a K:Nat} (h:a<B^K):D8 a<B^K:=Nat.lt_of_le_of_lt (nroot_self a) h
theorem zcmp_self (z:Int):J0 z z=0:=by unfold J0;simp
theorem fW {w:World} {q:Nat} {t:TypeId} {a b:Value} {m n:Int} (ha:a = .int .i64 m) (hb:b = .int .i64 n) (l:List ByteArray) (h:w.heap[q]?=some (.cells (l.map Value.string).toArray t (0,0))):NmV w.heap.size w (.agg #[a,b,.slice (some ⟨q,0,none⟩) l.length l.length]) m n l:=by
 subst ha hb;exact iL l h
set_option maxHeartbeats 4000000 in
theorem SRoots_main (w:World) (m n:Nat) (hm:(-9223372036854775808<=(m:Int)/\(m:Int)<=9223372036854775807)) (hn:(-9223372036854775808<=(n:Int)/\(n:Int)<=9223372036854775807)) (hTab:Tab w) :
 Calls Tryz.prog 7 #[.int .i64 m,.int .i64 n] w (fun e w'=>e = .returned (.bool true)/\w.grownBy w' none):=by
 have lm:m<B^2:=by have:=N9 hm.1 hm.2;rwa [Int.natAbs_natCast] at this
 have ln:n<B^2:=by have:=N9 hn.1 hn.2;rwa [Int.natAbs_natCast] at this
 have lmn:m*n<B^4:=by rw [show (4:Nat)=2+2 from rfl,Nat.pow_add];exact Nat.mul_lt_mul'' lm ln
 have bm:Bd1 2 ((m:Int):Rat):=B8 (by omega) (wB 2 lm)
 have bn:Bd1 2 ((n:Int):Rat):=B8 (by omega) (wB 2 ln)
 refine A4 B6 Tryz.func7 [sZ (m:Int),sZ (n:Int)] [sMd m n 0 1 0 0,sMd m n 0 0 1 0,sMd m n 0 0 0 1,sV (.bool true),X8 m n ((m:Int):Rat) 0 0 0 0,X8 m n ((n:Int):Rat) 0 0 0 0,X8 m n 0 0 0 1 0,sVV (.int .i64 0) (.int .i64 0),sI (m:Int),sN m,sNN (D8 m) (m-D8 m*D8 m),sI (m:Int),sI (n:Int),sI ((m*n:Nat):Int),sN (m*n),sNN (D8 (m*n)) (m*n-D8 (m*n)*D8 (m*n)),sPa ((m:Int):Rat) 0 0 0,sI (m:Int),sQ ((m:Int):Rat),sZ 0,sV (.bool true),sPa ((n:Int):Rat) 0 0 0,sI (n:Int),sQ ((n:Int):Rat),sZ 0,sV (.bool true),sI ((D8 m:Nat):Int),sI ((D8 m:Nat):Int),sZ 0,sV (.bool true),sI ((D8 (m*n):Nat):Int),sI ((D8 (m*n):Nat):Int),sZ 0,sV (.bool true)] (.cons rfl (.cons rfl .nil)) (rs:=[clb 2 19 [.v true [.an 0 0,.an 1 0,.row 0 0 2 2]] [0,1] [(0,9,[.lit (.string ({ data := #[48] })),.lit (.string ({ data := #[49] }))])],clb 3 19 [.v true [.an 0 0,.an 1 0,.row 3 0 3 3]] [0,1,2] [(3,9,[.lit (.string ({ data := #[48] })),.lit (.string ({ data := #[48] })),.lit (.string ({ data := #[49] }))])],clb 4 19 [.v true [.an 0 0,.an 1 0,.row 6 0 4 4]] [0,1,2,3] [(6,9,[.lit (.string ({ data := #[48] })),.lit (.string ({ data := #[48] })),.lit (.string ({ data := #[48] })),.lit (.string ({ data := #[49] }))])],cl 5 12 [],cl 6 23 [ag 20 2,ag 20 2],cl 7 23 [ag 20 3,ag 20 3],cl 8 23 [ag 20 2,ag 20 3],cl 9 24 [ag 20 8,ag 20 4],cl 10 10 [on 0],cl 11 36 [ag 2 10],cl 12 37 [ag 1 11],cl 13 10 [on 0],cl 14 10 [on 1],cl 15 38 [ag 2 13,ag 2 14],cl 16 36 [ag 2 15],cl 17 37 [ag 1 16],cl 18 14 [ag 20 6],cl 19 10 [on 0],cl 20 9 [ag 2 19],cl 21 39 [ag 4 18,ag 4 20],co 22 (.binOp .eql 3 (.tmp 115) (.const (.int .i64 0)) 3) 4 [on 21,.v false [.lit (.int .i64 0)]] [0,1,2,3,4,5,6,7,8,9,10,11,12,13,14,15,16,17,18,19,20,21] [],cl 23 14 [ag 20 7],cl 24 10 [on 1],cl 25 9 [ag 2 24],cl 26 39 [ag 4 23,ag 4 25],co 27 (.binOp .eql 3 (.tmp 124) (.const (.int .i64 0)) 3) 4 [on 26,.v false [.lit (.int .i64 0)]] [0,1,2,3,4,5,6,7,8,9,10,11,12,13,14,15,16,17,18,19,20,21,22,23,24,25,26] [],cl 28 31 [ag 20 2],cl 29 40 [ag 1 12],cl 30 18 [ag 2 28,ag 2 29],co 31 (.binOp .eql 3 (.tmp 136) (.const (.int .i64 0)) 3) 4 [on 30,.v false [.lit (.int .i64 0)]] [0,1,2,3,4,5,6,7,8,9,10,11,12,13,14,15,16,17,18,19,20,21,22,23,24,25,26,27,28,29,30] [],cl 32 31 [ag 20 4],cl 33 40 [ag 1 17],cl 34 18 [ag 2 32,ag 2 33],co 35 (.binOp .eql 3 (.tmp 144) (.const (.int .i64 0)) 3) 4 [on 34,.v false [.lit (.int .i64 0)]] [0,1,2,3,4,5,6,7,8,9,10,11,12,13,14,15,16,17,18,19,20,21,22,23,24,25,26,27,28,29,30,31,32,33,34] []]) (out := .v false [.lit (.bool true)]) (nc:=36) (by kernel_rfl)
  ⟨fun σ W g h hb=>kS (L8 W _ m n [({ data := #[48] } : ByteArray),({ data := #[49] } : ByteArray)] (by have e0:=h 0 rfl;have e1:=h 1 rfl;exact fW e0 e1 [({ data := #[48] } : ByteArray),({ data := #[49] } : ByteArray)] (hb.1 _ (.head _))) hm hn (hTab.kept g (by simp)) ⟨by omega,by omega,by decide,by unfold mGood;decide +kernel⟩ (by decide +kernel) (by decide +kernel) (by decide +kernel) (by decide +kernel)),
  fun σ W g h hb=>kS (L8 W _ m n [({ data := #[48] } : ByteArray),({ data := #[48] } : ByteArray),({ data := #[49] } : ByteArray)] (by have e0:=h 0 rfl;have e1:=h 1 rfl;exact fW e0 e1 [({ data := #[48] } : ByteArray),({ data := #[48] } : ByteArray),({ data := #[49] } : ByteArray)] (hb.1 _ (.head _))) hm hn (hTab.kept g (by simp)) ⟨by omega,by omega,by decide,by unfold mGood;decide +kernel⟩ (by decide +kernel) (by decide +kernel) (by decide +kernel) (by decide +kernel)),
  fun σ W g h hb=>kS (L8 W _ m n [({ data := #[48] } : ByteArray),({ data := #[48] } : ByteArray),({ data := #[48] } : ByteArray),({ data := #[49] } : ByteArray)] (by have e0:=h 0 rfl;have e1:=h 1 rfl;exact fW e0 e1 [({ data := #[48] } : ByteArray),({ data := #[48] } : ByteArray),({ data := #[48] } : ByteArray),({ data := #[49] } : ByteArray)] (hb.1 _ (.head _))) hm hn (hTab.kept g (by simp)) ⟨by omega,by omega,by decide,by unfold mGood;decide +kernel⟩ (by decide +kernel) (by decide +kernel) (by decide +kernel) (by decide +kernel)),
  fun σ W g h hb=>toV (K0 W (hTab.kept g (by simp))) rfl,
  fun σ W g h hb=>Q0 (oD W _ _ m n m n 0 1 0 0 0 1 0 0 2 (md1 (h 2 rfl)) (md1 (h 2 rfl)) (by omega) (wB 2 lm) (wB 2 ln) (wB 2 lm) (wB 2 ln) ⟨zero_bd2.mono (by omega),zero_bd2.mono (by omega)⟩ ⟨one_bd2.mono (by omega),one_bd2.mono (by omega)⟩ ⟨zero_bd2.mono (by omega),zero_bd2.mono (by omega)⟩ ⟨zero_bd2.mono (by omega),zero_bd2.mono (by omega)⟩ ⟨rfl,rfl⟩ (hTab.kept g (by simp)) (by grind) (by grind) (by grind) (by grind)),
  fun σ W g h hb=>Q0 (oD W _ _ m n m n 0 0 1 0 0 0 1 0 2 (md1 (h 3 rfl)) (md1 (h 3 rfl)) (by omega) (wB 2 lm) (wB 2 ln) (wB 2 lm) (wB 2 ln) ⟨zero_bd2.mono (by omega),zero_bd2.mono (by omega)⟩ ⟨zero_bd2.mono (by omega),zero_bd2.mono (by omega)⟩ ⟨one_bd2.mono (by omega),one_bd2.mono (by omega)⟩ ⟨zero_bd2.mono (by omega),zero_bd2.mono (by omega)⟩ ⟨rfl,rfl⟩ (hTab.kept g (by simp)) (by grind) (by grind) (by grind) (by grind)),
  fun σ W g h hb=>Q0 (oD W _ _ m n m n 0 1 0 0 0 0 1 0 2 (md1 (h 2 rfl)) (md1 (h 3 rfl)) (by omega) (wB 2 lm) (wB 2 ln) (wB 2 lm) (wB 2 ln) ⟨zero_bd2.mono (by omega),zero_bd2.mono (by omega)⟩ ⟨one_bd2.mono (by omega),zero_bd2.mono (by omega)⟩ ⟨zero_bd2.mono (by omega),one_bd2.mono (by omega)⟩ ⟨zero_bd2.mono (by omega),zero_bd2.mono (by omega)⟩ ⟨rfl,rfl⟩ (hTab.kept g (by simp)) (by grind) (by grind) (by grind) (by grind)),
  fun σ W g h hb=>toVV (SCmp_eq W _ _ m n 0 0 0 1 0 0 0 1 2 (sdE (h 8 rfl)) (md1 (h 4 rfl)) (by omega) lm ln ⟨zero_bd2.mono (by omega),zero_bd2.mono (by omega)⟩ ⟨zero_bd2.mono (by omega),zero_bd2.mono (by omega)⟩ ⟨zero_bd2.mono (by omega),zero_bd2.mono (by omega)⟩ ⟨one_bd2.mono (by omega),one_bd2.mono (by omega)⟩ (hTab.kept g (by simp)) ⟨rfl,rfl,rfl,rfl⟩) rfl rfl,
  fun σ W g h hb=>W8 (congrArg (fun v=>[v]) (h 0 rfl)) (C5 W (m:Int) hm.1 hm.2),
  fun σ W g h hb=>bD W _ (m:Int) 2 (h 10 rfl) (by omega) (wB 2 lm),
  fun σ W g h hb=>toNN (Z7 W _ m 2 (h 11 rfl) lm (by omega) (by omega)),
  fun σ W g h hb=>W8 (congrArg (fun v=>[v]) (h 0 rfl)) (C5 W (m:Int) hm.1 hm.2),
  fun σ W g h hb=>W8 (congrArg (fun v=>[v]) (h 1 rfl)) (C5 W (n:Int) hn.1 hn.2),
  fun σ W g h hb=>by rw [Int.natCast_mul];exact E7 W _ _ (m:Int) (n:Int) 2 (h 13 rfl) (h 14 rfl) (by omega) (wB 2 lm) (wB 2 ln),
  fun σ W g h hb=>bD W _ ((m*n:Nat):Int) 4 (h 15 rfl) (by omega) (ldi lmn),
  fun σ W g h hb=>toNN (Z7 W _ (m*n) 4 (h 16 rfl) lmn (by omega) (by omega)),
  fun σ W g h hb=>iU W _ _ _ ((m:Int):Rat) 0 0 0 2 (sdE (h 6 rfl)) (by omega) bm (zero_bd2.mono (by omega)) (zero_bd2.mono (by omega)) (zero_bd2.mono (by omega)),
  fun σ W g h hb=>W8 (congrArg (fun v=>[v]) (h 0 rfl)) (C5 W (m:Int) hm.1 hm.2),
  fun σ W g h hb=>B2 W _ _ 2 (h 19 rfl) (by omega) (wB 2 lm),
  fun σ W g h hb=>toZ (FCmp_any W _ _ ((m:Int):Rat) ((m:Int):Rat) 2 (pa0 (h 18 rfl)) (h 20 rfl) (by omega) bm.1 bm.2 bm.1 bm.2) (tF _),
  fun σ W g h hb=>fun ρ o ho _ hv=>⟨_,eq_told true ho ((A1 hv).1.trans (h 21 rfl)) (A1 hv).2 (decide_eq_true rfl),rfl⟩,
  fun σ W g h hb=>iU W _ _ _ ((n:Int):Rat) 0 0 0 2 (sdE (h 7 rfl)) (by omega) bn (zero_bd2.mono (by omega)) (zero_bd2.mono (by omega)) (zero_bd2.mono (by omega)),
  fun σ W g h hb=>W8 (congrArg (fun v=>[v]) (h 1 rfl)) (C5 W (n:Int) hn.1 hn.2),
  fun σ W g h hb=>B2 W _ _ 2 (h 24 rfl) (by omega) (wB 2 ln),
  fun σ W g h hb=>toZ (FCmp_any W _ _ ((n:Int):Rat) ((n:Int):Rat) 2 (pa0 (h 23 rfl)) (h 25 rfl) (by omega) bn.1 bn.2 bn.1 bn.2) (tF _),
  fun σ W g h hb=>fun ρ o ho _ hv=>⟨_,eq_told true ho ((A1 hv).1.trans (h 26 rfl)) (A1 hv).2 (decide_eq_true rfl),rfl⟩,
  fun σ W g h hb=>aM W _ m n 0 1 0 0 2 (md1 (h 2 rfl)) (by omega) zero_bd2 one_bd2 zero_bd2 zero_bd2 lm ln (hTab.kept g (by simp)) _ (floor_m m n),
  fun σ W g h hb=>bB W _ (D8 m) 2 (nn1 (h 12 rfl)) (by omega) (fV lm),
  fun σ W g h hb=>toZ (G6 W _ _ _ _ 2 (h 28 rfl) (h 29 rfl) (by omega) (ldi (fV lm)) (ldi (fV lm))) (zcmp_self _),
  fun σ W g h hb=>fun ρ o ho _ hv=>⟨_,eq_told true ho ((A1 hv).1.trans (h 30 rfl)) (A1 hv).2 (decide_eq_true rfl),rfl⟩,
  fun σ W g h hb=>aM W _ m n 0 0 0 1 2 (md1 (h 4 rfl)) (by omega) zero_bd2 zero_bd2 zero_bd2 one_bd2 lm ln (hTab.kept g (by simp)) _ (floor_mn m n),
  fun σ W g h hb=>bB W _ (D8 (m*n)) 4 (nn1 (h 17 rfl)) (by omega) (fV lmn),
  fun σ W g h hb=>toZ (G6 W _ _ _ _ 4 (h 32 rfl) (h 33 rfl) (by omega) (ldi (fV lmn)) (ldi (fV lmn))) (zcmp_self _),
  fun σ W g h hb=>fun ρ o ho _ hv=>⟨_,eq_told true ho ((A1 hv).1.trans (h 34 rfl)) (A1 hv).2 (decide_eq_true rfl),rfl⟩,
  trivial⟩ fun τ W g h=>⟨rfl,g⟩
theorem SRoots_no (w:World) (m0 n0:Int) (hm:(-9223372036854775808<=m0/\m0<=9223372036854775807)) (hn:(-9223372036854775808<=n0/\n0<=9223372036854775807)) (hTab:Tab w) (hbad:¬ (0<=m0/\0<=n0)) :
 Calls Tryz.prog 7 #[.int .i64 m0,.int .i64 n0] w (fun e w'=>e = .returned (.bool true)/\w.grownBy w' none):=by
 refine A4 B6 Tryz.func7 [sZ m0,sZ n0] [sMn,sMn,sMn,sV (.bool true),sV (.bool true)] (.cons rfl (.cons rfl .nil)) (rs:=[clb 2 19 [.v true [.an 0 0,.an 1 0,.row 0 0 2 2]] [0,1] [(0,9,[.lit (.string ({ data := #[48] })),.lit (.string ({ data := #[49] }))])],clb 3 19 [.v true [.an 0 0,.an 1 0,.row 3 0 3 3]] [0,1,2] [(3,9,[.lit (.string ({ data := #[48] })),.lit (.string ({ data := #[48] })),.lit (.string ({ data := #[49] }))])],clb 4 19 [.v true [.an 0 0,.an 1 0,.row 6 0 4 4]] [0,1,2,3] [(6,9,[.lit (.string ({ data := #[48] })),.lit (.string ({ data := #[48] })),.lit (.string ({ data := #[48] })),.lit (.string ({ data := #[49] }))])],cl 5 12 [],cl 6 12 []]) (out := .v false [.lit (.bool true)]) (nc:=7) (by kernel_rfl)
  ⟨fun σ W g h hb=>toMn (dG W _ m0 n0 [({ data := #[48] } : ByteArray),({ data := #[49] } : ByteArray)] (by have e0:=h 0 rfl;have e1:=h 1 rfl;exact fW e0 e1 [({ data := #[48] } : ByteArray),({ data := #[49] } : ByteArray)] (hb.1 _ (.head _))) hm hn (hTab.kept g (by simp)) (fun k=>hbad ⟨k.1,k.2.1⟩)),
  fun σ W g h hb=>toMn (dG W _ m0 n0 [({ data := #[48] } : ByteArray),({ data := #[48] } : ByteArray),({ data := #[49] } : ByteArray)] (by have e0:=h 0 rfl;have e1:=h 1 rfl;exact fW e0 e1 [({ data := #[48] } : ByteArray),({ data := #[48] } : ByteArray),({ data := #[49] } : ByteArray)] (hb.1 _ (.head _))) hm hn (hTab.kept g (by simp)) (fun k=>hbad ⟨k.1,k.2.1⟩)),
  fun σ W g h hb=>toMn (dG W _ m0 n0 [({ data := #[48] } : ByteArray),({ data := #[48] } : ByteArray),({ data := #[48] } : ByteArray),({ data := #[49] } : ByteArray)] (by have e0:=h 0 rfl;have e1:=h 1 rfl;exact fW e0 e1 [({ data := #[48] } : ByteArray),({ data := #[48] } : ByteArray),({ data := #[48] } : ByteArray),({ data := #[49] } : ByteArray)] (hb.1 _ (.head _))) hm hn (hTab.kept g (by simp)) (fun k=>hbad ⟨k.1,k.2.1⟩)),
  fun σ W g h hb=>toV (K0 W (hTab.kept g (by simp))) rfl,
  fun σ W g h hb=>toV (K0 W (hTab.kept g (by simp))) rfl,
  trivial⟩ fun τ W g h=>⟨rfl,g⟩
theorem oU (w:World) (m0 n0:Int) (hm:(-9223372036854775808<=m0/\m0<=9223372036854775807)) (hn:(-9223372036854775808<=n0/\n0<=9223372036854775807)) (hTab:Tab w) :
 Calls Tryz.prog 7 #[.int .i64 m0,.int .i64 n0] w (fun e w'=>e = .returned (.bool true)/\w.grownBy w' none):=by
 by_cases k1 : 0<=m0/\0<=n0
 rotate_left
 · exact SRoots_no w m0 n0 hm hn hTab k1
 obtain ⟨m,rfl⟩:=Int.eq_ofNat_of_zero_le k1.1
 obtain ⟨n,rfl⟩:=Int.eq_ofNat_of_zero_le k1.2
 exact SRoots_main w m n hm hn hTab
end Go.Proofs.YtdgdmicbbfoghaaGreatDoor
namespace Go.Proofs.YtdgdmicbbfoghaaGreatDoor.SurdRoots
open Go.ChangeShapes Go.WideShapes Go.ChangeAt Go.RowKit Go.ChangeMaps
theorem contract (H:Type) (enc:TypeId × Value->H) (W:World) (base:Nat) (args:Array Value) (ds gs:List (DataW H)) (before:List MemPlace)
 (hval:∀ (j:Nat) t v,Tryz.f7.params[j]?=some t->args[j]?=some v->Value.okWide Tryz.prog W .any base t v)
 (hW:DataW.Whole enc Tryz.prog Tryz.f7.params.toList Rows.surdRootsSpec.vars false W args.toList ds gs before) (hL:laidMetH Tryz.prog Rows.surdRootsRow.laid W) :
 Calls Tryz.prog 7 args W fun e W'=>∃ v,e = .returned v/\Rows.surdRootsSpec.post enc Tryz.prog Tryz.f7 false true false false W args v W':=by
 have hW':=hW
 obtain ⟨p,q,hA0,hV,rfl,hfz,hnd⟩:=hW
 have hA:DataW.TrodAll enc Tryz.prog W 0 (fun _=>true) true Tryz.f7.params.toList args.toList ds p:=hA0
 rw [Tryz.params7] at hA hval
 obtain ⟨v0,vs0,d0,ds0,p0,q0,hargs0,rfl,rfl,h0,r0⟩:=trodAll_cons hA
 obtain ⟨v1,vs1,d1,ds1,p1,q1,hargs1,rfl,rfl,h1,r1⟩:=trodAll_cons r0
 obtain ⟨rfl,rfl,rfl⟩:=trodAll_nil r1
 obtain rfl:args = #[v0,v1]:=by cases args;simp_all
 obtain ⟨rfl,rfl⟩:=trodVars_none hV
 simp only [List.append_nil] at hW' hfz
 have hlt:∀ p ∈ p0++p1,p.block<W.heap.size:=fun p hp=>by
  have:=DataW.TrodAll.lt hA p (by simpa using hp)
  exact this
 have hv0:=hval 0 3 v0 rfl rfl
 obtain ⟨x0,rfl,_,_,w0⟩:=open_int Tryz.underlying3 hv0 h0
 have hv1:=hval 1 3 v1 rfl rfl
 obtain ⟨x1,rfl,_,_,w1⟩:=open_int Tryz.underlying3 hv1 h1
 clear hA0
 refine (oU W x0 x1 (qF w0) (qF w1) (tab_of hL)).mono fun e W' ⟨he,hg⟩=>?_
 subst he
 have hs0:∀ sp:Nat->Bool,(∀ p ∈ p0,sp p.block=true)->DataW.Trod enc Tryz.prog W' 0 sp true 3 (.int .i64 x0) d0 p0:=fun sp hsp=>
  Go.WideElems.Trod_stays (by kernel_rfl) (by kernel_rfl) (of_decide_eq_true (by kernel_rfl)) h0 (fun p hp=>cW hg (hlt p (by simp [hp]))) hsp
 have hs1:∀ sp:Nat->Bool,(∀ p ∈ p1,sp p.block=true)->DataW.Trod enc Tryz.prog W' 0 sp true 3 (.int .i64 x1) d1 p1:=fun sp hsp=>
  Go.WideElems.Trod_stays (by kernel_rfl) (by kernel_rfl) (of_decide_eq_true (by kernel_rfl)) h1 (fun p hp=>cW hg (hlt p (by simp [hp]))) hsp
 exact ⟨_,rfl,mN hW' hlt (fun _ _ _=>trodAll_cons_mk (shut_bool Tryz.underlying4 _) trodAll_mk0) (fun sp hsp=>by
  have:=trodAll_cons_mk (hs0 sp (fun p hp=>hsp p (by simp [hp]))) (trodAll_cons_mk (hs1 sp (fun p hp=>hsp p (by simp [hp]))) (trodAll_mk0))
  rw [List.append_nil] at this
  exact this) (fun _=>rfl) hg (ok_one (by kernel_rfl) rfl (okWide_bool_mk Tryz.underlying4 _))⟩
theorem laid_met (os:Os):laidMet Tryz.prog Rows.surdRootsRow.laid ((Y8 os).forCall (fun _ _=>0) ⟨#[], #[.int .i64 0,.int .i64 0],[]⟩).memory:=
 laidMet_of_run' 80 (by kernel_rfl) (by kernel_rfl)
theorem reads (os:Os) {H:Type} (enc:TypeId × Value->H):∃ places,DataW.whole enc Tryz.prog ((Y8 os).forCall (fun _ _=>0) ⟨#[], #[.int .i64 0,.int .i64 0],[]⟩).memory Tryz.f7.params.toList Rows.surdRootsSpec.vars false #[Value.int .i64 0,Value.int .i64 0].toList 8=some ([.lit (.int .i64 0),.lit (.int .i64 0)],[],places):=
 ⟨[],by kernel_rfl⟩
theorem lifted (os:Os) (started:os.Started) (H:Type) (enc:TypeId × Value->H) (F:Stop.Interp) :
 ReturnsInHanded {} Tryz.checked os 7 .any ((OpenSpec.ofChange Rows.surdRootsSpec).preRow enc Tryz.prog Tryz.f7 Rows.surdRootsRow.domain false Rows.surdRootsRow.laid) (((OpenSpec.ofChange Rows.surdRootsSpec).at F).post enc Tryz.prog Tryz.f7 false true false false):=by
 obtain ⟨places,hx⟩:=reads os enc
 refine returnsInHanded_of_row (C:=Tryz.checked) (s:=OpenSpec.ofChange Rows.surdRootsSpec) law_own started (by kernel_rfl) Tryz.func7
  (witness_row_at (enc:=enc) (C:=Tryz.checked) false (Y8 os) #[.int .i64 0,.int .i64 0] rfl (by kernel_rfl) (by kernel_rfl) (by kernel_rfl)
   (OpenSpec.preRow_of_cond 8 hx (by kernel_rfl) (fun k hk=>by cases hk) (by kernel_rfl) (laid_met os))) ?_
 intro W base args ds gs before hval hW _ _ _ hL _ _
 exact contract H enc W base args ds gs before hval hW hL
theorem said:Rows.SurdRootsSaid:=
 OpenClaim.holds_of_cond 7 Tryz.f7 rfl rfl rfl rfl rfl rfl rfl ⟨rfl,rfl,rfl,rfl,rfl⟩ rfl rfl rfl rfl rfl (by kernel_rfl) Tryz.func7 (by kernel_rfl)
  (of_decide_eq_true (by kernel_rfl)) (by unfold Func.isWrapper;first | (rw [if_pos (by decide +kernel)];kernel_rfl) | (rw [if_neg (by decide +kernel)];exact ⟨rfl,rfl⟩))
  (fun os started H enc _ F=>by rw [OpenClaim.pre_eq_preRow];exact lifted os started H enc F)
theorem plain (f : FuncId) (fn : Func) (hf : Tryz.pinned.checked.prog.funcNamed "pellicle/pelliclelaw04.SurdRoots" = some f) (hfn : Tryz.pinned.checked.prog.funcs[f]? = some fn) :
 false=Tryz.pinned.checked.prog.looks [] /\ ∀ (j:Nat) t,fn.params[j]?=some t->Tryz.pinned.checked.prog.wantsStandIn t=false:=by
 obtain rfl : f = 7 := Option.some.inj ((show Tryz.prog.funcNamed "pellicle/pelliclelaw04.SurdRoots" = some 7 by kernel_rfl).symm.trans hf) |>.symm
 obtain rfl:fn=Tryz.f7:=(Option.some.inj (Tryz.func7.symm.trans hfn)).symm
 refine ⟨by kernel_rfl,fun j t ht=>?_⟩
 rw [Tryz.params7] at ht
 have ht2:=Array.mem_of_getElem? ht
 simp at ht2
 first | (rcases ht2 with rfl | rfl | rfl) | (rcases ht2 with rfl | rfl) | subst ht2
 all_goals exact (show Tryz.prog.wantsStandIn _=false by kernel_rfl)
theorem card:Rows.SurdRootsCardSaid:=
 Claim7.holds_tied_plain_at .later [] _ _ _ _ said (fun _ h=>by cases h) (by kernel_rfl) (fun _ h=>by cases h) surdRoots_row_tie rfl ⟨rfl,rfl⟩ (by kernel_rfl) rfl plain (by kernel_rfl)
end Go.Proofs.YtdgdmicbbfoghaaGreatDoor.SurdRoots
