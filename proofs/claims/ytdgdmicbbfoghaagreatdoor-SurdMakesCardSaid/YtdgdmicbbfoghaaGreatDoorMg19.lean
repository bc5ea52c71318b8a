/- What the laws lean on, part 19. -/
import Derived.Below
import Derived.BigCall
import Derived.BigQuiet
import Derived.BigRegion
import Derived.Deep.AppendLies
import Derived.Deep.CutBlock
import Derived.Deep.CutRange
import Derived.Deep.DeepCutAuto
import Derived.Deep.LoopGhost
import Derived.Deep.MidRow
import Derived.Deep.QuietTactic
import Derived.Deep.RegionHeld3
import Derived.Deep.WholeRow
import Derived.Laws.AppendOwn
import Derived.Laws.CopyOwn
import Derived.Laws.Externs
import Derived.Laws.IdiomStrings
import Derived.Lib.BitFns
import Derived.Lib.Hide
import Derived.Lib.Slices
import Derived.Lib.Small
import Derived.Lib.Strings
import Derived.Lib.Walk
import Derived.LoopN
import Derived.OrdersHeld
import Derived.OrdersIn
import Derived.Outline
import Derived.OwnWalk
import Derived.RangeFuncCalls
import Derived.RangeFuncNested
import Derived.RangeFuncOwn
import Derived.Shelf.Bits.Mul64
import Derived.Shelf.Spec.TrailingZeros
import Derived.StillTailTactics
import Derived.WalkKit
import Derived.WalkLawsBesides
import Derived.WalkSpells
import Derived.Test.YtdgdmicbbfoghaaGreatDoorProg
import Derived.Test.YtdgdmicbbfoghaaGreatDoorMg17
set_option linter.unusedVariables false
set_option linter.unusedSimpArgs false
set_option maxRecDepth 100000
namespace Go.Proofs.YtdgdmicbbfoghaaGreatDoor
open Go.RowKit Mat Ex
theorem xmul_nb {a b:Rat} {k m:Nat} (h1:a.num.natAbs<B^k) (h3:b.num.natAbs<B^m):(a*b).num.natAbs<B^(k+m):=by
 rw [jG,Int.natAbs_mul,Nat.pow_add]
 exact Nat.mul_lt_mul'' (Nat.lt_of_le_of_lt (Int.natAbs_ediv_le_natAbs _ _) h1) (Nat.lt_of_le_of_lt (Int.natAbs_ediv_le_natAbs _ _) h3)
theorem xmul_db {a b:Rat} {k m:Nat} (h2:a.den<B^k) (h4:b.den<B^m):(a*b).den<B^(k+m):=by
 rw [jH,Nat.pow_add]
 exact Nat.mul_lt_mul'' (Nat.lt_of_le_of_lt (Nat.div_le_self _ _) h2) (Nat.lt_of_le_of_lt (Nat.div_le_self _ _) h4)
theorem E5 {K:Nat} {r t:Rat} (h:Bd1 K r) (h2:Bd1 K t):Bd1 (K+K) (r*t):=⟨xmul_nb h.1 h2.1,xmul_db h.2 h2.2⟩
theorem B9 {K:Nat} (hK : 1<=K):Bd1 K (0:Rat):=⟨Nat.pow_pos D6,bH K hK⟩
theorem C5 {E:Nat} {z:Int} (hE : 1<=E) (h:z.natAbs<B^E):Bd1 E (z:Rat):=⟨by rw [Rat.num_intCast];exact h,by rw [Rat.den_intCast];exact bH E hE⟩
theorem RatV.eq {W:World} {v:Value} {z z':Rat} (e:z'=z) (h:RatV W v z):RatV W v z':=e ▸ h
theorem I6 {k m:Nat} {a b:Rat} (h:Bd1 k a) (h2:Bd1 m b):Bd1 (k+m+1) (a+b):=⟨nD h.1 h.2 h2.1 h2.2,nF h.2 h2.2⟩
theorem K8 (r:Rat):(r.num.sign == 0)=decide (r=0):=by
 by_cases h:r=0
 · rw [J3 h,decide_eq_true h];rfl
 · rw [decide_eq_false h];exact beq_eq_false_iff_ne.2 (I1 h)
set_option maxHeartbeats 4000000 in
theorem SMul_same (w:World) (va vb:Value) (m n m' n':Int) (r0 r1 r2 r3 t0 t1 t2 t3:Rat) (K:Nat) (Ha:SurdV w va m n r0 r1 r2 r3) (Hb:SurdV w vb m' n' t0 t1 t2 t3) (hK : 1<=K/\K<=4000) (lm:m.natAbs<B^K) (ln:n.natAbs<B^K) (lx:m'.natAbs<B^K) (ly:n'.natAbs<B^K) (n0:Bd1 K r0/\Bd1 K t0) (n1:Bd1 K r1/\Bd1 K t1) (n2:Bd1 K r2/\Bd1 K t2) (n3:Bd1 K r3/\Bd1 K t3) (hs:m=m'/\n=n') (hTab:Tab w) :
 Calls Tryz.prog 23 #[va,vb] w (J5 w m n (r0*t0+(m:Rat)*(r1*t1)+(n:Rat)*(r2*t2)+(m:Rat)*(n:Rat)*(r3*t3)) (r0*t1+r1*t0+(n:Rat)*(r2*t3+r3*t2)) (r0*t2+r2*t0+(m:Rat)*(r1*t3+r3*t1)) (r0*t3+r3*t0+r1*t2+r2*t1) 0):=by
 have k2:∀ {x:Rat},Bd1 (K+K) x->Bd1 (16*K+5) x:=fun h=>h.mono (by omega)
 have HT:∀ W,w.grownBy W none->Tab W:=fun W g=>hTab.kept g (by simp)
 have c0:(1:Int).natAbs<B^(K+K):=bH _ (by omega)
 have c1:m.natAbs<B^(K+K):=D2 lm (by omega)
 have c2:n.natAbs<B^(K+K):=D2 ln (by omega)
 have c3:(m*n).natAbs<B^(K+K):=G3 lm ln
 have T:∀ {r t:Rat} {z:Int},Bd1 K r->Bd1 K t->z.natAbs<B^(K+K)->Bd1 (K+K+(K+K)) (r*t*(z:Rat)):=fun h h2 h3=>E5 (E5 h h2) (C5 (by omega) h3)
 obtain ⟨V0,e0⟩:∃ x,(0:Rat)+r0*t0*(((1:Int)):Rat)=x:=⟨_,rfl⟩
 have v0:Bd1 (1*(4*K+1)+1) V0:=e0 ▸ (I6 (B9 (K:=1) (by omega)) (T n0.1 n0.2 c0)).mono (by omega)
 have q0:r0=0\/t0=0->V0=0:=fun h=>by rcases h with h | h<;>rw [<- e0,h]<;>simp [Rat.add_zero,Rat.zero_add,Rat.mul_zero,Rat.zero_mul]
 obtain ⟨V1,e1⟩:∃ x,(0:Rat)+r0*t1*(((1:Int)):Rat)=x:=⟨_,rfl⟩
 have v1:Bd1 (1*(4*K+1)+1) V1:=e1 ▸ (I6 (B9 (K:=1) (by omega)) (T n0.1 n1.2 c0)).mono (by omega)
 have q1:r0=0\/t1=0->V1=0:=fun h=>by rcases h with h | h<;>rw [<- e1,h]<;>simp [Rat.add_zero,Rat.zero_add,Rat.mul_zero,Rat.zero_mul]
 obtain ⟨V2,e2⟩:∃ x,(0:Rat)+r0*t2*(((1:Int)):Rat)=x:=⟨_,rfl⟩
 have v2:Bd1 (1*(4*K+1)+1) V2:=e2 ▸ (I6 (B9 (K:=1) (by omega)) (T n0.1 n2.2 c0)).mono (by omega)
 have q2:r0=0\/t2=0->V2=0:=fun h=>by rcases h with h | h<;>rw [<- e2,h]<;>simp [Rat.add_zero,Rat.zero_add,Rat.mul_zero,Rat.zero_mul]
 obtain ⟨V3,e3⟩:∃ x,(0:Rat)+r0*t3*(((1:Int)):Rat)=x:=⟨_,rfl⟩
 have v3:Bd1 (1*(4*K+1)+1) V3:=e3 ▸ (I6 (B9 (K:=1) (by omega)) (T n0.1 n3.2 c0)).mono (by omega)
 have q3:r0=0\/t3=0->V3=0:=fun h=>by rcases h with h | h<;>rw [<- e3,h]<;>simp [Rat.add_zero,Rat.zero_add,Rat.mul_zero,Rat.zero_mul]
 obtain ⟨V4,e4⟩:∃ x,V1+r1*t0*(((1:Int)):Rat)=x:=⟨_,rfl⟩
 have v4:Bd1 (2*(4*K+1)+1) V4:=e4 ▸ (I6 (v1) (T n1.1 n0.2 c0)).mono (by omega)
 have q4:r1=0\/t0=0->V4=V1:=fun h=>by rcases h with h | h<;>rw [<- e4,h]<;>simp [Rat.add_zero,Rat.zero_add,Rat.mul_zero,Rat.zero_mul]
 obtain ⟨V5,e5⟩:∃ x,V0+r1*t1*(((m:Int)):Rat)=x:=⟨_,rfl⟩
 have v5:Bd1 (2*(4*K+1)+1) V5:=e5 ▸ (I6 (v0) (T n1.1 n1.2 c1)).mono (by omega)
 have q5:r1=0\/t1=0->V5=V0:=fun h=>by rcases h with h | h<;>rw [<- e5,h]<;>simp [Rat.add_zero,Rat.zero_add,Rat.mul_zero,Rat.zero_mul]
 obtain ⟨V6,e6⟩:∃ x,V3+r1*t2*(((1:Int)):Rat)=x:=⟨_,rfl⟩
 have v6:Bd1 (2*(4*K+1)+1) V6:=e6 ▸ (I6 (v3) (T n1.1 n2.2 c0)).mono (by omega)
 have q6:r1=0\/t2=0->V6=V3:=fun h=>by rcases h with h | h<;>rw [<- e6,h]<;>simp [Rat.add_zero,Rat.zero_add,Rat.mul_zero,Rat.zero_mul]
 obtain ⟨V7,e7⟩:∃ x,V2+r1*t3*(((m:Int)):Rat)=x:=⟨_,rfl⟩
 have v7:Bd1 (2*(4*K+1)+1) V7:=e7 ▸ (I6 (v2) (T n1.1 n3.2 c1)).mono (by omega)
 have q7:r1=0\/t3=0->V7=V2:=fun h=>by rcases h with h | h<;>rw [<- e7,h]<;>simp [Rat.add_zero,Rat.zero_add,Rat.mul_zero,Rat.zero_mul]
 obtain ⟨V8,e8⟩:∃ x,V7+r2*t0*(((1:Int)):Rat)=x:=⟨_,rfl⟩
 have v8:Bd1 (3*(4*K+1)+1) V8:=e8 ▸ (I6 (v7) (T n2.1 n0.2 c0)).mono (by omega)
 have q8:r2=0\/t0=0->V8=V7:=fun h=>by rcases h with h | h<;>rw [<- e8,h]<;>simp [Rat.add_zero,Rat.zero_add,Rat.mul_zero,Rat.zero_mul]
 obtain ⟨V9,e9⟩:∃ x,V6+r2*t1*(((1:Int)):Rat)=x:=⟨_,rfl⟩
 have v9:Bd1 (3*(4*K+1)+1) V9:=e9 ▸ (I6 (v6) (T n2.1 n1.2 c0)).mono (by omega)
 have q9:r2=0\/t1=0->V9=V6:=fun h=>by rcases h with h | h<;>rw [<- e9,h]<;>simp [Rat.add_zero,Rat.zero_add,Rat.mul_zero,Rat.zero_mul]
 obtain ⟨V10,e10⟩:∃ x,V5+r2*t2*(((n:Int)):Rat)=x:=⟨_,rfl⟩
 have v10:Bd1 (3*(4*K+1)+1) V10:=e10 ▸ (I6 (v5) (T n2.1 n2.2 c2)).mono (by omega)
 have q10:r2=0\/t2=0->V10=V5:=fun h=>by rcases h with h | h<;>rw [<- e10,h]<;>simp [Rat.add_zero,Rat.zero_add,Rat.mul_zero,Rat.zero_mul]
 obtain ⟨V11,e11⟩:∃ x,V4+r2*t3*(((n:Int)):Rat)=x:=⟨_,rfl⟩
 have v11:Bd1 (3*(4*K+1)+1) V11:=e11 ▸ (I6 (v4) (T n2.1 n3.2 c2)).mono (by omega)
 have q11:r2=0\/t3=0->V11=V4:=fun h=>by rcases h with h | h<;>rw [<- e11,h]<;>simp [Rat.add_zero,Rat.zero_add,Rat.mul_zero,Rat.zero_mul]
 obtain ⟨V12,e12⟩:∃ x,V9+r3*t0*(((1:Int)):Rat)=x:=⟨_,rfl⟩
 have v12:Bd1 (4*(4*K+1)+1) V12:=e12 ▸ (I6 (v9) (T n3.1 n0.2 c0)).mono (by omega)
 have q12:r3=0\/t0=0->V12=V9:=fun h=>by rcases h with h | h<;>rw [<- e12,h]<;>simp [Rat.add_zero,Rat.zero_add,Rat.mul_zero,Rat.zero_mul]
 obtain ⟨V13,e13⟩:∃ x,V8+r3*t1*(((m:Int)):Rat)=x:=⟨_,rfl⟩
 have v13:Bd1 (4*(4*K+1)+1) V13:=e13 ▸ (I6 (v8) (T n3.1 n1.2 c1)).mono (by omega)
 have q13:r3=0\/t1=0->V13=V8:=fun h=>by rcases h with h | h<;>rw [<- e13,h]<;>simp [Rat.add_zero,Rat.zero_add,Rat.mul_zero,Rat.zero_mul]
 obtain ⟨V14,e14⟩:∃ x,V11+r3*t2*(((n:Int)):Rat)=x:=⟨_,rfl⟩
 have v14:Bd1 (4*(4*K+1)+1) V14:=e14 ▸ (I6 (v11) (T n3.1 n2.2 c2)).mono (by omega)
 have q14:r3=0\/t2=0->V14=V11:=fun h=>by rcases h with h | h<;>rw [<- e14,h]<;>simp [Rat.add_zero,Rat.zero_add,Rat.mul_zero,Rat.zero_mul]
 obtain ⟨V15,e15⟩:∃ x,V10+r3*t3*((((m*n):Int)):Rat)=x:=⟨_,rfl⟩
 have v15:Bd1 (4*(4*K+1)+1) V15:=e15 ▸ (I6 (v10) (T n3.1 n3.2 c3)).mono (by omega)
 have q15:r3=0\/t3=0->V15=V10:=fun h=>by rcases h with h | h<;>rw [<- e15,h]<;>simp [Rat.add_zero,Rat.zero_add,Rat.mul_zero,Rat.zero_mul]
 have z0:r0*t0+(m:Rat)*(r1*t1)+(n:Rat)*(r2*t2)+(m:Rat)*(n:Rat)*(r3*t3)=V15:=by
  rw [<- e15, <- e10, <- e5, <- e0]
  simp only [Rat.intCast_mul,Rat.intCast_one]
  grind
 have z1:r0*t1+r1*t0+(n:Rat)*(r2*t3+r3*t2)=V14:=by
  rw [<- e14, <- e11, <- e4, <- e1]
  simp only [Rat.intCast_mul,Rat.intCast_one]
  grind
 have z2:r0*t2+r2*t0+(m:Rat)*(r1*t3+r3*t1)=V13:=by
  rw [<- e13, <- e8, <- e7, <- e2]
  simp only [Rat.intCast_mul,Rat.intCast_one]
  grind
 have z3:r0*t3+r3*t0+r1*t2+r2*t1=V12:=by
  rw [<- e12, <- e9, <- e6, <- e3]
  simp only [Rat.intCast_mul,Rat.intCast_one]
  grind
 refine eH B5 Tryz.func23 [sSd m n r0 r1 r2 r3,sSd m' n' t0 t1 t2 t3] (sV (.bool true) :: sTw m n :: sIs 1 m n (m*n) :: sB (decide (r0=0)) :: sV (.int .i64 0) :: sZ r0.num.sign :: sV (.bool false) :: sZ t0.num.sign :: sB (decide (t0=0)) :: sQ (r0*t0) :: sQ ((1:Int):Rat) :: sQ (r0*t0*((1:Int):Rat)) :: sQ V0 :: sQ V0 :: sB (decide (r0=0)) :: sV (.int .i64 0) :: sZ r0.num.sign :: sV (.bool false) :: sZ t1.num.sign :: sB (decide (t1=0)) :: sQ (r0*t1) :: sQ ((1:Int):Rat) :: sQ (r0*t1*((1:Int):Rat)) :: sQ V1 :: sQ V1 :: sB (decide (r0=0)) :: sV (.int .i64 0) :: sZ r0.num.sign :: sV (.bool false) :: sZ t2.num.sign :: sB (decide (t2=0)) :: sQ (r0*t2) :: sQ ((1:Int):Rat) :: sQ (r0*t2*((1:Int):Rat)) :: sQ V2 :: sQ V2 :: sB (decide (r0=0)) :: sV (.int .i64 0) :: sZ r0.num.sign :: sV (.bool false) :: sZ t3.num.sign :: sB (decide (t3=0)) :: sQ (r0*t3) :: sQ ((1:Int):Rat) :: sQ (r0*t3*((1:Int):Rat)) :: sQ V3 :: sQ V3 :: sB (decide (r1=0)) :: sV (.int .i64 0) :: sZ r1.num.sign :: sV (.bool false) :: sZ t0.num.sign :: sB (decide (t0=0)) :: sQ (r1*t0) :: sQ ((1:Int):Rat) :: sQ (r1*t0*((1:Int):Rat)) :: sQ V4 :: sQ V4 :: sB (decide (r1=0)) :: sV (.int .i64 0) :: sZ r1.num.sign :: sV (.bool false) :: sZ t1.num.sign :: sB (decide (t1=0)) :: sQ (r1*t1) :: sQ ((m:Int):Rat) :: sQ (r1*t1*((m:Int):Rat)) :: sQ V5 :: sQ V5 :: sB (decide (r1=0)) :: sV (.int .i64 0) :: sZ r1.num.sign :: sV (.bool false) :: sZ t2.num.sign :: sB (decide (t2=0)) :: sQ (r1*t2) :: sQ ((1:Int):Rat) :: sQ (r1*t2*((1:Int):Rat)) :: sQ V6 :: sQ V6 :: sB (decide (r1=0)) :: sV (.int .i64 0) :: sZ r1.num.sign :: sV (.bool false) :: sZ t3.num.sign :: sB (decide (t3=0)) :: sQ (r1*t3) :: sQ ((m:Int):Rat) :: sQ (r1*t3*((m:Int):Rat)) :: sQ V7 :: sQ V7 :: sB (decide (r2=0)) :: sV (.int .i64 0) :: sZ r2.num.sign :: sV (.bool false) :: sZ t0.num.sign :: sB (decide (t0=0)) :: sQ (r2*t0) :: sQ ((1:Int):Rat) :: sQ (r2*t0*((1:Int):Rat)) :: sQ V8 :: sQ V8 :: sB (decide (r2=0)) :: sV (.int .i64 0) :: sZ r2.num.sign :: sV (.bool false) :: sZ t1.num.sign :: sB (decide (t1=0)) :: sQ (r2*t1) :: sQ ((1:Int):Rat) :: sQ (r2*t1*((1:Int):Rat)) :: sQ V9 :: sQ V9 :: sB (decide (r2=0)) :: sV (.int .i64 0) :: sZ r2.num.sign :: sV (.bool false) :: sZ t2.num.sign :: sB (decide (t2=0)) :: sQ (r2*t2) :: sQ ((n:Int):Rat) :: sQ (r2*t2*((n:Int):Rat)) :: sQ V10 :: sQ V10 :: sB (decide (r2=0)) :: sV (.int .i64 0) :: sZ r2.num.sign :: sV (.bool false) :: sZ t3.num.sign :: sB (decide (t3=0)) :: sQ (r2*t3) :: sQ ((n:Int):Rat) :: sQ (r2*t3*((n:Int):Rat)) :: sQ V11 :: sQ V11 :: sB (decide (r3=0)) :: sV (.int .i64 0) :: sZ r3.num.sign :: sV (.bool false) :: sZ t0.num.sign :: sB (decide (t0=0)) :: sQ (r3*t0) :: sQ ((1:Int):Rat) :: sQ (r3*t0*((1:Int):Rat)) :: sQ V12 :: sQ V12 :: sB (decide (r3=0)) :: sV (.int .i64 0) :: sZ r3.num.sign :: sV (.bool false) :: sZ t1.num.sign :: sB (decide (t1=0)) :: sQ (r3*t1) :: sQ ((m:Int):Rat) :: sQ (r3*t1*((m:Int):Rat)) :: sQ V13 :: sQ V13 :: sB (decide (r3=0)) :: sV (.int .i64 0) :: sZ r3.num.sign :: sV (.bool false) :: sZ t2.num.sign :: sB (decide (t2=0)) :: sQ (r3*t2) :: sQ ((n:Int):Rat) :: sQ (r3*t2*((n:Int):Rat)) :: sQ V14 :: sQ V14 :: sB (decide (r3=0)) :: sV (.int .i64 0) :: sZ r3.num.sign :: sV (.bool false) :: sZ t3.num.sign :: sB (decide (t3=0)) :: sQ (r3*t3) :: sQ (((m*n):Int):Rat) :: sQ (r3*t3*(((m*n):Int):Rat)) :: sQ V15 :: sQ V15 :: []) [11] [none,some [[.c 3 4,.c 3 5,.c 3 6,.c 3 7]],none,some [[.c 3 8,.c 3 9,.c 3 10,.c 3 11]],none,some [[.c 3 12,.c 3 13,.c 3 14,.c 3 15]],none,some [[.c 3 16,.c 3 17,.c 3 18,.c 3 19]],none,some [[.c 3 8,.c 3 9,.c 3 10,.c 3 11]],none,some [[.c 3 4,.c 3 5,.c 3 6,.c 3 7]],none,some [[.c 3 16,.c 3 17,.c 3 18,.c 3 19]],none,some [[.c 3 12,.c 3 13,.c 3 14,.c 3 15]],none,some [[.c 3 12,.c 3 13,.c 3 14,.c 3 15]],none,some [[.c 3 16,.c 3 17,.c 3 18,.c 3 19]],none,some [[.c 3 4,.c 3 5,.c 3 6,.c 3 7]],none,some [[.c 3 8,.c 3 9,.c 3 10,.c 3 11]],none,some [[.c 3 16,.c 3 17,.c 3 18,.c 3 19]],none,some [[.c 3 12,.c 3 13,.c 3 14,.c 3 15]],none,some [[.c 3 8,.c 3 9,.c 3 10,.c 3 11]],none,some [[.c 3 4,.c 3 5,.c 3 6,.c 3 7]]] (.cons Ha (.cons Hb .nil)) (rs:=((cl 2 64 [ag 4 0,ag 4 1],[]) :: (cl 3 49 [ag 4 0],[]) :: (cl 4 65 [ag 4 0],[]) :: (cl 6 66 [.v true [.an 0 4,.an 0 5,.an 0 6,.an 0 7]],[(5,0,true)]) :: (cla 7 66 [.v true [.an 0 4,.an 0 5,.an 0 6,.an 0 7]] [0,1,2,3,4,5],[(5,0,false)]) :: (co 8 (.binOp .eql 3 (.tmp 40) (.const (.int .i64 0)) 3) 4 [on 7,.v false [.lit (.int .i64 0)]] [0,1,2,3,4,5,7] [],[(5,0,false)]) :: (cla 9 66 [.v true [.an 1 4,.an 1 5,.an 1 6,.an 1 7]] [0,1,2,3,4,5,7,8],[(5,0,false)]) :: (co 10 (.binOp .eql 3 (.tmp 44) (.const (.int .i64 0)) 3) 4 [on 9,.v false [.lit (.int .i64 0)]] [0,1,2,3,4,5,7,8,9] [],[(5,0,false)]) :: (cla 11 67 [.v true [.an 0 4,.an 0 5,.an 0 6,.an 0 7],.v true [.an 1 4,.an 1 5,.an 1 6,.an 1 7]] [0,1,2,3,4,5,7,8,9,10],[(10,0,false),(5,0,false)]) :: (cla 12 9 [ag 2 4] [0,1,2,3,4,5,7,8,9,10,11],[(10,0,false),(5,0,false)]) :: (cla 13 67 [ag 4 11,ag 4 12] [0,1,2,3,4,5,7,8,9,10,11,12],[(10,0,false),(5,0,false)]) :: (cla 14 42 [.v true [.lit (.slice none 0 0),.lit (.bool false),.lit (.slice none 0 0),.lit (.bool false)],ag 4 13] [0,1,2,3,4,5,7,8,9,10,11,12,13],[(10,0,false),(5,0,false)]) :: (cla 17 66 [.v true [.an 0 4,.an 0 5,.an 0 6,.an 0 7]] [0,1,2,3,4,5,15,16],[(16,0,true)]) :: (cla 18 66 [.v true [.an 0 4,.an 0 5,.an 0 6,.an 0 7]] [0,1,2,3,4,5,15,16],[(16,0,false)]) :: (co 19 (.binOp .eql 3 (.tmp 40) (.const (.int .i64 0)) 3) 4 [on 18,.v false [.lit (.int .i64 0)]] [0,1,2,3,4,5,15,16,18] [],[(16,0,false)]) :: (cla 20 66 [.v true [.an 1 8,.an 1 9,.an 1 10,.an 1 11]] [0,1,2,3,4,5,15,16,18,19],[(16,0,false)]) :: (co 21 (.binOp .eql 3 (.tmp 44) (.const (.int .i64 0)) 3) 4 [on 20,.v false [.lit (.int .i64 0)]] [0,1,2,3,4,5,15,16,18,19,20] [],[(16,0,false)]) :: (cla 22 67 [.v true [.an 0 4,.an 0 5,.an 0 6,.an 0 7],.v true [.an 1 8,.an 1 9,.an 1 10,.an 1 11]] [0,1,2,3,4,5,15,16,18,19,20,21],[(21,0,false),(16,0,false)]) :: (cla 23 9 [ag 2 4] [0,1,2,3,4,5,15,16,18,19,20,21,22],[(21,0,false),(16,0,false)]) :: (cla 24 67 [ag 4 22,ag 4 23] [0,1,2,3,4,5,15,16,18,19,20,21,22,23],[(21,0,false),(16,0,false)]) :: (cla 25 42 [.v true [.lit (.slice none 0 0),.lit (.bool false),.lit (.slice none 0 0),.lit (.bool false)],ag 4 24] [0,1,2,3,4,5,15,16,18,19,20,21,22,23,24],[(21,0,false),(16,0,false)]) :: (cla 28 66 [.v true [.an 0 4,.an 0 5,.an 0 6,.an 0 7]] [0,1,2,3,4,5,15,16,26,27],[(27,0,true)]) :: (cla 29 66 [.v true [.an 0 4,.an 0 5,.an 0 6,.an 0 7]] [0,1,2,3,4,5,15,16,26,27],[(27,0,false)]) :: (co 30 (.binOp .eql 3 (.tmp 40) (.const (.int .i64 0)) 3) 4 [on 29,.v false [.lit (.int .i64 0)]] [0,1,2,3,4,5,15,16,26,27,29] [],[(27,0,false)]) :: (cla 31 66 [.v true [.an 1 12,.an 1 13,.an 1 14,.an 1 15]] [0,1,2,3,4,5,15,16,26,27,29,30],[(27,0,false)]) :: (co 32 (.binOp .eql 3 (.tmp 44) (.const (.int .i64 0)) 3) 4 [on 31,.v false [.lit (.int .i64 0)]] [0,1,2,3,4,5,15,16,26,27,29,30,31] [],[(27,0,false)]) :: (cla 33 67 [.v true [.an 0 4,.an 0 5,.an 0 6,.an 0 7],.v true [.an 1 12,.an 1 13,.an 1 14,.an 1 15]] [0,1,2,3,4,5,15,16,26,27,29,30,31,32],[(32,0,false),(27,0,false)]) :: (cla 34 9 [ag 2 4] [0,1,2,3,4,5,15,16,26,27,29,30,31,32,33],[(32,0,false),(27,0,false)]) :: (cla 35 67 [ag 4 33,ag 4 34] [0,1,2,3,4,5,15,16,26,27,29,30,31,32,33,34],[(32,0,false),(27,0,false)]) :: (cla 36 42 [.v true [.lit (.slice none 0 0),.lit (.bool false),.lit (.slice none 0 0),.lit (.bool false)],ag 4 35] [0,1,2,3,4,5,15,16,26,27,29,30,31,32,33,34,35],[(32,0,false),(27,0,false)]) :: (cla 39 66 [.v true [.an 0 4,.an 0 5,.an 0 6,.an 0 7]] [0,1,2,3,4,5,15,16,26,27,37,38],[(38,0,true)]) :: (cla 40 66 [.v true [.an 0 4,.an 0 5,.an 0 6,.an 0 7]] [0,1,2,3,4,5,15,16,26,27,37,38],[(38,0,false)]) :: (co 41 (.binOp .eql 3 (.tmp 40) (.const (.int .i64 0)) 3) 4 [on 40,.v false [.lit (.int .i64 0)]] [0,1,2,3,4,5,15,16,26,27,37,38,40] [],[(38,0,false)]) :: (cla 42 66 [.v true [.an 1 16,.an 1 17,.an 1 18,.an 1 19]] [0,1,2,3,4,5,15,16,26,27,37,38,40,41],[(38,0,false)]) :: (co 43 (.binOp .eql 3 (.tmp 44) (.const (.int .i64 0)) 3) 4 [on 42,.v false [.lit (.int .i64 0)]] [0,1,2,3,4,5,15,16,26,27,37,38,40,41,42] [],[(38,0,false)]) :: (cla 44 67 [.v true [.an 0 4,.an 0 5,.an 0 6,.an 0 7],.v true [.an 1 16,.an 1 17,.an 1 18,.an 1 19]] [0,1,2,3,4,5,15,16,26,27,37,38,40,41,42,43],[(43,0,false),(38,0,false)]) :: (cla 45 9 [ag 2 4] [0,1,2,3,4,5,15,16,26,27,37,38,40,41,42,43,44],[(43,0,false),(38,0,false)]) :: (cla 46 67 [ag 4 44,ag 4 45] [0,1,2,3,4,5,15,16,26,27,37,38,40,41,42,43,44,45],[(43,0,false),(38,0,false)]) :: (cla 47 42 [.v true [.lit (.slice none 0 0),.lit (.bool false),.lit (.slice none 0 0),.lit (.bool false)],ag 4 46] [0,1,2,3,4,5,15,16,26,27,37,38,40,41,42,43,44,45,46],[(43,0,false),(38,0,false)]) :: (cla 50 66 [.v true [.an 0 8,.an 0 9,.an 0 10,.an 0 11]] [0,1,2,3,4,5,15,16,26,27,37,38,48,49],[(49,0,true)]) :: (cla 51 66 [.v true [.an 0 8,.an 0 9,.an 0 10,.an 0 11]] [0,1,2,3,4,5,15,16,26,27,37,38,48,49],[(49,0,false)]) :: (co 52 (.binOp .eql 3 (.tmp 40) (.const (.int .i64 0)) 3) 4 [on 51,.v false [.lit (.int .i64 0)]] [0,1,2,3,4,5,15,16,26,27,37,38,48,49,51] [],[(49,0,false)]) :: (cla 53 66 [.v true [.an 1 4,.an 1 5,.an 1 6,.an 1 7]] [0,1,2,3,4,5,15,16,26,27,37,38,48,49,51,52],[(49,0,false)]) :: (co 54 (.binOp .eql 3 (.tmp 44) (.const (.int .i64 0)) 3) 4 [on 53,.v false [.lit (.int .i64 0)]] [0,1,2,3,4,5,15,16,26,27,37,38,48,49,51,52,53] [],[(49,0,false)]) :: (cla 55 67 [.v true [.an 0 8,.an 0 9,.an 0 10,.an 0 11],.v true [.an 1 4,.an 1 5,.an 1 6,.an 1 7]] [0,1,2,3,4,5,15,16,26,27,37,38,48,49,51,52,53,54],[(54,0,false),(49,0,false)]) :: (cla 56 9 [ag 2 4] [0,1,2,3,4,5,15,16,26,27,37,38,48,49,51,52,53,54,55],[(54,0,false),(49,0,false)]) :: (cla 57 67 [ag 4 55,ag 4 56] [0,1,2,3,4,5,15,16,26,27,37,38,48,49,51,52,53,54,55,56],[(54,0,false),(49,0,false)]) :: (cla 58 42 [ag 4 26,ag 4 57] [0,1,2,3,4,5,15,16,26,27,37,38,48,49,51,52,53,54,55,56,57],[(54,0,false),(49,0,false)]) :: (cla 61 66 [.v true [.an 0 8,.an 0 9,.an 0 10,.an 0 11]] [0,1,2,3,4,5,15,16,26,27,37,38,48,49,59,60],[(60,0,true)]) :: (cla 62 66 [.v true [.an 0 8,.an 0 9,.an 0 10,.an 0 11]] [0,1,2,3,4,5,15,16,26,27,37,38,48,49,59,60],[(60,0,false)]) :: (co 63 (.binOp .eql 3 (.tmp 40) (.const (.int .i64 0)) 3) 4 [on 62,.v false [.lit (.int .i64 0)]] [0,1,2,3,4,5,15,16,26,27,37,38,48,49,59,60,62] [],[(60,0,false)]) :: (cla 64 66 [.v true [.an 1 8,.an 1 9,.an 1 10,.an 1 11]] [0,1,2,3,4,5,15,16,26,27,37,38,48,49,59,60,62,63],[(60,0,false)]) :: (co 65 (.binOp .eql 3 (.tmp 44) (.const (.int .i64 0)) 3) 4 [on 64,.v false [.lit (.int .i64 0)]] [0,1,2,3,4,5,15,16,26,27,37,38,48,49,59,60,62,63,64] [],[(60,0,false)]) :: (cla 66 67 [.v true [.an 0 8,.an 0 9,.an 0 10,.an 0 11],.v true [.an 1 8,.an 1 9,.an 1 10,.an 1 11]] [0,1,2,3,4,5,15,16,26,27,37,38,48,49,59,60,62,63,64,65],[(65,0,false),(60,0,false)]) :: (cla 67 9 [.v true [.an 4 2,.an 4 3]] [0,1,2,3,4,5,15,16,26,27,37,38,48,49,59,60,62,63,64,65,66],[(65,0,false),(60,0,false)]) :: (cla 68 67 [ag 4 66,ag 4 67] [0,1,2,3,4,5,15,16,26,27,37,38,48,49,59,60,62,63,64,65,66,67],[(65,0,false),(60,0,false)]) :: (cla 69 42 [ag 4 15,ag 4 68] [0,1,2,3,4,5,15,16,26,27,37,38,48,49,59,60,62,63,64,65,66,67,68],[(65,0,false),(60,0,false)]) :: (cla 72 66 [.v true [.an 0 8,.an 0 9,.an 0 10,.an 0 11]] [0,1,2,3,4,5,15,16,26,27,37,38,48,49,59,60,70,71],[(71,0,true)]) :: (cla 73 66 [.v true [.an 0 8,.an 0 9,.an 0 10,.an 0 11]] [0,1,2,3,4,5,15,16,26,27,37,38,48,49,59,60,70,71],[(71,0,false)]) :: (co 74 (.binOp .eql 3 (.tmp 40) (.const (.int .i64 0)) 3) 4 [on 73,.v false [.lit (.int .i64 0)]] [0,1,2,3,4,5,15,16,26,27,37,38,48,49,59,60,70,71,73] [],[(71,0,false)]) :: (cla 75 66 [.v true [.an 1 12,.an 1 13,.an 1 14,.an 1 15]] [0,1,2,3,4,5,15,16,26,27,37,38,48,49,59,60,70,71,73,74],[(71,0,false)]) :: (co 76 (.binOp .eql 3 (.tmp 44) (.const (.int .i64 0)) 3) 4 [on 75,.v false [.lit (.int .i64 0)]] [0,1,2,3,4,5,15,16,26,27,37,38,48,49,59,60,70,71,73,74,75] [],[(71,0,false)]) :: (cla 77 67 [.v true [.an 0 8,.an 0 9,.an 0 10,.an 0 11],.v true [.an 1 12,.an 1 13,.an 1 14,.an 1 15]] [0,1,2,3,4,5,15,16,26,27,37,38,48,49,59,60,70,71,73,74,75,76],[(76,0,false),(71,0,false)]) :: (cla 78 9 [ag 2 4] [0,1,2,3,4,5,15,16,26,27,37,38,48,49,59,60,70,71,73,74,75,76,77],[(76,0,false),(71,0,false)]) :: (cla 79 67 [ag 4 77,ag 4 78] [0,1,2,3,4,5,15,16,26,27,37,38,48,49,59,60,70,71,73,74,75,76,77,78],[(76,0,false),(71,0,false)]) :: (cla 80 42 [ag 4 48,ag 4 79] [0,1,2,3,4,5,15,16,26,27,37,38,48,49,59,60,70,71,73,74,75,76,77,78,79],[(76,0,false),(71,0,false)]) :: (cla 83 66 [.v true [.an 0 8,.an 0 9,.an 0 10,.an 0 11]] [0,1,2,3,4,5,15,16,26,27,37,38,48,49,59,60,70,71,81,82],[(82,0,true)]) :: (cla 84 66 [.v true [.an 0 8,.an 0 9,.an 0 10,.an 0 11]] [0,1,2,3,4,5,15,16,26,27,37,38,48,49,59,60,70,71,81,82],[(82,0,false)]) :: (co 85 (.binOp .eql 3 (.tmp 40) (.const (.int .i64 0)) 3) 4 [on 84,.v false [.lit (.int .i64 0)]] [0,1,2,3,4,5,15,16,26,27,37,38,48,49,59,60,70,71,81,82,84] [],[(82,0,false)]) :: (cla 86 66 [.v true [.an 1 16,.an 1 17,.an 1 18,.an 1 19]] [0,1,2,3,4,5,15,16,26,27,37,38,48,49,59,60,70,71,81,82,84,85],[(82,0,false)]) :: (co 87 (.binOp .eql 3 (.tmp 44) (.const (.int .i64 0)) 3) 4 [on 86,.v false [.lit (.int .i64 0)]] [0,1,2,3,4,5,15,16,26,27,37,38,48,49,59,60,70,71,81,82,84,85,86] [],[(82,0,false)]) :: (cla 88 67 [.v true [.an 0 8,.an 0 9,.an 0 10,.an 0 11],.v true [.an 1 16,.an 1 17,.an 1 18,.an 1 19]] [0,1,2,3,4,5,15,16,26,27,37,38,48,49,59,60,70,71,81,82,84,85,86,87],[(87,0,false),(82,0,false)]) :: (cla 89 9 [.v true [.an 4 2,.an 4 3]] [0,1,2,3,4,5,15,16,26,27,37,38,48,49,59,60,70,71,81,82,84,85,86,87,88],[(87,0,false),(82,0,false)]) :: (cla 90 67 [ag 4 88,ag 4 89] [0,1,2,3,4,5,15,16,26,27,37,38,48,49,59,60,70,71,81,82,84,85,86,87,88,89],[(87,0,false),(82,0,false)]) :: (cla 91 42 [ag 4 37,ag 4 90] [0,1,2,3,4,5,15,16,26,27,37,38,48,49,59,60,70,71,81,82,84,85,86,87,88,89,90],[(87,0,false),(82,0,false)]) :: (cla 94 66 [.v true [.an 0 12,.an 0 13,.an 0 14,.an 0 15]] [0,1,2,3,4,5,15,16,26,27,37,38,48,49,59,60,70,71,81,82,92,93],[(93,0,true)]) :: (cla 95 66 [.v true [.an 0 12,.an 0 13,.an 0 14,.an 0 15]] [0,1,2,3,4,5,15,16,26,27,37,38,48,49,59,60,70,71,81,82,92,93],[(93,0,false)]) :: (co 96 (.binOp .eql 3 (.tmp 40) (.const (.int .i64 0)) 3) 4 [on 95,.v false [.lit (.int .i64 0)]] [0,1,2,3,4,5,15,16,26,27,37,38,48,49,59,60,70,71,81,82,92,93,95] [],[(93,0,false)]) :: (cla 97 66 [.v true [.an 1 4,.an 1 5,.an 1 6,.an 1 7]] [0,1,2,3,4,5,15,16,26,27,37,38,48,49,59,60,70,71,81,82,92,93,95,96],[(93,0,false)]) :: (co 98 (.binOp .eql 3 (.tmp 44) (.const (.int .i64 0)) 3) 4 [on 97,.v false [.lit (.int .i64 0)]] [0,1,2,3,4,5,15,16,26,27,37,38,48,49,59,60,70,71,81,82,92,93,95,96,97] [],[(93,0,false)]) :: (cla 99 67 [.v true [.an 0 12,.an 0 13,.an 0 14,.an 0 15],.v true [.an 1 4,.an 1 5,.an 1 6,.an 1 7]] [0,1,2,3,4,5,15,16,26,27,37,38,48,49,59,60,70,71,81,82,92,93,95,96,97,98],[(98,0,false),(93,0,false)]) :: (cla 100 9 [ag 2 4] [0,1,2,3,4,5,15,16,26,27,37,38,48,49,59,60,70,71,81,82,92,93,95,96,97,98,99],[(98,0,false),(93,0,false)]) :: (cla 101 67 [ag 4 99,ag 4 100] [0,1,2,3,4,5,15,16,26,27,37,38,48,49,59,60,70,71,81,82,92,93,95,96,97,98,99,100],[(98,0,false),(93,0,false)]) :: (cla 102 42 [ag 4 92,ag 4 101] [0,1,2,3,4,5,15,16,26,27,37,38,48,49,59,60,70,71,81,82,92,93,95,96,97,98,99,100,101],[(98,0,false),(93,0,false)]) :: (cla 105 66 [.v true [.an 0 12,.an 0 13,.an 0 14,.an 0 15]] [0,1,2,3,4,5,15,16,26,27,37,38,48,49,59,60,70,71,81,82,92,93,103,104],[(104,0,true)]) :: (cla 106 66 [.v true [.an 0 12,.an 0 13,.an 0 14,.an 0 15]] [0,1,2,3,4,5,15,16,26,27,37,38,48,49,59,60,70,71,81,82,92,93,103,104],[(104,0,false)]) :: (co 107 (.binOp .eql 3 (.tmp 40) (.const (.int .i64 0)) 3) 4 [on 106,.v false [.lit (.int .i64 0)]] [0,1,2,3,4,5,15,16,26,27,37,38,48,49,59,60,70,71,81,82,92,93,103,104,106] [],[(104,0,false)]) :: (cla 108 66 [.v true [.an 1 8,.an 1 9,.an 1 10,.an 1 11]] [0,1,2,3,4,5,15,16,26,27,37,38,48,49,59,60,70,71,81,82,92,93,103,104,106,107],[(104,0,false)]) :: (co 109 (.binOp .eql 3 (.tmp 44) (.const (.int .i64 0)) 3) 4 [on 108,.v false [.lit (.int .i64 0)]] [0,1,2,3,4,5,15,16,26,27,37,38,48,49,59,60,70,71,81,82,92,93,103,104,106,107,108] [],[(104,0,false)]) :: (cla 110 67 [.v true [.an 0 12,.an 0 13,.an 0 14,.an 0 15],.v true [.an 1 8,.an 1 9,.an 1 10,.an 1 11]] [0,1,2,3,4,5,15,16,26,27,37,38,48,49,59,60,70,71,81,82,92,93,103,104,106,107,108,109],[(109,0,false),(104,0,false)]) :: (cla 111 9 [ag 2 4] [0,1,2,3,4,5,15,16,26,27,37,38,48,49,59,60,70,71,81,82,92,93,103,104,106,107,108,109,110],[(109,0,false),(104,0,false)]) :: (cla 112 67 [ag 4 110,ag 4 111] [0,1,2,3,4,5,15,16,26,27,37,38,48,49,59,60,70,71,81,82,92,93,103,104,106,107,108,109,110,111],[(109,0,false),(104,0,false)]) :: (cla 113 42 [ag 4 81,ag 4 112] [0,1,2,3,4,5,15,16,26,27,37,38,48,49,59,60,70,71,81,82,92,93,103,104,106,107,108,109,110,111,112],[(109,0,false),(104,0,false)]) :: (cla 116 66 [.v true [.an 0 12,.an 0 13,.an 0 14,.an 0 15]] [0,1,2,3,4,5,15,16,26,27,37,38,48,49,59,60,70,71,81,82,92,93,103,104,114,115],[(115,0,true)]) :: (cla 117 66 [.v true [.an 0 12,.an 0 13,.an 0 14,.an 0 15]] [0,1,2,3,4,5,15,16,26,27,37,38,48,49,59,60,70,71,81,82,92,93,103,104,114,115],[(115,0,false)]) :: (co 118 (.binOp .eql 3 (.tmp 40) (.const (.int .i64 0)) 3) 4 [on 117,.v false [.lit (.int .i64 0)]] [0,1,2,3,4,5,15,16,26,27,37,38,48,49,59,60,70,71,81,82,92,93,103,104,114,115,117] [],[(115,0,false)]) :: (cla 119 66 [.v true [.an 1 12,.an 1 13,.an 1 14,.an 1 15]] [0,1,2,3,4,5,15,16,26,27,37,38,48,49,59,60,70,71,81,82,92,93,103,104,114,115,117,118],[(115,0,false)]) :: (co 120 (.binOp .eql 3 (.tmp 44) (.const (.int .i64 0)) 3) 4 [on 119,.v false [.lit (.int .i64 0)]] [0,1,2,3,4,5,15,16,26,27,37,38,48,49,59,60,70,71,81,82,92,93,103,104,114,115,117,118,119] [],[(115,0,false)]) :: (cla 121 67 [.v true [.an 0 12,.an 0 13,.an 0 14,.an 0 15],.v true [.an 1 12,.an 1 13,.an 1 14,.an 1 15]] [0,1,2,3,4,5,15,16,26,27,37,38,48,49,59,60,70,71,81,82,92,93,103,104,114,115,117,118,119,120],[(120,0,false),(115,0,false)]) :: (cla 122 9 [.v true [.an 4 4,.an 4 5]] [0,1,2,3,4,5,15,16,26,27,37,38,48,49,59,60,70,71,81,82,92,93,103,104,114,115,117,118,119,120,121],[(120,0,false),(115,0,false)]) :: (cla 123 67 [ag 4 121,ag 4 122] [0,1,2,3,4,5,15,16,26,27,37,38,48,49,59,60,70,71,81,82,92,93,103,104,114,115,117,118,119,120,121,122],[(120,0,false),(115,0,false)]) :: (cla 124 42 [ag 4 70,ag 4 123] [0,1,2,3,4,5,15,16,26,27,37,38,48,49,59,60,70,71,81,82,92,93,103,104,114,115,117,118,119,120,121,122,123],[(120,0,false),(115,0,false)]) :: (cla 127 66 [.v true [.an 0 12,.an 0 13,.an 0 14,.an 0 15]] [0,1,2,3,4,5,15,16,26,27,37,38,48,49,59,60,70,71,81,82,92,93,103,104,114,115,125,126],[(126,0,true)]) :: (cla 128 66 [.v true [.an 0 12,.an 0 13,.an 0 14,.an 0 15]] [0,1,2,3,4,5,15,16,26,27,37,38,48,49,59,60,70,71,81,82,92,93,103,104,114,115,125,126],[(126,0,false)]) :: (co 129 (.binOp .eql 3 (.tmp 40) (.const (.int .i64 0)) 3) 4 [on 128,.v false [.lit (.int .i64 0)]] [0,1,2,3,4,5,15,16,26,27,37,38,48,49,59,60,70,71,81,82,92,93,103,104,114,115,125,126,128] [],[(126,0,false)]) :: (cla 130 66 [.v true [.an 1 16,.an 1 17,.an 1 18,.an 1 19]] [0,1,2,3,4,5,15,16,26,27,37,38,48,49,59,60,70,71,81,82,92,93,103,104,114,115,125,126,128,129],[(126,0,false)]) :: (co 131 (.binOp .eql 3 (.tmp 44) (.const (.int .i64 0)) 3) 4 [on 130,.v false [.lit (.int .i64 0)]] [0,1,2,3,4,5,15,16,26,27,37,38,48,49,59,60,70,71,81,82,92,93,103,104,114,115,125,126,128,129,130] [],[(126,0,false)]) :: (cla 132 67 [.v true [.an 0 12,.an 0 13,.an 0 14,.an 0 15],.v true [.an 1 16,.an 1 17,.an 1 18,.an 1 19]] [0,1,2,3,4,5,15,16,26,27,37,38,48,49,59,60,70,71,81,82,92,93,103,104,114,115,125,126,128,129,130,131],[(131,0,false),(126,0,false)]) :: (cla 133 9 [.v true [.an 4 4,.an 4 5]] [0,1,2,3,4,5,15,16,26,27,37,38,48,49,59,60,70,71,81,82,92,93,103,104,114,115,125,126,128,129,130,131,132],[(131,0,false),(126,0,false)]) :: (cla 134 67 [ag 4 132,ag 4 133] [0,1,2,3,4,5,15,16,26,27,37,38,48,49,59,60,70,71,81,82,92,93,103,104,114,115,125,126,128,129,130,131,132,133],[(131,0,false),(126,0,false)]) :: (cla 135 42 [ag 4 59,ag 4 134] [0,1,2,3,4,5,15,16,26,27,37,38,48,49,59,60,70,71,81,82,92,93,103,104,114,115,125,126,128,129,130,131,132,133,134],[(131,0,false),(126,0,false)]) :: (cla 138 66 [.v true [.an 0 16,.an 0 17,.an 0 18,.an 0 19]] [0,1,2,3,4,5,15,16,26,27,37,38,48,49,59,60,70,71,81,82,92,93,103,104,114,115,125,126,136,137],[(137,0,true)]) :: (cla 139 66 [.v true [.an 0 16,.an 0 17,.an 0 18,.an 0 19]] [0,1,2,3,4,5,15,16,26,27,37,38,48,49,59,60,70,71,81,82,92,93,103,104,114,115,125,126,136,137],[(137,0,false)]) :: (co 140 (.binOp .eql 3 (.tmp 40) (.const (.int .i64 0)) 3) 4 [on 139,.v false [.lit (.int .i64 0)]] [0,1,2,3,4,5,15,16,26,27,37,38,48,49,59,60,70,71,81,82,92,93,103,104,114,115,125,126,136,137,139] [],[(137,0,false)]) :: (cla 141 66 [.v true [.an 1 4,.an 1 5,.an 1 6,.an 1 7]] [0,1,2,3,4,5,15,16,26,27,37,38,48,49,59,60,70,71,81,82,92,93,103,104,114,115,125,126,136,137,139,140],[(137,0,false)]) :: (co 142 (.binOp .eql 3 (.tmp 44) (.const (.int .i64 0)) 3) 4 [on 141,.v false [.lit (.int .i64 0)]] [0,1,2,3,4,5,15,16,26,27,37,38,48,49,59,60,70,71,81,82,92,93,103,104,114,115,125,126,136,137,139,140,141] [],[(137,0,false)]) :: (cla 143 67 [.v true [.an 0 16,.an 0 17,.an 0 18,.an 0 19],.v true [.an 1 4,.an 1 5,.an 1 6,.an 1 7]] [0,1,2,3,4,5,15,16,26,27,37,38,48,49,59,60,70,71,81,82,92,93,103,104,114,115,125,126,136,137,139,140,141,142],[(142,0,false),(137,0,false)]) :: (cla 144 9 [ag 2 4] [0,1,2,3,4,5,15,16,26,27,37,38,48,49,59,60,70,71,81,82,92,93,103,104,114,115,125,126,136,137,139,140,141,142,143],[(142,0,false),(137,0,false)]) :: (cla 145 67 [ag 4 143,ag 4 144] [0,1,2,3,4,5,15,16,26,27,37,38,48,49,59,60,70,71,81,82,92,93,103,104,114,115,125,126,136,137,139,140,141,142,143,144],[(142,0,false),(137,0,false)]) :: (cla 146 42 [ag 4 114,ag 4 145] [0,1,2,3,4,5,15,16,26,27,37,38,48,49,59,60,70,71,81,82,92,93,103,104,114,115,125,126,136,137,139,140,141,142,143,144,145],[(142,0,false),(137,0,false)]) :: (cla 149 66 [.v true [.an 0 16,.an 0 17,.an 0 18,.an 0 19]] [0,1,2,3,4,5,15,16,26,27,37,38,48,49,59,60,70,71,81,82,92,93,103,104,114,115,125,126,136,137,147,148],[(148,0,true)]) :: (cla 150 66 [.v true [.an 0 16,.an 0 17,.an 0 18,.an 0 19]] [0,1,2,3,4,5,15,16,26,27,37,38,48,49,59,60,70,71,81,82,92,93,103,104,114,115,125,126,136,137,147,148],[(148,0,false)]) :: (co 151 (.binOp .eql 3 (.tmp 40) (.const (.int .i64 0)) 3) 4 [on 150,.v false [.lit (.int .i64 0)]] [0,1,2,3,4,5,15,16,26,27,37,38,48,49,59,60,70,71,81,82,92,93,103,104,114,115,125,126,136,137,147,148,150] [],[(148,0,false)]) :: (cla 152 66 [.v true [.an 1 8,.an 1 9,.an 1 10,.an 1 11]] [0,1,2,3,4,5,15,16,26,27,37,38,48,49,59,60,70,71,81,82,92,93,103,104,114,115,125,126,136,137,147,148,150,151],[(148,0,false)]) :: (co 153 (.binOp .eql 3 (.tmp 44) (.const (.int .i64 0)) 3) 4 [on 152,.v false [.lit (.int .i64 0)]] [0,1,2,3,4,5,15,16,26,27,37,38,48,49,59,60,70,71,81,82,92,93,103,104,114,115,125,126,136,137,147,148,150,151,152] [],[(148,0,false)]) :: (cla 154 67 [.v true [.an 0 16,.an 0 17,.an 0 18,.an 0 19],.v true [.an 1 8,.an 1 9,.an 1 10,.an 1 11]] [0,1,2,3,4,5,15,16,26,27,37,38,48,49,59,60,70,71,81,82,92,93,103,104,114,115,125,126,136,137,147,148,150,151,152,153],[(153,0,false),(148,0,false)]) :: (cla 155 9 [.v true [.an 4 2,.an 4 3]] [0,1,2,3,4,5,15,16,26,27,37,38,48,49,59,60,70,71,81,82,92,93,103,104,114,115,125,126,136,137,147,148,150,151,152,153,154],[(153,0,false),(148,0,false)]) :: (cla 156 67 [ag 4 154,ag 4 155] [0,1,2,3,4,5,15,16,26,27,37,38,48,49,59,60,70,71,81,82,92,93,103,104,114,115,125,126,136,137,147,148,150,151,152,153,154,155],[(153,0,false),(148,0,false)]) :: (cla 157 42 [ag 4 103,ag 4 156] [0,1,2,3,4,5,15,16,26,27,37,38,48,49,59,60,70,71,81,82,92,93,103,104,114,115,125,126,136,137,147,148,150,151,152,153,154,155,156],[(153,0,false),(148,0,false)]) :: (cla 160 66 [.v true [.an 0 16,.an 0 17,.an 0 18,.an 0 19]] [0,1,2,3,4,5,15,16,26,27,37,38,48,49,59,60,70,71,81,82,92,93,103,104,114,115,125,126,136,137,147,148,158,159],[(159,0,true)]) :: (cla 161 66 [.v true [.an 0 16,.an 0 17,.an 0 18,.an 0 19]] [0,1,2,3,4,5,15,16,26,27,37,38,48,49,59,60,70,71,81,82,92,93,103,104,114,115,125,126,136,137,147,148,158,159],[(159,0,false)]) :: (co 162 (.binOp .eql 3 (.tmp 40) (.const (.int .i64 0)) 3) 4 [on 161,.v false [.lit (.int .i64 0)]] [0,1,2,3,4,5,15,16,26,27,37,38,48,49,59,60,70,71,81,82,92,93,103,104,114,115,125,126,136,137,147,148,158,159,161] [],[(159,0,false)]) :: (cla 163 66 [.v true [.an 1 12,.an 1 13,.an 1 14,.an 1 15]] [0,1,2,3,4,5,15,16,26,27,37,38,48,49,59,60,70,71,81,82,92,93,103,104,114,115,125,126,136,137,147,148,158,159,161,162],[(159,0,false)]) :: (co 164 (.binOp .eql 3 (.tmp 44) (.const (.int .i64 0)) 3) 4 [on 163,.v false [.lit (.int .i64 0)]] [0,1,2,3,4,5,15,16,26,27,37,38,48,49,59,60,70,71,81,82,92,93,103,104,114,115,125,126,136,137,147,148,158,159,161,162,163] [],[(159,0,false)]) :: (cla 165 67 [.v true [.an 0 16,.an 0 17,.an 0 18,.an 0 19],.v true [.an 1 12,.an 1 13,.an 1 14,.an 1 15]] [0,1,2,3,4,5,15,16,26,27,37,38,48,49,59,60,70,71,81,82,92,93,103,104,114,115,125,126,136,137,147,148,158,159,161,162,163,164],[(164,0,false),(159,0,false)]) :: (cla 166 9 [.v true [.an 4 4,.an 4 5]] [0,1,2,3,4,5,15,16,26,27,37,38,48,49,59,60,70,71,81,82,92,93,103,104,114,115,125,126,136,137,147,148,158,159,161,162,163,164,165],[(164,0,false),(159,0,false)]) :: (cla 167 67 [ag 4 165,ag 4 166] [0,1,2,3,4,5,15,16,26,27,37,38,48,49,59,60,70,71,81,82,92,93,103,104,114,115,125,126,136,137,147,148,158,159,161,162,163,164,165,166],[(164,0,false),(159,0,false)]) :: (cla 168 42 [ag 4 136,ag 4 167] [0,1,2,3,4,5,15,16,26,27,37,38,48,49,59,60,70,71,81,82,92,93,103,104,114,115,125,126,136,137,147,148,158,159,161,162,163,164,165,166,167],[(164,0,false),(159,0,false)]) :: (cla 171 66 [.v true [.an 0 16,.an 0 17,.an 0 18,.an 0 19]] [0,1,2,3,4,5,15,16,26,27,37,38,48,49,59,60,70,71,81,82,92,93,103,104,114,115,125,126,136,137,147,148,158,159,169,170],[(170,0,true)]) :: (cla 172 66 [.v true [.an 0 16,.an 0 17,.an 0 18,.an 0 19]] [0,1,2,3,4,5,15,16,26,27,37,38,48,49,59,60,70,71,81,82,92,93,103,104,114,115,125,126,136,137,147,148,158,159,169,170],[(170,0,false)]) :: (co 173 (.binOp .eql 3 (.tmp 40) (.const (.int .i64 0)) 3) 4 [on 172,.v false [.lit (.int .i64 0)]] [0,1,2,3,4,5,15,16,26,27,37,38,48,49,59,60,70,71,81,82,92,93,103,104,114,115,125,126,136,137,147,148,158,159,169,170,172] [],[(170,0,false)]) :: (cla 174 66 [.v true [.an 1 16,.an 1 17,.an 1 18,.an 1 19]] [0,1,2,3,4,5,15,16,26,27,37,38,48,49,59,60,70,71,81,82,92,93,103,104,114,115,125,126,136,137,147,148,158,159,169,170,172,173],[(170,0,false)]) :: (co 175 (.binOp .eql 3 (.tmp 44) (.const (.int .i64 0)) 3) 4 [on 174,.v false [.lit (.int .i64 0)]] [0,1,2,3,4,5,15,16,26,27,37,38,48,49,59,60,70,71,81,82,92,93,103,104,114,115,125,126,136,137,147,148,158,159,169,170,172,173,174] [],[(170,0,false)]) :: (cla 176 67 [.v true [.an 0 16,.an 0 17,.an 0 18,.an 0 19],.v true [.an 1 16,.an 1 17,.an 1 18,.an 1 19]] [0,1,2,3,4,5,15,16,26,27,37,38,48,49,59,60,70,71,81,82,92,93,103,104,114,115,125,126,136,137,147,148,158,159,169,170,172,173,174,175],[(175,0,false),(170,0,false)]) :: (cla 177 9 [.v true [.an 4 6,.an 4 7]] [0,1,2,3,4,5,15,16,26,27,37,38,48,49,59,60,70,71,81,82,92,93,103,104,114,115,125,126,136,137,147,148,158,159,169,170,172,173,174,175,176],[(175,0,false),(170,0,false)]) :: (cla 178 67 [ag 4 176,ag 4 177] [0,1,2,3,4,5,15,16,26,27,37,38,48,49,59,60,70,71,81,82,92,93,103,104,114,115,125,126,136,137,147,148,158,159,169,170,172,173,174,175,176,177],[(175,0,false),(170,0,false)]) :: (cla 179 42 [ag 4 125,ag 4 178] [0,1,2,3,4,5,15,16,26,27,37,38,48,49,59,60,70,71,81,82,92,93,103,104,114,115,125,126,136,137,147,148,158,159,169,170,172,173,174,175,176,177,178],[(175,0,false),(170,0,false)]) :: [])) (js:=(.ghost 5 (List.range 5) [] :: .test 10 0 [0,1,2,3,4,5,7,8,9,10] [(5,0,false)] :: .meet [(15,.v true [.lit (.slice none 0 0),.lit (.bool false),.lit (.slice none 0 0),.lit (.bool false)])] (List.range 7) [(5,0,true)] :: .meet [(15,.v true [.lit (.slice none 0 0),.lit (.bool false),.lit (.slice none 0 0),.lit (.bool false)])] [0,1,2,3,4,5,7,8,9,10] [(10,0,true),(5,0,false)] :: .meet [(15,ag 4 14)] [0,1,2,3,4,5,7,8,9,10,11,12,13,14] [(10,0,false),(5,0,false)] :: .ghost 16 [0,1,2,3,4,5,15] [] :: .test 21 0 [0,1,2,3,4,5,15,16,18,19,20,21] [(16,0,false)] :: .meet [(26,.v true [.lit (.slice none 0 0),.lit (.bool false),.lit (.slice none 0 0),.lit (.bool false)])] [0,1,2,3,4,5,15,16,17] [(16,0,true)] :: .meet [(26,.v true [.lit (.slice none 0 0),.lit (.bool false),.lit (.slice none 0 0),.lit (.bool false)])] [0,1,2,3,4,5,15,16,18,19,20,21] [(21,0,true),(16,0,false)] :: .meet [(26,ag 4 25)] [0,1,2,3,4,5,15,16,18,19,20,21,22,23,24,25] [(21,0,false),(16,0,false)] :: .ghost 27 [0,1,2,3,4,5,15,16,26] [] :: .test 32 0 [0,1,2,3,4,5,15,16,26,27,29,30,31,32] [(27,0,false)] :: .meet [(37,.v true [.lit (.slice none 0 0),.lit (.bool false),.lit (.slice none 0 0),.lit (.bool false)])] [0,1,2,3,4,5,15,16,26,27,28] [(27,0,true)] :: .meet [(37,.v true [.lit (.slice none 0 0),.lit (.bool false),.lit (.slice none 0 0),.lit (.bool false)])] [0,1,2,3,4,5,15,16,26,27,29,30,31,32] [(32,0,true),(27,0,false)] :: .meet [(37,ag 4 36)] [0,1,2,3,4,5,15,16,26,27,29,30,31,32,33,34,35,36] [(32,0,false),(27,0,false)] :: .ghost 38 [0,1,2,3,4,5,15,16,26,27,37] [] :: .test 43 0 [0,1,2,3,4,5,15,16,26,27,37,38,40,41,42,43] [(38,0,false)] :: .meet [(48,.v true [.lit (.slice none 0 0),.lit (.bool false),.lit (.slice none 0 0),.lit (.bool false)])] [0,1,2,3,4,5,15,16,26,27,37,38,39] [(38,0,true)] :: .meet [(48,.v true [.lit (.slice none 0 0),.lit (.bool false),.lit (.slice none 0 0),.lit (.bool false)])] [0,1,2,3,4,5,15,16,26,27,37,38,40,41,42,43] [(43,0,true),(38,0,false)] :: .meet [(48,ag 4 47)] [0,1,2,3,4,5,15,16,26,27,37,38,40,41,42,43,44,45,46,47] [(43,0,false),(38,0,false)] :: .ghost 49 [0,1,2,3,4,5,15,16,26,27,37,38,48] [] :: .test 54 0 [0,1,2,3,4,5,15,16,26,27,37,38,48,49,51,52,53,54] [(49,0,false)] :: .meet [(59,ag 4 26)] [0,1,2,3,4,5,15,16,26,27,37,38,48,49,50] [(49,0,true)] :: .meet [(59,ag 4 26)] [0,1,2,3,4,5,15,16,26,27,37,38,48,49,51,52,53,54] [(54,0,true),(49,0,false)] :: .meet [(59,ag 4 58)] [0,1,2,3,4,5,15,16,26,27,37,38,48,49,51,52,53,54,55,56,57,58] [(54,0,false),(49,0,false)] :: .ghost 60 [0,1,2,3,4,5,15,16,26,27,37,38,48,49,59] [] :: .test 65 0 [0,1,2,3,4,5,15,16,26,27,37,38,48,49,59,60,62,63,64,65] [(60,0,false)] :: .meet [(70,ag 4 15)] [0,1,2,3,4,5,15,16,26,27,37,38,48,49,59,60,61] [(60,0,true)] :: .meet [(70,ag 4 15)] [0,1,2,3,4,5,15,16,26,27,37,38,48,49,59,60,62,63,64,65] [(65,0,true),(60,0,false)] :: .meet [(70,ag 4 69)] [0,1,2,3,4,5,15,16,26,27,37,38,48,49,59,60,62,63,64,65,66,67,68,69] [(65,0,false),(60,0,false)] :: .ghost 71 [0,1,2,3,4,5,15,16,26,27,37,38,48,49,59,60,70] [] :: .test 76 0 [0,1,2,3,4,5,15,16,26,27,37,38,48,49,59,60,70,71,73,74,75,76] [(71,0,false)] :: .meet [(81,ag 4 48)] [0,1,2,3,4,5,15,16,26,27,37,38,48,49,59,60,70,71,72] [(71,0,true)] :: .meet [(81,ag 4 48)] [0,1,2,3,4,5,15,16,26,27,37,38,48,49,59,60,70,71,73,74,75,76] [(76,0,true),(71,0,false)] :: .meet [(81,ag 4 80)] [0,1,2,3,4,5,15,16,26,27,37,38,48,49,59,60,70,71,73,74,75,76,77,78,79,80] [(76,0,false),(71,0,false)] :: .ghost 82 [0,1,2,3,4,5,15,16,26,27,37,38,48,49,59,60,70,71,81] [] :: .test 87 0 [0,1,2,3,4,5,15,16,26,27,37,38,48,49,59,60,70,71,81,82,84,85,86,87] [(82,0,false)] :: .meet [(92,ag 4 37)] [0,1,2,3,4,5,15,16,26,27,37,38,48,49,59,60,70,71,81,82,83] [(82,0,true)] :: .meet [(92,ag 4 37)] [0,1,2,3,4,5,15,16,26,27,37,38,48,49,59,60,70,71,81,82,84,85,86,87] [(87,0,true),(82,0,false)] :: .meet [(92,ag 4 91)] [0,1,2,3,4,5,15,16,26,27,37,38,48,49,59,60,70,71,81,82,84,85,86,87,88,89,90,91] [(87,0,false),(82,0,false)] :: .ghost 93 [0,1,2,3,4,5,15,16,26,27,37,38,48,49,59,60,70,71,81,82,92] [] :: .test 98 0 [0,1,2,3,4,5,15,16,26,27,37,38,48,49,59,60,70,71,81,82,92,93,95,96,97,98] [(93,0,false)] :: .meet [(103,ag 4 92)] [0,1,2,3,4,5,15,16,26,27,37,38,48,49,59,60,70,71,81,82,92,93,94] [(93,0,true)] :: .meet [(103,ag 4 92)] [0,1,2,3,4,5,15,16,26,27,37,38,48,49,59,60,70,71,81,82,92,93,95,96,97,98] [(98,0,true),(93,0,false)] :: .meet [(103,ag 4 102)] [0,1,2,3,4,5,15,16,26,27,37,38,48,49,59,60,70,71,81,82,92,93,95,96,97,98,99,100,101,102] [(98,0,false),(93,0,false)] :: .ghost 104 [0,1,2,3,4,5,15,16,26,27,37,38,48,49,59,60,70,71,81,82,92,93,103] [] :: .test 109 0 [0,1,2,3,4,5,15,16,26,27,37,38,48,49,59,60,70,71,81,82,92,93,103,104,106,107,108,109] [(104,0,false)] :: .meet [(114,ag 4 81)] [0,1,2,3,4,5,15,16,26,27,37,38,48,49,59,60,70,71,81,82,92,93,103,104,105] [(104,0,true)] :: .meet [(114,ag 4 81)] [0,1,2,3,4,5,15,16,26,27,37,38,48,49,59,60,70,71,81,82,92,93,103,104,106,107,108,109] [(109,0,true),(104,0,false)] :: .meet [(114,ag 4 113)] [0,1,2,3,4,5,15,16,26,27,37,38,48,49,59,60,70,71,81,82,92,93,103,104,106,107,108,109,110,111,112,113] [(109,0,false),(104,0,false)] :: .ghost 115 [0,1,2,3,4,5,15,16,26,27,37,38,48,49,59,60,70,71,81,82,92,93,103,104,114] [] :: .test 120 0 [0,1,2,3,4,5,15,16,26,27,37,38,48,49,59,60,70,71,81,82,92,93,103,104,114,115,117,118,119,120] [(115,0,false)] :: .meet [(125,ag 4 70)] [0,1,2,3,4,5,15,16,26,27,37,38,48,49,59,60,70,71,81,82,92,93,103,104,114,115,116] [(115,0,true)] :: .meet [(125,ag 4 70)] [0,1,2,3,4,5,15,16,26,27,37,38,48,49,59,60,70,71,81,82,92,93,103,104,114,115,117,118,119,120] [(120,0,true),(115,0,false)] :: .meet [(125,ag 4 124)] [0,1,2,3,4,5,15,16,26,27,37,38,48,49,59,60,70,71,81,82,92,93,103,104,114,115,117,118,119,120,121,122,123,124] [(120,0,false),(115,0,false)] :: .ghost 126 [0,1,2,3,4,5,15,16,26,27,37,38,48,49,59,60,70,71,81,82,92,93,103,104,114,115,125] [] :: .test 131 0 [0,1,2,3,4,5,15,16,26,27,37,38,48,49,59,60,70,71,81,82,92,93,103,104,114,115,125,126,128,129,130,131] [(126,0,false)] :: .meet [(136,ag 4 59)] [0,1,2,3,4,5,15,16,26,27,37,38,48,49,59,60,70,71,81,82,92,93,103,104,114,115,125,126,127] [(126,0,true)] :: .meet [(136,ag 4 59)] [0,1,2,3,4,5,15,16,26,27,37,38,48,49,59,60,70,71,81,82,92,93,103,104,114,115,125,126,128,129,130,131] [(131,0,true),(126,0,false)] :: .meet [(136,ag 4 135)] [0,1,2,3,4,5,15,16,26,27,37,38,48,49,59,60,70,71,81,82,92,93,103,104,114,115,125,126,128,129,130,131,132,133,134,135] [(131,0,false),(126,0,false)] :: .ghost 137 [0,1,2,3,4,5,15,16,26,27,37,38,48,49,59,60,70,71,81,82,92,93,103,104,114,115,125,126,136] [] :: .test 142 0 [0,1,2,3,4,5,15,16,26,27,37,38,48,49,59,60,70,71,81,82,92,93,103,104,114,115,125,126,136,137,139,140,141,142] [(137,0,false)] :: .meet [(147,ag 4 114)] [0,1,2,3,4,5,15,16,26,27,37,38,48,49,59,60,70,71,81,82,92,93,103,104,114,115,125,126,136,137,138] [(137,0,true)] :: .meet [(147,ag 4 114)] [0,1,2,3,4,5,15,16,26,27,37,38,48,49,59,60,70,71,81,82,92,93,103,104,114,115,125,126,136,137,139,140,141,142] [(142,0,true),(137,0,false)] :: .meet [(147,ag 4 146)] [0,1,2,3,4,5,15,16,26,27,37,38,48,49,59,60,70,71,81,82,92,93,103,104,114,115,125,126,136,137,139,140,141,142,143,144,145,146] [(142,0,false),(137,0,false)] :: .ghost 148 [0,1,2,3,4,5,15,16,26,27,37,38,48,49,59,60,70,71,81,82,92,93,103,104,114,115,125,126,136,137,147] [] :: .test 153 0 [0,1,2,3,4,5,15,16,26,27,37,38,48,49,59,60,70,71,81,82,92,93,103,104,114,115,125,126,136,137,147,148,150,151,152,153] [(148,0,false)] :: .meet [(158,ag 4 103)] [0,1,2,3,4,5,15,16,26,27,37,38,48,49,59,60,70,71,81,82,92,93,103,104,114,115,125,126,136,137,147,148,149] [(148,0,true)] :: .meet [(158,ag 4 103)] [0,1,2,3,4,5,15,16,26,27,37,38,48,49,59,60,70,71,81,82,92,93,103,104,114,115,125,126,136,137,147,148,150,151,152,153] [(153,0,true),(148,0,false)] :: .meet [(158,ag 4 157)] [0,1,2,3,4,5,15,16,26,27,37,38,48,49,59,60,70,71,81,82,92,93,103,104,114,115,125,126,136,137,147,148,150,151,152,153,154,155,156,157] [(153,0,false),(148,0,false)] :: .ghost 159 [0,1,2,3,4,5,15,16,26,27,37,38,48,49,59,60,70,71,81,82,92,93,103,104,114,115,125,126,136,137,147,148,158] [] :: .test 164 0 [0,1,2,3,4,5,15,16,26,27,37,38,48,49,59,60,70,71,81,82,92,93,103,104,114,115,125,126,136,137,147,148,158,159,161,162,163,164] [(159,0,false)] :: .meet [(169,ag 4 136)] [0,1,2,3,4,5,15,16,26,27,37,38,48,49,59,60,70,71,81,82,92,93,103,104,114,115,125,126,136,137,147,148,158,159,160] [(159,0,true)] :: .meet [(169,ag 4 136)] [0,1,2,3,4,5,15,16,26,27,37,38,48,49,59,60,70,71,81,82,92,93,103,104,114,115,125,126,136,137,147,148,158,159,161,162,163,164] [(164,0,true),(159,0,false)] :: .meet [(169,ag 4 168)] [0,1,2,3,4,5,15,16,26,27,37,38,48,49,59,60,70,71,81,82,92,93,103,104,114,115,125,126,136,137,147,148,158,159,161,162,163,164,165,166,167,168] [(164,0,false),(159,0,false)] :: .ghost 170 [0,1,2,3,4,5,15,16,26,27,37,38,48,49,59,60,70,71,81,82,92,93,103,104,114,115,125,126,136,137,147,148,158,159,169] [] :: .test 175 0 [0,1,2,3,4,5,15,16,26,27,37,38,48,49,59,60,70,71,81,82,92,93,103,104,114,115,125,126,136,137,147,148,158,159,169,170,172,173,174,175] [(170,0,false)] :: .meet [(180,ag 4 125)] [0,1,2,3,4,5,15,16,26,27,37,38,48,49,59,60,70,71,81,82,92,93,103,104,114,115,125,126,136,137,147,148,158,159,169,170,171] [(170,0,true)] :: .meet [(180,ag 4 125)] [0,1,2,3,4,5,15,16,26,27,37,38,48,49,59,60,70,71,81,82,92,93,103,104,114,115,125,126,136,137,147,148,158,159,169,170,172,173,174,175] [(175,0,true),(170,0,false)] :: .meet [(180,ag 4 179)] [0,1,2,3,4,5,15,16,26,27,37,38,48,49,59,60,70,71,81,82,92,93,103,104,114,115,125,126,136,137,147,148,158,159,169,170,172,173,174,175,176,177,178,179] [(175,0,false),(170,0,false)] :: [])) (outs:=[⟨.tup [(true,[.an 3 0,.an 3 1,.an 3 2,.an 3 3,.an 180 0,.an 180 1,.an 180 2,.an 180 3,.an 169 0,.an 169 1,.an 169 2,.an 169 3,.an 158 0,.an 158 1,.an 158 2,.an 158 3,.an 147 0,.an 147 1,.an 147 2,.an 147 3]),(false,[.lit (.int .i64 0)])],[0,1,2,3,4,5,15,16,26,27,37,38,48,49,59,60,70,71,81,82,92,93,103,104,114,115,125,126,136,137,147,148,158,159,169,170,180],[],[],[]⟩]) (nc:=181) (by kernel_rfl)
  ⟨fun σ W g h hp hb=>toV (sA W _ _ m n m' n' K (sd0 (h 0 rfl)) (sd0 (h 1 rfl)) (by omega) lm ln lx ly) (by rw [decide_eq_true hs]),
  fun σ W g h hp hb=>aM W _ m n K (sd0 (h 0 rfl)) (by omega) lm ln,
  fun σ W g h hp hb=>cF W _ m n K (sd0 (h 0 rfl)) (by omega) lm ln,
  fun σ W g h hp hb=>toV (B0 W _ r0 K (sd1 (h 0 rfl)) (by omega) n0.1.1) (by rw [J3 (of_decide_eq_true (D3 (h 5 rfl) (hp 5 0 true rfl)))]),
  fun σ W g h hp hb=>(B0 W _ r0 K (sd1 (h 0 rfl)) (by omega) n0.1.1).mono fun _ _ ⟨a,g⟩=>⟨_,a,rfl,g⟩,
  fun σ W g h hp hb=>fun ρ o ho _ hv=>⟨_,A5 ho ((A0 hv).1.trans (h 7 rfl)) (A0 hv).2 rfl,congrArg Value.bool (beq_eq_false_iff_ne.2 (I1 (of_decide_eq_false (D3 (h 5 rfl) (hp 5 0 false rfl)))))⟩,
  fun σ W g h hp hb=>(B0 W _ t0 K (sd1 (h 1 rfl)) (by omega) n0.2.1).mono fun _ _ ⟨a,g⟩=>⟨_,a,rfl,g⟩,
  fun σ W g h hp hb=>fun ρ o ho _ hv=>⟨_,A5 ho ((A0 hv).1.trans (h 9 rfl)) (A0 hv).2 rfl,congrArg Value.bool (K8 t0)⟩,
  fun σ W g h hp hb=>B6 W _ _ r0 t0 K (sd1 (h 0 rfl)) (sd1 (h 1 rfl)) (by omega) n0.1.1 n0.1.2 n0.2.1 n0.2.2 (HT W g),
  fun σ W g h hp hb=>B4 W _ _ (K+K) (is0 (h 4 rfl)) (by omega) c0,
  fun σ W g h hp hb=>B6 W _ _ _ _ (K+K) (h 11 rfl) (h 12 rfl) (by omega) (E5 n0.1 n0.2).1 (E5 n0.1 n0.2).2 (C5 (by omega) c0).1 (C5 (by omega) c0).2 (HT W g),
  fun σ W g h hp hb=>e0 ▸ I0 W _ _ _ _ (16*K+5) (RatV.zero W) (h 13 rfl) (by omega) ((B9 (K:=1) (by omega)).mono (by omega)).1 ((B9 (K:=1) (by omega)).mono (by omega)).2 ((T n0.1 n0.2 c0).mono (by omega)).1 ((T n0.1 n0.2 c0).mono (by omega)).2 (HT W g),
  fun σ W g h hp hb=>toV (B0 W _ r0 K (sd1 (h 0 rfl)) (by omega) n0.1.1) (by rw [J3 (of_decide_eq_true (D3 (h 16 rfl) (hp 16 0 true rfl)))]),
  fun σ W g h hp hb=>(B0 W _ r0 K (sd1 (h 0 rfl)) (by omega) n0.1.1).mono fun _ _ ⟨a,g⟩=>⟨_,a,rfl,g⟩,
  fun σ W g h hp hb=>fun ρ o ho _ hv=>⟨_,A5 ho ((A0 hv).1.trans (h 18 rfl)) (A0 hv).2 rfl,congrArg Value.bool (beq_eq_false_iff_ne.2 (I1 (of_decide_eq_false (D3 (h 16 rfl) (hp 16 0 false rfl)))))⟩,
  fun σ W g h hp hb=>(B0 W _ t1 K (sd2 (h 1 rfl)) (by omega) n1.2.1).mono fun _ _ ⟨a,g⟩=>⟨_,a,rfl,g⟩,
  fun σ W g h hp hb=>fun ρ o ho _ hv=>⟨_,A5 ho ((A0 hv).1.trans (h 20 rfl)) (A0 hv).2 rfl,congrArg Value.bool (K8 t1)⟩,
  fun σ W g h hp hb=>B6 W _ _ r0 t1 K (sd1 (h 0 rfl)) (sd2 (h 1 rfl)) (by omega) n0.1.1 n0.1.2 n1.2.1 n1.2.2 (HT W g),
  fun σ W g h hp hb=>B4 W _ _ (K+K) (is0 (h 4 rfl)) (by omega) c0,
  fun σ W g h hp hb=>B6 W _ _ _ _ (K+K) (h 22 rfl) (h 23 rfl) (by omega) (E5 n0.1 n1.2).1 (E5 n0.1 n1.2).2 (C5 (by omega) c0).1 (C5 (by omega) c0).2 (HT W g),
  fun σ W g h hp hb=>e1 ▸ I0 W _ _ _ _ (16*K+5) (RatV.zero W) (h 24 rfl) (by omega) ((B9 (K:=1) (by omega)).mono (by omega)).1 ((B9 (K:=1) (by omega)).mono (by omega)).2 ((T n0.1 n1.2 c0).mono (by omega)).1 ((T n0.1 n1.2 c0).mono (by omega)).2 (HT W g),
  fun σ W g h hp hb=>toV (B0 W _ r0 K (sd1 (h 0 rfl)) (by omega) n0.1.1) (by rw [J3 (of_decide_eq_true (D3 (h 27 rfl) (hp 27 0 true rfl)))]),
  fun σ W g h hp hb=>(B0 W _ r0 K (sd1 (h 0 rfl)) (by omega) n0.1.1).mono fun _ _ ⟨a,g⟩=>⟨_,a,rfl,g⟩,
  fun σ W g h hp hb=>fun ρ o ho _ hv=>⟨_,A5 ho ((A0 hv).1.trans (h 29 rfl)) (A0 hv).2 rfl,congrArg Value.bool (beq_eq_false_iff_ne.2 (I1 (of_decide_eq_false (D3 (h 27 rfl) (hp 27 0 false rfl)))))⟩,
  fun σ W g h hp hb=>(B0 W _ t2 K (sd3 (h 1 rfl)) (by omega) n2.2.1).mono fun _ _ ⟨a,g⟩=>⟨_,a,rfl,g⟩,
  fun σ W g h hp hb=>fun ρ o ho _ hv=>⟨_,A5 ho ((A0 hv).1.trans (h 31 rfl)) (A0 hv).2 rfl,congrArg Value.bool (K8 t2)⟩,
  fun σ W g h hp hb=>B6 W _ _ r0 t2 K (sd1 (h 0 rfl)) (sd3 (h 1 rfl)) (by omega) n0.1.1 n0.1.2 n2.2.1 n2.2.2 (HT W g),
  fun σ W g h hp hb=>B4 W _ _ (K+K) (is0 (h 4 rfl)) (by omega) c0,
  fun σ W g h hp hb=>B6 W _ _ _ _ (K+K) (h 33 rfl) (h 34 rfl) (by omega) (E5 n0.1 n2.2).1 (E5 n0.1 n2.2).2 (C5 (by omega) c0).1 (C5 (by omega) c0).2 (HT W g),
  fun σ W g h hp hb=>e2 ▸ I0 W _ _ _ _ (16*K+5) (RatV.zero W) (h 35 rfl) (by omega) ((B9 (K:=1) (by omega)).mono (by omega)).1 ((B9 (K:=1) (by omega)).mono (by omega)).2 ((T n0.1 n2.2 c0).mono (by omega)).1 ((T n0.1 n2.2 c0).mono (by omega)).2 (HT W g),
  fun σ W g h hp hb=>toV (B0 W _ r0 K (sd1 (h 0 rfl)) (by omega) n0.1.1) (by rw [J3 (of_decide_eq_true (D3 (h 38 rfl) (hp 38 0 true rfl)))]),
  fun σ W g h hp hb=>(B0 W _ r0 K (sd1 (h 0 rfl)) (by omega) n0.1.1).mono fun _ _ ⟨a,g⟩=>⟨_,a,rfl,g⟩,
  fun σ W g h hp hb=>fun ρ o ho _ hv=>⟨_,A5 ho ((A0 hv).1.trans (h 40 rfl)) (A0 hv).2 rfl,congrArg Value.bool (beq_eq_false_iff_ne.2 (I1 (of_decide_eq_false (D3 (h 38 rfl) (hp 38 0 false rfl)))))⟩,
  fun σ W g h hp hb=>(B0 W _ t3 K (sd4 (h 1 rfl)) (by omega) n3.2.1).mono fun _ _ ⟨a,g⟩=>⟨_,a,rfl,g⟩,
  fun σ W g h hp hb=>fun ρ o ho _ hv=>⟨_,A5 ho ((A0 hv).1.trans (h 42 rfl)) (A0 hv).2 rfl,congrArg Value.bool (K8 t3)⟩,
  fun σ W g h hp hb=>B6 W _ _ r0 t3 K (sd1 (h 0 rfl)) (sd4 (h 1 rfl)) (by omega) n0.1.1 n0.1.2 n3.2.1 n3.2.2 (HT W g),
  fun σ W g h hp hb=>B4 W _ _ (K+K) (is0 (h 4 rfl)) (by omega) c0,
  fun σ W g h hp hb=>B6 W _ _ _ _ (K+K) (h 44 rfl) (h 45 rfl) (by omega) (E5 n0.1 n3.2).1 (E5 n0.1 n3.2).2 (C5 (by omega) c0).1 (C5 (by omega) c0).2 (HT W g),
  fun σ W g h hp hb=>e3 ▸ I0 W _ _ _ _ (16*K+5) (RatV.zero W) (h 46 rfl) (by omega) ((B9 (K:=1) (by omega)).mono (by omega)).1 ((B9 (K:=1) (by omega)).mono (by omega)).2 ((T n0.1 n3.2 c0).mono (by omega)).1 ((T n0.1 n3.2 c0).mono (by omega)).2 (HT W g),
  fun σ W g h hp hb=>toV (B0 W _ r1 K (sd2 (h 0 rfl)) (by omega) n1.1.1) (by rw [J3 (of_decide_eq_true (D3 (h 49 rfl) (hp 49 0 true rfl)))]),
  fun σ W g h hp hb=>(B0 W _ r1 K (sd2 (h 0 rfl)) (by omega) n1.1.1).mono fun _ _ ⟨a,g⟩=>⟨_,a,rfl,g⟩,
  fun σ W g h hp hb=>fun ρ o ho _ hv=>⟨_,A5 ho ((A0 hv).1.trans (h 51 rfl)) (A0 hv).2 rfl,congrArg Value.bool (beq_eq_false_iff_ne.2 (I1 (of_decide_eq_false (D3 (h 49 rfl) (hp 49 0 false rfl)))))⟩,
  fun σ W g h hp hb=>(B0 W _ t0 K (sd1 (h 1 rfl)) (by omega) n0.2.1).mono fun _ _ ⟨a,g⟩=>⟨_,a,rfl,g⟩,
  fun σ W g h hp hb=>fun ρ o ho _ hv=>⟨_,A5 ho ((A0 hv).1.trans (h 53 rfl)) (A0 hv).2 rfl,congrArg Value.bool (K8 t0)⟩,
  fun σ W g h hp hb=>B6 W _ _ r1 t0 K (sd2 (h 0 rfl)) (sd1 (h 1 rfl)) (by omega) n1.1.1 n1.1.2 n0.2.1 n0.2.2 (HT W g),
  fun σ W g h hp hb=>B4 W _ _ (K+K) (is0 (h 4 rfl)) (by omega) c0,
  fun σ W g h hp hb=>B6 W _ _ _ _ (K+K) (h 55 rfl) (h 56 rfl) (by omega) (E5 n1.1 n0.2).1 (E5 n1.1 n0.2).2 (C5 (by omega) c0).1 (C5 (by omega) c0).2 (HT W g),
  fun σ W g h hp hb=>e4 ▸ I0 W _ _ _ _ (16*K+5) (h 26 rfl) (h 57 rfl) (by omega) ((v1).mono (by omega)).1 ((v1).mono (by omega)).2 ((T n1.1 n0.2 c0).mono (by omega)).1 ((T n1.1 n0.2 c0).mono (by omega)).2 (HT W g),
  fun σ W g h hp hb=>toV (B0 W _ r1 K (sd2 (h 0 rfl)) (by omega) n1.1.1) (by rw [J3 (of_decide_eq_true (D3 (h 60 rfl) (hp 60 0 true rfl)))]),
  fun σ W g h hp hb=>(B0 W _ r1 K (sd2 (h 0 rfl)) (by omega) n1.1.1).mono fun _ _ ⟨a,g⟩=>⟨_,a,rfl,g⟩,
  fun σ W g h hp hb=>fun ρ o ho _ hv=>⟨_,A5 ho ((A0 hv).1.trans (h 62 rfl)) (A0 hv).2 rfl,congrArg Value.bool (beq_eq_false_iff_ne.2 (I1 (of_decide_eq_false (D3 (h 60 rfl) (hp 60 0 false rfl)))))⟩,
  fun σ W g h hp hb=>(B0 W _ t1 K (sd2 (h 1 rfl)) (by omega) n1.2.1).mono fun _ _ ⟨a,g⟩=>⟨_,a,rfl,g⟩,
  fun σ W g h hp hb=>fun ρ o ho _ hv=>⟨_,A5 ho ((A0 hv).1.trans (h 64 rfl)) (A0 hv).2 rfl,congrArg Value.bool (K8 t1)⟩,
  fun σ W g h hp hb=>B6 W _ _ r1 t1 K (sd2 (h 0 rfl)) (sd2 (h 1 rfl)) (by omega) n1.1.1 n1.1.2 n1.2.1 n1.2.2 (HT W g),
  fun σ W g h hp hb=>B4 W _ _ (K+K) (is1 (h 4 rfl)) (by omega) c1,
  fun σ W g h hp hb=>B6 W _ _ _ _ (K+K) (h 66 rfl) (h 67 rfl) (by omega) (E5 n1.1 n1.2).1 (E5 n1.1 n1.2).2 (C5 (by omega) c1).1 (C5 (by omega) c1).2 (HT W g),
  fun σ W g h hp hb=>e5 ▸ I0 W _ _ _ _ (16*K+5) (h 15 rfl) (h 68 rfl) (by omega) ((v0).mono (by omega)).1 ((v0).mono (by omega)).2 ((T n1.1 n1.2 c1).mono (by omega)).1 ((T n1.1 n1.2 c1).mono (by omega)).2 (HT W g),
  fun σ W g h hp hb=>toV (B0 W _ r1 K (sd2 (h 0 rfl)) (by omega) n1.1.1) (by rw [J3 (of_decide_eq_true (D3 (h 71 rfl) (hp 71 0 true rfl)))]),
  fun σ W g h hp hb=>(B0 W _ r1 K (sd2 (h 0 rfl)) (by omega) n1.1.1).mono fun _ _ ⟨a,g⟩=>⟨_,a,rfl,g⟩,
  fun σ W g h hp hb=>fun ρ o ho _ hv=>⟨_,A5 ho ((A0 hv).1.trans (h 73 rfl)) (A0 hv).2 rfl,congrArg Value.bool (beq_eq_false_iff_ne.2 (I1 (of_decide_eq_false (D3 (h 71 rfl) (hp 71 0 false rfl)))))⟩,
  fun σ W g h hp hb=>(B0 W _ t2 K (sd3 (h 1 rfl)) (by omega) n2.2.1).mono fun _ _ ⟨a,g⟩=>⟨_,a,rfl,g⟩,
  fun σ W g h hp hb=>fun ρ o ho _ hv=>⟨_,A5 ho ((A0 hv).1.trans (h 75 rfl)) (A0 hv).2 rfl,congrArg Value.bool (K8 t2)⟩,
  fun σ W g h hp hb=>B6 W _ _ r1 t2 K (sd2 (h 0 rfl)) (sd3 (h 1 rfl)) (by omega) n1.1.1 n1.1.2 n2.2.1 n2.2.2 (HT W g),
  fun σ W g h hp hb=>B4 W _ _ (K+K) (is0 (h 4 rfl)) (by omega) c0,
  fun σ W g h hp hb=>B6 W _ _ _ _ (K+K) (h 77 rfl) (h 78 rfl) (by omega) (E5 n1.1 n2.2).1 (E5 n1.1 n2.2).2 (C5 (by omega) c0).1 (C5 (by omega) c0).2 (HT W g),
  fun σ W g h hp hb=>e6 ▸ I0 W _ _ _ _ (16*K+5) (h 48 rfl) (h 79 rfl) (by omega) ((v3).mono (by omega)).1 ((v3).mono (by omega)).2 ((T n1.1 n2.2 c0).mono (by omega)).1 ((T n1.1 n2.2 c0).mono (by omega)).2 (HT W g),
  fun σ W g h hp hb=>toV (B0 W _ r1 K (sd2 (h 0 rfl)) (by omega) n1.1.1) (by rw [J3 (of_decide_eq_true (D3 (h 82 rfl) (hp 82 0 true rfl)))]),
  fun σ W g h hp hb=>(B0 W _ r1 K (sd2 (h 0 rfl)) (by omega) n1.1.1).mono fun _ _ ⟨a,g⟩=>⟨_,a,rfl,g⟩,
  fun σ W g h hp hb=>fun ρ o ho _ hv=>⟨_,A5 ho ((A0 hv).1.trans (h 84 rfl)) (A0 hv).2 rfl,congrArg Value.bool (beq_eq_false_iff_ne.2 (I1 (of_decide_eq_false (D3 (h 82 rfl) (hp 82 0 false rfl)))))⟩,
  fun σ W g h hp hb=>(B0 W _ t3 K (sd4 (h 1 rfl)) (by omega) n3.2.1).mono fun _ _ ⟨a,g⟩=>⟨_,a,rfl,g⟩,
  fun σ W g h hp hb=>fun ρ o ho _ hv=>⟨_,A5 ho ((A0 hv).1.trans (h 86 rfl)) (A0 hv).2 rfl,congrArg Value.bool (K8 t3)⟩,
  fun σ W g h hp hb=>B6 W _ _ r1 t3 K (sd2 (h 0 rfl)) (sd4 (h 1 rfl)) (by omega) n1.1.1 n1.1.2 n3.2.1 n3.2.2 (HT W g),
  fun σ W g h hp hb=>B4 W _ _ (K+K) (is1 (h 4 rfl)) (by omega) c1,
  fun σ W g h hp hb=>B6 W _ _ _ _ (K+K) (h 88 rfl) (h 89 rfl) (by omega) (E5 n1.1 n3.2).1 (E5 n1.1 n3.2).2 (C5 (by omega) c1).1 (C5 (by omega) c1).2 (HT W g),
  fun σ W g h hp hb=>e7 ▸ I0 W _ _ _ _ (16*K+5) (h 37 rfl) (h 90 rfl) (by omega) ((v2).mono (by omega)).1 ((v2).mono (by omega)).2 ((T n1.1 n3.2 c1).mono (by omega)).1 ((T n1.1 n3.2 c1).mono (by omega)).2 (HT W g),
  fun σ W g h hp hb=>toV (B0 W _ r2 K (sd3 (h 0 rfl)) (by omega) n2.1.1) (by rw [J3 (of_decide_eq_true (D3 (h 93 rfl) (hp 93 0 true rfl)))]),
  fun σ W g h hp hb=>(B0 W _ r2 K (sd3 (h 0 rfl)) (by omega) n2.1.1).mono fun _ _ ⟨a,g⟩=>⟨_,a,rfl,g⟩,
  fun σ W g h hp hb=>fun ρ o ho _ hv=>⟨_,A5 ho ((A0 hv).1.trans (h 95 rfl)) (A0 hv).2 rfl,congrArg Value.bool (beq_eq_false_iff_ne.2 (I1 (of_decide_eq_false (D3 (h 93 rfl) (hp 93 0 false rfl)))))⟩,
  fun σ W g h hp hb=>(B0 W _ t0 K (sd1 (h 1 rfl)) (by omega) n0.2.1).mono fun _ _ ⟨a,g⟩=>⟨_,a,rfl,g⟩,
  fun σ W g h hp hb=>fun ρ o ho _ hv=>⟨_,A5 ho ((A0 hv).1.trans (h 97 rfl)) (A0 hv).2 rfl,congrArg Value.bool (K8 t0)⟩,
  fun σ W g h hp hb=>B6 W _ _ r2 t0 K (sd3 (h 0 rfl)) (sd1 (h 1 rfl)) (by omega) n2.1.1 n2.1.2 n0.2.1 n0.2.2 (HT W g),
  fun σ W g h hp hb=>B4 W _ _ (K+K) (is0 (h 4 rfl)) (by omega) c0,
  fun σ W g h hp hb=>B6 W _ _ _ _ (K+K) (h 99 rfl) (h 100 rfl) (by omega) (E5 n2.1 n0.2).1 (E5 n2.1 n0.2).2 (C5 (by omega) c0).1 (C5 (by omega) c0).2 (HT W g),
  fun σ W g h hp hb=>e8 ▸ I0 W _ _ _ _ (16*K+5) (h 92 rfl) (h 101 rfl) (by omega) ((v7).mono (by omega)).1 ((v7).mono (by omega)).2 ((T n2.1 n0.2 c0).mono (by omega)).1 ((T n2.1 n0.2 c0).mono (by omega)).2 (HT W g),
  fun σ W g h hp hb=>toV (B0 W _ r2 K (sd3 (h 0 rfl)) (by omega) n2.1.1) (by rw [J3 (of_decide_eq_true (D3 (h 104 rfl) (hp 104 0 true rfl)))]),
  fun σ W g h hp hb=>(B0 W _ r2 K (sd3 (h 0 rfl)) (by omega) n2.1.1).mono fun _ _ ⟨a,g⟩=>⟨_,a,rfl,g⟩,
  fun σ W g h hp hb=>fun ρ o ho _ hv=>⟨_,A5 ho ((A0 hv).1.trans (h 106 rfl)) (A0 hv).2 rfl,congrArg Value.bool (beq_eq_false_iff_ne.2 (I1 (of_decide_eq_false (D3 (h 104 rfl) (hp 104 0 false rfl)))))⟩,
  fun σ W g h hp hb=>(B0 W _ t1 K (sd2 (h 1 rfl)) (by omega) n1.2.1).mono fun _ _ ⟨a,g⟩=>⟨_,a,rfl,g⟩,
  fun σ W g h hp hb=>fun ρ o ho _ hv=>⟨_,A5 ho ((A0 hv).1.trans (h 108 rfl)) (A0 hv).2 rfl,congrArg Value.bool (K8 t1)⟩,
  fun σ W g h hp hb=>B6 W _ _ r2 t1 K (sd3 (h 0 rfl)) (sd2 (h 1 rfl)) (by omega) n2.1.1 n2.1.2 n1.2.1 n1.2.2 (HT W g),
  fun σ W g h hp hb=>B4 W _ _ (K+K) (is0 (h 4 rfl)) (by omega) c0,
  fun σ W g h hp hb=>B6 W _ _ _ _ (K+K) (h 110 rfl) (h 111 rfl) (by omega) (E5 n2.1 n1.2).1 (E5 n2.1 n1.2).2 (C5 (by omega) c0).1 (C5 (by omega) c0).2 (HT W g),
  fun σ W g h hp hb=>e9 ▸ I0 W _ _ _ _ (16*K+5) (h 81 rfl) (h 112 rfl) (by omega) ((v6).mono (by omega)).1 ((v6).mono (by omega)).2 ((T n2.1 n1.2 c0).mono (by omega)).1 ((T n2.1 n1.2 c0).mono (by omega)).2 (HT W g),
  fun σ W g h hp hb=>toV (B0 W _ r2 K (sd3 (h 0 rfl)) (by omega) n2.1.1) (by rw [J3 (of_decide_eq_true (D3 (h 115 rfl) (hp 115 0 true rfl)))]),
  fun σ W g h hp hb=>(B0 W _ r2 K (sd3 (h 0 rfl)) (by omega) n2.1.1).mono fun _ _ ⟨a,g⟩=>⟨_,a,rfl,g⟩,
  fun σ W g h hp hb=>fun ρ o ho _ hv=>⟨_,A5 ho ((A0 hv).1.trans (h 117 rfl)) (A0 hv).2 rfl,congrArg Value.bool (beq_eq_false_iff_ne.2 (I1 (of_decide_eq_false (D3 (h 115 rfl) (hp 115 0 false rfl)))))⟩,
  fun σ W g h hp hb=>(B0 W _ t2 K (sd3 (h 1 rfl)) (by omega) n2.2.1).mono fun _ _ ⟨a,g⟩=>⟨_,a,rfl,g⟩,
  fun σ W g h hp hb=>fun ρ o ho _ hv=>⟨_,A5 ho ((A0 hv).1.trans (h 119 rfl)) (A0 hv).2 rfl,congrArg Value.bool (K8 t2)⟩,
  fun σ W g h hp hb=>B6 W _ _ r2 t2 K (sd3 (h 0 rfl)) (sd3 (h 1 rfl)) (by omega) n2.1.1 n2.1.2 n2.2.1 n2.2.2 (HT W g),
  fun σ W g h hp hb=>B4 W _ _ (K+K) (is2 (h 4 rfl)) (by omega) c2,
  fun σ W g h hp hb=>B6 W _ _ _ _ (K+K) (h 121 rfl) (h 122 rfl) (by omega) (E5 n2.1 n2.2).1 (E5 n2.1 n2.2).2 (C5 (by omega) c2).1 (C5 (by omega) c2).2 (HT W g),
  fun σ W g h hp hb=>e10 ▸ I0 W _ _ _ _ (16*K+5) (h 70 rfl) (h 123 rfl) (by omega) ((v5).mono (by omega)).1 ((v5).mono (by omega)).2 ((T n2.1 n2.2 c2).mono (by omega)).1 ((T n2.1 n2.2 c2).mono (by omega)).2 (HT W g),
  fun σ W g h hp hb=>toV (B0 W _ r2 K (sd3 (h 0 rfl)) (by omega) n2.1.1) (by rw [J3 (of_decide_eq_true (D3 (h 126 rfl) (hp 126 0 true rfl)))]),
  fun σ W g h hp hb=>(B0 W _ r2 K (sd3 (h 0 rfl)) (by omega) n2.1.1).mono fun _ _ ⟨a,g⟩=>⟨_,a,rfl,g⟩,
  fun σ W g h hp hb=>fun ρ o ho _ hv=>⟨_,A5 ho ((A0 hv).1.trans (h 128 rfl)) (A0 hv).2 rfl,congrArg Value.bool (beq_eq_false_iff_ne.2 (I1 (of_decide_eq_false (D3 (h 126 rfl) (hp 126 0 false rfl)))))⟩,
  fun σ W g h hp hb=>(B0 W _ t3 K (sd4 (h 1 rfl)) (by omega) n3.2.1).mono fun _ _ ⟨a,g⟩=>⟨_,a,rfl,g⟩,
  fun σ W g h hp hb=>fun ρ o ho _ hv=>⟨_,A5 ho ((A0 hv).1.trans (h 130 rfl)) (A0 hv).2 rfl,congrArg Value.bool (K8 t3)⟩,
  fun σ W g h hp hb=>B6 W _ _ r2 t3 K (sd3 (h 0 rfl)) (sd4 (h 1 rfl)) (by omega) n2.1.1 n2.1.2 n3.2.1 n3.2.2 (HT W g),
  fun σ W g h hp hb=>B4 W _ _ (K+K) (is2 (h 4 rfl)) (by omega) c2,
  fun σ W g h hp hb=>B6 W _ _ _ _ (K+K) (h 132 rfl) (h 133 rfl) (by omega) (E5 n2.1 n3.2).1 (E5 n2.1 n3.2).2 (C5 (by omega) c2).1 (C5 (by omega) c2).2 (HT W g),
  fun σ W g h hp hb=>e11 ▸ I0 W _ _ _ _ (16*K+5) (h 59 rfl) (h 134 rfl) (by omega) ((v4).mono (by omega)).1 ((v4).mono (by omega)).2 ((T n2.1 n3.2 c2).mono (by omega)).1 ((T n2.1 n3.2 c2).mono (by omega)).2 (HT W g),
  fun σ W g h hp hb=>toV (B0 W _ r3 K (sd4 (h 0 rfl)) (by omega) n3.1.1) (by rw [J3 (of_decide_eq_true (D3 (h 137 rfl) (hp 137 0 true rfl)))]),
  fun σ W g h hp hb=>(B0 W _ r3 K (sd4 (h 0 rfl)) (by omega) n3.1.1).mono fun _ _ ⟨a,g⟩=>⟨_,a,rfl,g⟩,
  fun σ W g h hp hb=>fun ρ o ho _ hv=>⟨_,A5 ho ((A0 hv).1.trans (h 139 rfl)) (A0 hv).2 rfl,congrArg Value.bool (beq_eq_false_iff_ne.2 (I1 (of_decide_eq_false (D3 (h 137 rfl) (hp 137 0 false rfl)))))⟩,
  fun σ W g h hp hb=>(B0 W _ t0 K (sd1 (h 1 rfl)) (by omega) n0.2.1).mono fun _ _ ⟨a,g⟩=>⟨_,a,rfl,g⟩,
  fun σ W g h hp hb=>fun ρ o ho _ hv=>⟨_,A5 ho ((A0 hv).1.trans (h 141 rfl)) (A0 hv).2 rfl,congrArg Value.bool (K8 t0)⟩,
  fun σ W g h hp hb=>B6 W _ _ r3 t0 K (sd4 (h 0 rfl)) (sd1 (h 1 rfl)) (by omega) n3.1.1 n3.1.2 n0.2.1 n0.2.2 (HT W g),
  fun σ W g h hp hb=>B4 W _ _ (K+K) (is0 (h 4 rfl)) (by omega) c0,
  fun σ W g h hp hb=>B6 W _ _ _ _ (K+K) (h 143 rfl) (h 144 rfl) (by omega) (E5 n3.1 n0.2).1 (E5 n3.1 n0.2).2 (C5 (by omega) c0).1 (C5 (by omega) c0).2 (HT W g),
  fun σ W g h hp hb=>e12 ▸ I0 W _ _ _ _ (16*K+5) (h 114 rfl) (h 145 rfl) (by omega) ((v9).mono (by omega)).1 ((v9).mono (by omega)).2 ((T n3.1 n0.2 c0).mono (by omega)).1 ((T n3.1 n0.2 c0).mono (by omega)).2 (HT W g),
  fun σ W g h hp hb=>toV (B0 W _ r3 K (sd4 (h 0 rfl)) (by omega) n3.1.1) (by rw [J3 (of_decide_eq_true (D3 (h 148 rfl) (hp 148 0 true rfl)))]),
  fun σ W g h hp hb=>(B0 W _ r3 K (sd4 (h 0 rfl)) (by omega) n3.1.1).mono fun _ _ ⟨a,g⟩=>⟨_,a,rfl,g⟩,
  fun σ W g h hp hb=>fun ρ o ho _ hv=>⟨_,A5 ho ((A0 hv).1.trans (h 150 rfl)) (A0 hv).2 rfl,congrArg Value.bool (beq_eq_false_iff_ne.2 (I1 (of_decide_eq_false (D3 (h 148 rfl) (hp 148 0 false rfl)))))⟩,
  fun σ W g h hp hb=>(B0 W _ t1 K (sd2 (h 1 rfl)) (by omega) n1.2.1).mono fun _ _ ⟨a,g⟩=>⟨_,a,rfl,g⟩,
  fun σ W g h hp hb=>fun ρ o ho _ hv=>⟨_,A5 ho ((A0 hv).1.trans (h 152 rfl)) (A0 hv).2 rfl,congrArg Value.bool (K8 t1)⟩,
  fun σ W g h hp hb=>B6 W _ _ r3 t1 K (sd4 (h 0 rfl)) (sd2 (h 1 rfl)) (by omega) n3.1.1 n3.1.2 n1.2.1 n1.2.2 (HT W g),
  fun σ W g h hp hb=>B4 W _ _ (K+K) (is1 (h 4 rfl)) (by omega) c1,
  fun σ W g h hp hb=>B6 W _ _ _ _ (K+K) (h 154 rfl) (h 155 rfl) (by omega) (E5 n3.1 n1.2).1 (E5 n3.1 n1.2).2 (C5 (by omega) c1).1 (C5 (by omega) c1).2 (HT W g),
  fun σ W g h hp hb=>e13 ▸ I0 W _ _ _ _ (16*K+5) (h 103 rfl) (h 156 rfl) (by omega) ((v8).mono (by omega)).1 ((v8).mono (by omega)).2 ((T n3.1 n1.2 c1).mono (by omega)).1 ((T n3.1 n1.2 c1).mono (by omega)).2 (HT W g),
  fun σ W g h hp hb=>toV (B0 W _ r3 K (sd4 (h 0 rfl)) (by omega) n3.1.1) (by rw [J3 (of_decide_eq_true (D3 (h 159 rfl) (hp 159 0 true rfl)))]),
  fun σ W g h hp hb=>(B0 W _ r3 K (sd4 (h 0 rfl)) (by omega) n3.1.1).mono fun _ _ ⟨a,g⟩=>⟨_,a,rfl,g⟩,
  fun σ W g h hp hb=>fun ρ o ho _ hv=>⟨_,A5 ho ((A0 hv).1.trans (h 161 rfl)) (A0 hv).2 rfl,congrArg Value.bool (beq_eq_false_iff_ne.2 (I1 (of_decide_eq_false (D3 (h 159 rfl) (hp 159 0 false rfl)))))⟩,
  fun σ W g h hp hb=>(B0 W _ t2 K (sd3 (h 1 rfl)) (by omega) n2.2.1).mono fun _ _ ⟨a,g⟩=>⟨_,a,rfl,g⟩,
  fun σ W g h hp hb=>fun ρ o ho _ hv=>⟨_,A5 ho ((A0 hv).1.trans (h 163 rfl)) (A0 hv).2 rfl,congrArg Value.bool (K8 t2)⟩,
  fun σ W g h hp hb=>B6 W _ _ r3 t2 K (sd4 (h 0 rfl)) (sd3 (h 1 rfl)) (by omega) n3.1.1 n3.1.2 n2.2.1 n2.2.2 (HT W g),
  fun σ W g h hp hb=>B4 W _ _ (K+K) (is2 (h 4 rfl)) (by omega) c2,
  fun σ W g h hp hb=>B6 W _ _ _ _ (K+K) (h 165 rfl) (h 166 rfl) (by omega) (E5 n3.1 n2.2).1 (E5 n3.1 n2.2).2 (C5 (by omega) c2).1 (C5 (by omega) c2).2 (HT W g),
  fun σ W g h hp hb=>e14 ▸ I0 W _ _ _ _ (16*K+5) (h 136 rfl) (h 167 rfl) (by omega) ((v11).mono (by omega)).1 ((v11).mono (by omega)).2 ((T n3.1 n2.2 c2).mono (by omega)).1 ((T n3.1 n2.2 c2).mono (by omega)).2 (HT W g),
  fun σ W g h hp hb=>toV (B0 W _ r3 K (sd4 (h 0 rfl)) (by omega) n3.1.1) (by rw [J3 (of_decide_eq_true (D3 (h 170 rfl) (hp 170 0 true rfl)))]),
  fun σ W g h hp hb=>(B0 W _ r3 K (sd4 (h 0 rfl)) (by omega) n3.1.1).mono fun _ _ ⟨a,g⟩=>⟨_,a,rfl,g⟩,
  fun σ W g h hp hb=>fun ρ o ho _ hv=>⟨_,A5 ho ((A0 hv).1.trans (h 172 rfl)) (A0 hv).2 rfl,congrArg Value.bool (beq_eq_false_iff_ne.2 (I1 (of_decide_eq_false (D3 (h 170 rfl) (hp 170 0 false rfl)))))⟩,
  fun σ W g h hp hb=>(B0 W _ t3 K (sd4 (h 1 rfl)) (by omega) n3.2.1).mono fun _ _ ⟨a,g⟩=>⟨_,a,rfl,g⟩,
  fun σ W g h hp hb=>fun ρ o ho _ hv=>⟨_,A5 ho ((A0 hv).1.trans (h 174 rfl)) (A0 hv).2 rfl,congrArg Value.bool (K8 t3)⟩,
  fun σ W g h hp hb=>B6 W _ _ r3 t3 K (sd4 (h 0 rfl)) (sd4 (h 1 rfl)) (by omega) n3.1.1 n3.1.2 n3.2.1 n3.2.2 (HT W g),
  fun σ W g h hp hb=>B4 W _ _ (K+K) (is3 (h 4 rfl)) (by omega) c3,
  fun σ W g h hp hb=>B6 W _ _ _ _ (K+K) (h 176 rfl) (h 177 rfl) (by omega) (E5 n3.1 n3.2).1 (E5 n3.1 n3.2).2 (C5 (by omega) c3).1 (C5 (by omega) c3).2 (HT W g),
  fun σ W g h hp hb=>e15 ▸ I0 W _ _ _ _ (16*K+5) (h 125 rfl) (h 178 rfl) (by omega) ((v10).mono (by omega)).1 ((v10).mono (by omega)).2 ((T n3.1 n3.2 c3).mono (by omega)).1 ((T n3.1 n3.2 c3).mono (by omega)).2 (HT W g),
  trivial⟩
  ⟨fun σ W g h hp=>⟨rfl,_,rfl⟩,
  fun σ W g h hp=>⟨_,h 10 rfl⟩,
  fun σ W g h hp=>⟨RatV.eq (q0 (.inl (of_decide_eq_true (D3 (h 5 rfl) (hp 5 0 true rfl))))) (RatV.zero W),trivial⟩,
  fun σ W g h hp=>⟨RatV.eq (q0 (.inr (of_decide_eq_true (D3 (h 10 rfl) (hp 10 0 true rfl))))) (RatV.zero W),trivial⟩,
  fun σ W g h hp=>⟨h 14 rfl,trivial⟩,
  fun σ W g h hp=>⟨rfl,_,rfl⟩,
  fun σ W g h hp=>⟨_,h 21 rfl⟩,
  fun σ W g h hp=>⟨RatV.eq (q1 (.inl (of_decide_eq_true (D3 (h 16 rfl) (hp 16 0 true rfl))))) (RatV.zero W),trivial⟩,
  fun σ W g h hp=>⟨RatV.eq (q1 (.inr (of_decide_eq_true (D3 (h 21 rfl) (hp 21 0 true rfl))))) (RatV.zero W),trivial⟩,
  fun σ W g h hp=>⟨h 25 rfl,trivial⟩,
  fun σ W g h hp=>⟨rfl,_,rfl⟩,
  fun σ W g h hp=>⟨_,h 32 rfl⟩,
  fun σ W g h hp=>⟨RatV.eq (q2 (.inl (of_decide_eq_true (D3 (h 27 rfl) (hp 27 0 true rfl))))) (RatV.zero W),trivial⟩,
  fun σ W g h hp=>⟨RatV.eq (q2 (.inr (of_decide_eq_true (D3 (h 32 rfl) (hp 32 0 true rfl))))) (RatV.zero W),trivial⟩,
  fun σ W g h hp=>⟨h 36 rfl,trivial⟩,
  fun σ W g h hp=>⟨rfl,_,rfl⟩,
  fun σ W g h hp=>⟨_,h 43 rfl⟩,
  fun σ W g h hp=>⟨RatV.eq (q3 (.inl (of_decide_eq_true (D3 (h 38 rfl) (hp 38 0 true rfl))))) (RatV.zero W),trivial⟩,
  fun σ W g h hp=>⟨RatV.eq (q3 (.inr (of_decide_eq_true (D3 (h 43 rfl) (hp 43 0 true rfl))))) (RatV.zero W),trivial⟩,
  fun σ W g h hp=>⟨h 47 rfl,trivial⟩,
  fun σ W g h hp=>⟨rfl,_,rfl⟩,
  fun σ W g h hp=>⟨_,h 54 rfl⟩,
  fun σ W g h hp=>⟨RatV.eq (q4 (.inl (of_decide_eq_true (D3 (h 49 rfl) (hp 49 0 true rfl))))) (h 26 rfl),trivial⟩,
  fun σ W g h hp=>⟨RatV.eq (q4 (.inr (of_decide_eq_true (D3 (h 54 rfl) (hp 54 0 true rfl))))) (h 26 rfl),trivial⟩,
  fun σ W g h hp=>⟨h 58 rfl,trivial⟩,
  fun σ W g h hp=>⟨rfl,_,rfl⟩,
  fun σ W g h hp=>⟨_,h 65 rfl⟩,
  fun σ W g h hp=>⟨RatV.eq (q5 (.inl (of_decide_eq_true (D3 (h 60 rfl) (hp 60 0 true rfl))))) (h 15 rfl),trivial⟩,
  fun σ W g h hp=>⟨RatV.eq (q5 (.inr (of_decide_eq_true (D3 (h 65 rfl) (hp 65 0 true rfl))))) (h 15 rfl),trivial⟩,
  fun σ W g h hp=>⟨h 69 rfl,trivial⟩,
  fun σ W g h hp=>⟨rfl,_,rfl⟩,
  fun σ W g h hp=>⟨_,h 76 rfl⟩,
  fun σ W g h hp=>⟨RatV.eq (q6 (.inl (of_decide_eq_true (D3 (h 71 rfl) (hp 71 0 true rfl))))) (h 48 rfl),trivial⟩,
  fun σ W g h hp=>⟨RatV.eq (q6 (.inr (of_decide_eq_true (D3 (h 76 rfl) (hp 76 0 true rfl))))) (h 48 rfl),trivial⟩,
  fun σ W g h hp=>⟨h 80 rfl,trivial⟩,
  fun σ W g h hp=>⟨rfl,_,rfl⟩,
  fun σ W g h hp=>⟨_,h 87 rfl⟩,
  fun σ W g h hp=>⟨RatV.eq (q7 (.inl (of_decide_eq_true (D3 (h 82 rfl) (hp 82 0 true rfl))))) (h 37 rfl),trivial⟩,
  fun σ W g h hp=>⟨RatV.eq (q7 (.inr (of_decide_eq_true (D3 (h 87 rfl) (hp 87 0 true rfl))))) (h 37 rfl),trivial⟩,
  fun σ W g h hp=>⟨h 91 rfl,trivial⟩,
  fun σ W g h hp=>⟨rfl,_,rfl⟩,
  fun σ W g h hp=>⟨_,h 98 rfl⟩,
  fun σ W g h hp=>⟨RatV.eq (q8 (.inl (of_decide_eq_true (D3 (h 93 rfl) (hp 93 0 true rfl))))) (h 92 rfl),trivial⟩,
  fun σ W g h hp=>⟨RatV.eq (q8 (.inr (of_decide_eq_true (D3 (h 98 rfl) (hp 98 0 true rfl))))) (h 92 rfl),trivial⟩,
  fun σ W g h hp=>⟨h 102 rfl,trivial⟩,
  fun σ W g h hp=>⟨rfl,_,rfl⟩,
  fun σ W g h hp=>⟨_,h 109 rfl⟩,
  fun σ W g h hp=>⟨RatV.eq (q9 (.inl (of_decide_eq_true (D3 (h 104 rfl) (hp 104 0 true rfl))))) (h 81 rfl),trivial⟩,
  fun σ W g h hp=>⟨RatV.eq (q9 (.inr (of_decide_eq_true (D3 (h 109 rfl) (hp 109 0 true rfl))))) (h 81 rfl),trivial⟩,
  fun σ W g h hp=>⟨h 113 rfl,trivial⟩,
  fun σ W g h hp=>⟨rfl,_,rfl⟩,
  fun σ W g h hp=>⟨_,h 120 rfl⟩,
  fun σ W g h hp=>⟨RatV.eq (q10 (.inl (of_decide_eq_true (D3 (h 115 rfl) (hp 115 0 true rfl))))) (h 70 rfl),trivial⟩,
  fun σ W g h hp=>⟨RatV.eq (q10 (.inr (of_decide_eq_true (D3 (h 120 rfl) (hp 120 0 true rfl))))) (h 70 rfl),trivial⟩,
  fun σ W g h hp=>⟨h 124 rfl,trivial⟩,
  fun σ W g h hp=>⟨rfl,_,rfl⟩,
  fun σ W g h hp=>⟨_,h 131 rfl⟩,
  fun σ W g h hp=>⟨RatV.eq (q11 (.inl (of_decide_eq_true (D3 (h 126 rfl) (hp 126 0 true rfl))))) (h 59 rfl),trivial⟩,
  fun σ W g h hp=>⟨RatV.eq (q11 (.inr (of_decide_eq_true (D3 (h 131 rfl) (hp 131 0 true rfl))))) (h 59 rfl),trivial⟩,
  fun σ W g h hp=>⟨h 135 rfl,trivial⟩,
  fun σ W g h hp=>⟨rfl,_,rfl⟩,
  fun σ W g h hp=>⟨_,h 142 rfl⟩,
  fun σ W g h hp=>⟨RatV.eq (q12 (.inl (of_decide_eq_true (D3 (h 137 rfl) (hp 137 0 true rfl))))) (h 114 rfl),trivial⟩,
  fun σ W g h hp=>⟨RatV.eq (q12 (.inr (of_decide_eq_true (D3 (h 142 rfl) (hp 142 0 true rfl))))) (h 114 rfl),trivial⟩,
  fun σ W g h hp=>⟨h 146 rfl,trivial⟩,
  fun σ W g h hp=>⟨rfl,_,rfl⟩,
  fun σ W g h hp=>⟨_,h 153 rfl⟩,
  fun σ W g h hp=>⟨RatV.eq (q13 (.inl (of_decide_eq_true (D3 (h 148 rfl) (hp 148 0 true rfl))))) (h 103 rfl),trivial⟩,
  fun σ W g h hp=>⟨RatV.eq (q13 (.inr (of_decide_eq_true (D3 (h 153 rfl) (hp 153 0 true rfl))))) (h 103 rfl),trivial⟩,
  fun σ W g h hp=>⟨h 157 rfl,trivial⟩,
  fun σ W g h hp=>⟨rfl,_,rfl⟩,
  fun σ W g h hp=>⟨_,h 164 rfl⟩,
  fun σ W g h hp=>⟨RatV.eq (q14 (.inl (of_decide_eq_true (D3 (h 159 rfl) (hp 159 0 true rfl))))) (h 136 rfl),trivial⟩,
  fun σ W g h hp=>⟨RatV.eq (q14 (.inr (of_decide_eq_true (D3 (h 164 rfl) (hp 164 0 true rfl))))) (h 136 rfl),trivial⟩,
  fun σ W g h hp=>⟨h 168 rfl,trivial⟩,
  fun σ W g h hp=>⟨rfl,_,rfl⟩,
  fun σ W g h hp=>⟨_,h 175 rfl⟩,
  fun σ W g h hp=>⟨RatV.eq (q15 (.inl (of_decide_eq_true (D3 (h 170 rfl) (hp 170 0 true rfl))))) (h 125 rfl),trivial⟩,
  fun σ W g h hp=>⟨RatV.eq (q15 (.inr (of_decide_eq_true (D3 (h 175 rfl) (hp 175 0 true rfl))))) (h 125 rfl),trivial⟩,
  fun σ W g h hp=>⟨h 179 rfl,trivial⟩,
  trivial⟩
  ⟨fun τ W g h hp hb=>⟨_,rfl,mksd (h 3 rfl) (RatV.eq z0 (h 180 rfl)) (RatV.eq z1 (h 169 rfl)) (RatV.eq z2 (h 158 rfl)) (RatV.eq z3 (h 147 rfl)),g⟩,
  trivial⟩
end Go.Proofs.YtdgdmicbbfoghaaGreatDoor
