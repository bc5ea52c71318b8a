/- What the laws lean on, part 18. -/
import Derived.Below
import Derived.BigCall
import Derived.BigQuiet
import Derived.BigRegion
import Derived.Deep.AppendLies
import Derived.Deep.CutBlock
import Derived.Deep.CutRange
import Derived.Deep.DeepCutAuto
import Derived.Deep.LoopGhost
import Derived.Deep.MidRow
import Derived.Deep.QuietTactic
import Derived.Deep.RegionHeld3
import Derived.Deep.WholeRow
import Derived.Laws.AppendOwn
import Derived.Laws.CopyOwn
import Derived.Laws.Externs
import Derived.Laws.IdiomStrings
import Derived.Lib.BitFns
import Derived.Lib.Hide
import Derived.Lib.Slices
import Derived.Lib.Small
import Derived.Lib.Strings
import Derived.Lib.Walk
import Derived.LoopN
import Derived.OrdersHeld
import Derived.OrdersIn
import Derived.Outline
import Derived.OwnWalk
import Derived.RangeFuncCalls
import Derived.RangeFuncNested
import Derived.RangeFuncOwn
import Derived.Shelf.Bits.Mul64
import Derived.Shelf.Spec.TrailingZeros
import Derived.StillTailTactics
import Derived.WalkKit
import Derived.WalkLawsBesides
import Derived.WalkSpells
import Derived.Test.YtdgdmicbbfoghaaGreatDoorProg
import Derived.Test.YtdgdmicbbfoghaaGreatDoorMg17
set_option linter.unusedVariables false
set_option linter.unusedSimpArgs false
set_option maxRecDepth 100000
namespace Go.Proofs.YtdgdmicbbfoghaaGreatDoor
open Go.RowKit Mat Ex
theorem sg4_or (m n:Nat) (a b c d:Rat):sg4 m n a b c d=1\/sg4 m n a b c d = -1\/sg4 m n a b c d=0:=by
 unfold sg4 rs
 split
 · exact Or.inl rfl
 · split
   · exact Or.inr (Or.inl rfl)
   · exact Or.inr (Or.inr rfl)
theorem oJ (r:Rat) (z:Int):r+((-z:Int):Rat)=r-(z:Rat):=by rw [Rat.intCast_neg];exact (Rat.sub_eq_add_neg _ _).symm
theorem uZ {K E:Nat} {r:Rat} {z:Int} (h:Bd1 K r) (hE : 1<=E) (hz:z.natAbs<B^E):Bd1 (K+E+1) (r-(z:Rat)):=by
 rw [<- oJ]
 have h2:=G4 hE (show (-z).natAbs<B^E by rw [Int.natAbs_neg];exact hz)
 exact ⟨nD h.1 h.2 h2.1 h2.2,nF h.2 h2.2⟩
theorem sW {r:Rat} (h:r-(r.floor:Int)=((r.floor+1:Int):Rat)-r):M0 r%2=0:=by
 have h2:=sX r
 rw [rcmp_zero.2 h] at h2
 unfold M0
 rw [<- h2,if_neg (by decide),if_neg (by decide)]
 split<;>omega
theorem near_rat (m n:Nat) (a:Rat):SNear m n a 0 0 0 (M0 a):=by
 obtain ⟨h1,h2⟩:=rnear_half a
 have h3:=Rat.floor_le a
 have h4:=Rat.lt_floor_add_one a
 unfold SNear
 rw [nJ,nJ]
 refine ⟨Int.sign_nonneg_iff.2 (Rat.num_nonneg.2 (by grind)),Int.not_lt.1 (fun h=>?_),fun h=>sW ?_⟩
 · have h5 : 0<=(-(a-(M0 a:Rat)-1 / 2)).num:=Rat.num_nonneg.2 (by grind)
   rw [Rat.neg_num] at h5
   have h6 : 0<(a-(M0 a:Rat)-1 / 2).num:=by
    rcases Int.lt_trichotomy (a-(M0 a:Rat)-1 / 2).num 0 with h7 | h7 | h7
    · rw [Int.sign_eq_neg_one_of_neg h7] at h;omega
    · rw [h7] at h;simp at h
    · exact h7
   omega
 · rw [N5] at h4 ⊢
   have hb:M0 a=a.floor\/M0 a=a.floor+1:=by rcases Y2 a with h | h;exact Or.inl h.2;exact Or.inr h.2
   rcases h with h | h
   · have h5:a-(M0 a:Rat)+1 / 2=0:=Rat.num_eq_zero.1 (Int.sign_eq_zero_iff_zero.1 h)
     rcases hb with e | e
     · rw [e] at h5;grind
     · rw [e,N5] at h5;grind
   · have h5:a-(M0 a:Rat)-1 / 2=0:=Rat.num_eq_zero.1 (Int.sign_eq_zero_iff_zero.1 h)
     rcases hb with e | e
     · rw [e] at h5;grind
     · rw [e,N5] at h5;grind
theorem floor_mid (f:Int):((f:Rat)-1 / 2).floor=f-1:=by
 have h3:=Rat.floor_le ((f:Rat)-1 / 2)
 have h4:=Rat.lt_floor_add_one ((f:Rat)-1 / 2)
 rw [N5] at h4
 have h5:((((f:Rat)-1 / 2).floor:Int):Rat)<(f:Rat):=by grind
 have h6:(f:Rat)<(((((f:Rat)-1 / 2).floor+1+1:Int)):Rat):=by rw [N5,N5];grind
 have h7:=Rat.intCast_lt_intCast.1 h5
 have h8:=Rat.intCast_lt_intCast.1 h6
 omega
theorem kS (f:Int):(M0 ((f:Rat)-1 / 2)=f\/M0 ((f:Rat)-1 / 2)=f-1)/\M0 ((f:Rat)-1 / 2)%2=0:=by
 have e:=floor_mid f
 refine ⟨?_,sW ?_⟩
 · rcases Y2 ((f:Rat)-1 / 2) with h | h
   · right;rw [h.2,e]
   · left;rw [h.2,e];omega
 · rw [e,show f-1+1=f by omega,Rat.intCast_sub];grind
theorem rnear_nb {r:Rat} {K:Nat} (h:Bd1 K r) (hK : 1<=K):(M0 r).natAbs<B^(K+1):=by
 have h1:=sY h
 have h2:B^(K+1)=B^K*B:=Nat.pow_succ ..
 have h3:B^K*2<=B^K*B:=Nat.mul_le_mul_left _ (by unfold B;decide)
 have h4 : 1<=B^K:=Nat.pow_pos D6
 have:M0 r=r.floor\/M0 r=r.floor+1:=by rcases Y2 r with h | h;exact Or.inl h.2;exact Or.inr h.2
 omega
theorem pred_nb {E:Nat} {f z:Int} (h:f.natAbs<B^E) (hz:z=f\/z=f-1):z.natAbs<B^(E+1):=by
 have h2:B^(E+1)=B^E*B:=Nat.pow_succ ..
 have h3:B^E*2<=B^E*B:=Nat.mul_le_mul_left _ (by unfold B;decide)
 have h4 : 1<=B^E:=Nat.pow_pos D6
 omega
def wD (w:World) (m n:Nat) (r0 r1 r2 r3:Rat) (E:Nat) (e:Ending) (w':World):Prop:=∃ z:Int,SNear m n r0 r1 r2 r3 z/\z.natAbs<B^E/\E4 w z e w'
theorem half_bd:Bd1 1 (1 / 2:Rat):=⟨by rw [show (1 / 2:Rat).num=1 from by decide +kernel];unfold B;decide,by rw [show (1 / 2:Rat).den=2 from by decide +kernel];unfold B;decide⟩
theorem lU {E:Nat} {z:Int} (hE : 1<=E) (h:z.natAbs<B^E):Bd1 (E+1+1) ((z:Rat)-1 / 2):=by
 have h1:=G4 hE h
 have h2:=uH half_bd
 rw [Rat.sub_eq_add_neg]
 exact ⟨nD h1.1 h1.2 h2.1 h2.2,nF h1.2 h2.2⟩
def sIc (p:Prop) (z:Int):Sp := .of (.agg 2) (fun v W=>IntV W v z/\p) (fun v W h=>by
 obtain ⟨s0,x0,b0,rfl,_⟩:=h.1
 exact ⟨P5 [.slice s0 x0.length x0.length,.bool b0],F4 (by simp [Value.oneCell']),rfl⟩) (fun v W W' k h=>⟨h.1.keeps k,h.2⟩)
theorem zc_lt (x y:Int):decide (J8 x y<0)=decide (x<y):=by
 unfold J8
 rcases Int.lt_trichotomy x y with h | h | h
 · rw [if_pos h,decide_eq_true h];rfl
 · rw [if_neg (by omega),if_pos h];exact (decide_eq_false (by omega)).symm
 · rw [if_neg (by omega),if_neg (by omega)];exact (decide_eq_false (by omega)).symm
theorem floor_ex (m n:Nat) (r0 r1 r2 r3:Rat) (X Y:Int) (hXY:X<=Y) (hlo:∀ z:Int,z<=X->0<=sg4 m n (r0-z) r1 r2 r3) (hhi:∀ z:Int,Y<z->sg4 m n (r0-z) r1 r2 r3 = -1):∃ z:Int,SFloor m n r0 r1 r2 r3 z/\X<=z/\z<=Y:=by
 have key:∀ (k:Nat) (x:Int),X<=x->x+k=Y->0<=sg4 m n (r0-x) r1 r2 r3 -> ∃ z:Int,SFloor m n r0 r1 r2 r3 z/\X<=z/\z<=Y:=by
  intro k
  induction k with
  | zero=>intro x h0 h1 h2;exact ⟨x,⟨h2,hhi _ (by omega)⟩,h0,by omega⟩
  | succ k ih=>
    intro x h0 h1 h2
    by_cases h3 : 0<=sg4 m n (r0-(x+1:Int)) r1 r2 r3
    · exact ih (x+1) (by omega) (by omega) h3
    · refine ⟨x,⟨h2, ?_⟩,h0,by omega⟩
      rcases sg4_or m n (r0-(x+1:Int)) r1 r2 r3 with h | h | h<;>omega
 exact key (Y-X).toNat X (Int.le_refl _) (by omega) (hlo X (Int.le_refl _))
theorem sf_eq {m n:Nat} {r0 r1 r2 r3:Rat} {z z':Int} (h:SFloor m n r0 r1 r2 r3 z) (h':SFloor m n r0 r1 r2 r3 z'):z'=z:=SFloor.uniq h' h
theorem SFloor_rat (w:World) (va:Value) (m n:Nat) (r0 r1 r2 r3:Rat) (K:Nat) (Ha:SurdV w va (m:Int) (n:Int) r0 r1 r2 r3) (hK : 1<=K/\K<=150) (b0:Bd1 K r0) (b1:Bd1 K r1) (b2:Bd1 K r2) (b3:Bd1 K r3) (lm:m<B^K) (ln:n<B^K) (hTab:Tab w) (hr:r1=0/\r2=0/\r3=0) :
 Calls Tryz.prog 31 #[va] w (rF w m n r0 r1 r2 r3 (30*K+11)):=by
 refine A6 B5 Tryz.func31 [sSd (m:Int) (n:Int) r0 r1 r2 r3] [sV (.bool true),sI r0.floor] (.cons Ha .nil) (rs:=[cl 1 77 [ag 20 0],cl 2 78 [.v true [.an 0 4,.an 0 5,.an 0 6,.an 0 7]]]) (out:=ag 2 2) (nc:=3) (by kernel_rfl)
  ⟨fun σ W g h hb=>toV (Q2 W _ _ _ r0 r1 r2 r3 K (h 0 rfl) (by omega) b0 b1 b2 b3) (congrArg Value.bool (decide_eq_true hr)),
  fun σ W g h hb=>FFloor_any W _ r0 K (sd1 (h 0 rfl)) (by omega) b0.1 b0.2,
  trivial⟩ fun τ W g h=>⟨_,by obtain ⟨e1,e2,e3⟩:=hr;subst e1 e2 e3;exact floor_rat m n r0,D2 (sY b0) (by omega),_,rfl,h 2 rfl,g⟩
theorem SFloor_root (w:World) (va:Value) (m n:Nat) (r0 r1 r2 r3:Rat) (K:Nat) (Ha:SurdV w va (m:Int) (n:Int) r0 r1 r2 r3) (hK : 1<=K/\K<=150) (b0:Bd1 K r0) (b1:Bd1 K r1) (b2:Bd1 K r2) (b3:Bd1 K r3) (lm:m<B^K) (ln:n<B^K) (hTab:Tab w) (hr:¬ (r1=0/\r2=0/\r3=0)) :
 Calls Tryz.prog 31 #[va] w (rF w m n r0 r1 r2 r3 (30*K+11)):=by
 obtain ⟨X,Y,hA,hXY,lX,lY,hlo,hhi⟩:=mN m n r0 r1 r2 r3 K (by omega) b0 b1 b2 b3 lm ln
 refine W6 B5 Tryz.func31 [sSd (m:Int) (n:Int) r0 r1 r2 r3] (fun k:Nat=>[sV (.bool false),sII X Y,sIc (X+(k:Int)<=Y/\0<=sg4 m n (r0-(X+(k:Int):Int)) r1 r2 r3) (X+(k:Int)),sZ (J8 (X+(k:Int)) Y),sB (decide ((X+(k:Int))<Y)),sI 1,sI (X+(k:Int)+1),sI (-(X+(k:Int)+1)),sQ ((-(X+(k:Int)+1):Int):Rat),sSd (m:Int) (n:Int) (r0-((X+(k:Int)+1):Int)) r1 r2 r3,sZ (sg4 m n (r0-((X+(k:Int)+1):Int)) r1 r2 r3),sB (decide (sg4 m n (r0-((X+(k:Int)+1):Int)) r1 r2 r3<0))]) (fun m k=>if m=3 then (Y-X-(k:Int)).toNat else 0) (0) (fun _=>rfl) [1000000] [some [[.t 5,.t 17,.t 18,.t 19,.t 20,.t 21,.t 22,.t 23,.t 24,.t 25,.t 26,.t 27,.t 28,.t 29,.t 30,.t 31],[.c 2 0,.c 2 1]]] (.cons Ha .nil) (rs:=[(cl 1 77 [ag 20 0],[]),(cl 2 79 [ag 20 0],[]),(cl 4 18 [ag 2 3,.v true [.an 2 2,.an 2 3]],[]),(co 5 (.binOp .lss 3 (.tmp 19) (.const (.int .i64 0)) 3) 4 [on 4,.v false [.lit (.int .i64 0)]] [0,1,2,3,4] [],[]),(cl 6 10 [.v false [.lit (.int .i64 1)]],[(5,0,true)]),(cl 7 45 [ag 2 3,ag 2 6],[(5,0,true)]),(cl 8 81 [ag 2 7],[(5,0,true)]),(cl 9 9 [ag 2 8],[(5,0,true)]),(cl 10 80 [ag 20 0,ag 4 9],[(5,0,true)]),(cl 11 13 [ag 20 10],[(5,0,true)]),(co 12 (.binOp .lss 3 (.tmp 29) (.const (.int .i64 0)) 3) 4 [on 11,.v false [.lit (.int .i64 0)]] [0,1,2,3,4,5,6,7,8,9,10,11] [],[(5,0,true)])]) (js:=[.loop false 3 [(3,ag 2 2)] (List.range 3) [],.test 5 0 (List.range 6) [],.test 12 0 (List.range 13) [(5,0,true)],.loop true 3 [(3,ag 2 7)] (List.range 13) [(12,0,false),(5,0,true)]]) (outs:=[⟨ag 2 3,(List.range 13),[(12,0,true),(5,0,true)],[],[]⟩,⟨ag 2 3,(List.range 6),[(5,0,false)],[],[]⟩]) (nc:=13) (by kernel_rfl)
  (fun k=>⟨fun σ W g h hp hb=>toV (Q2 W _ _ _ r0 r1 r2 r3 K (h 0 rfl) (by omega) b0 b1 b2 b3) (congrArg Value.bool (decide_eq_false hr)),
  fun σ W g h hp hb=>toII (hA W _ (h 0 rfl) (hTab.kept g (by simp))),
  fun σ W g h hp hb=>by
   have q:=(h 3 rfl).2
   exact toZ (L8 W _ _ _ Y (30*K+11) (h 3 rfl).1 (ii2 (h 2 rfl)) (by omega) (K6 lX lY (by omega) (by omega)) lY) rfl,
  fun σ W g h hp hb=>fun ρ o ho _ hv=>⟨_,A5 ho ((A0 hv).1.trans (h 4 rfl)) (A0 hv).2 rfl,congrArg Value.bool (zc_lt _ _)⟩,
  fun σ W g h hp hb=>B8 W 1 (by omega) (by omega),
  fun σ W g h hp hb=>by
   have q:=(h 3 rfl).2
   have q2:=of_decide_eq_true (D3 (h 5 rfl) (hp 5 0 true rfl))
   have q3:(X+(k:Int)+1).natAbs<B^(30*K+11):=K6 lX lY (by omega) (by omega)
   exact F6 W _ _ (X+(k:Int)) 1 (30*K+11) (h 3 rfl).1 (h 6 rfl) (by omega) (K6 lX lY (by omega) (by omega)) (bH _ (by omega)),
  fun σ W g h hp hb=>by
   have q:=(h 3 rfl).2
   have q2:=of_decide_eq_true (D3 (h 5 rfl) (hp 5 0 true rfl))
   have q3:(X+(k:Int)+1).natAbs<B^(30*K+11):=K6 lX lY (by omega) (by omega)
   exact X1 W _ _ (30*K+11) (h 7 rfl) (by omega) q3,
  fun σ W g h hp hb=>by
   have q:=(h 3 rfl).2
   have q2:=of_decide_eq_true (D3 (h 5 rfl) (hp 5 0 true rfl))
   have q3:(X+(k:Int)+1).natAbs<B^(30*K+11):=K6 lX lY (by omega) (by omega)
   exact B4 W _ _ (30*K+11) (h 8 rfl) (by omega) (by rw [Int.natAbs_neg];exact q3),
  fun σ W g h hp hb=>by
   have q:=(h 3 rfl).2
   have q2:=of_decide_eq_true (D3 (h 5 rfl) (hp 5 0 true rfl))
   have q3:(X+(k:Int)+1).natAbs<B^(30*K+11):=K6 lX lY (by omega) (by omega)
   have h9:=cC W _ _ ((-(X+(k:Int)+1):Int):Rat) _ _ r0 r1 r2 r3 (30*K+11) (h 0 rfl) (by omega) (h 9 rfl) (b0.mono (by omega)) (G4 (by omega) (by rw [Int.natAbs_neg];exact q3)) (hTab.kept g (by simp))
   rw [oJ] at h9;exact h9,
  fun σ W g h hp hb=>by
   have q:=(h 3 rfl).2
   have q2:=of_decide_eq_true (D3 (h 5 rfl) (hp 5 0 true rfl))
   have q3:(X+(k:Int)+1).natAbs<B^(30*K+11):=K6 lX lY (by omega) (by omega)
   exact toZ' (J2 W _ m n _ _ _ _ (K+(30*K+11)+1) (h 10 rfl) (by omega) (uZ b0 (by omega) q3) (b1.mono (by omega)) (b2.mono (by omega)) (b3.mono (by omega)) (D2 lm (by omega)) (D2 ln (by omega)) (hTab.kept g (by simp))),
  fun σ W g h hp hb=>fun ρ o ho _ hv=>⟨_,A5 ho ((A0 hv).1.trans (h 11 rfl)) (A0 hv).2 rfl,rfl⟩,
  trivial⟩)
  (fun k=>⟨fun σ W g h hp=>⟨0,(fun e=>nomatch e),⟨rfl,fun m hm=>(if_neg (by omega)).trans (if_neg (by omega)).symm⟩,⟨IntV.eq (show X+((0:Nat):Int)=X by omega) (ii1 (h 2 rfl)),by omega,hlo _ (by omega)⟩,trivial⟩,
  fun σ W g h hp=>⟨_,h 5 rfl⟩,
  fun σ W g h hp=>⟨_,h 12 rfl⟩,
  fun σ W g h hp=>by
   have q:=(h 3 rfl).2
   have q2:=of_decide_eq_true (D3 (h 5 rfl) (hp 5 0 true rfl))
   have q4:=of_decide_eq_false (D3 (h 12 rfl) (hp 12 0 false rfl))
   have q5:X+((k+1:Nat):Int)=X+(k:Int)+1:=by omega
   exact ⟨k+1,fun _=>by show (if 3=3 then (Y-X-((k+1:Nat):Int)).toNat else 0)<(if 3=3 then (Y-X-(k:Int)).toNat else 0);rw [if_pos rfl,if_pos rfl];omega,⟨rfl,fun m hm=>(if_neg (by omega)).trans (if_neg (by omega)).symm⟩,⟨IntV.eq q5 (h 7 rfl),by omega,by rw [q5];omega⟩,trivial⟩,
  trivial⟩)
  (fun k hk=>⟨fun τ W g h hp hb=>by
   have q:=(h 3 rfl).2
   have q4:=of_decide_eq_true (D3 (h 12 rfl) (hp 12 0 true rfl))
   exact ⟨_,⟨q.2,by rcases sg4_or m n (r0-(X+(k:Int)+1:Int)) r1 r2 r3 with h | h | h<;>omega⟩,K6 lX lY (by omega) (by omega),_,rfl,(h 3 rfl).1,g⟩,
  fun τ W g h hp hb=>by
   have q:=(h 3 rfl).2
   have q2:=of_decide_eq_false (D3 (h 5 rfl) (hp 5 0 false rfl))
   exact ⟨_,⟨q.2,hhi _ (by omega)⟩,K6 lX lY (by omega) (by omega),_,rfl,(h 3 rfl).1,g⟩,
  trivial⟩)
theorem SFloor_any (w:World) (va:Value) (m n:Nat) (r0 r1 r2 r3:Rat) (K:Nat) (Ha:SurdV w va (m:Int) (n:Int) r0 r1 r2 r3) (hK : 1<=K/\K<=150) (b0:Bd1 K r0) (b1:Bd1 K r1) (b2:Bd1 K r2) (b3:Bd1 K r3) (lm:m<B^K) (ln:n<B^K) (hTab:Tab w) :
 Calls Tryz.prog 31 #[va] w (rF w m n r0 r1 r2 r3 (30*K+11)):=by
 by_cases hr:r1=0/\r2=0/\r3=0
 · exact SFloor_rat w va m n r0 r1 r2 r3 K Ha hK b0 b1 b2 b3 lm ln hTab hr
 · exact SFloor_root w va m n r0 r1 r2 r3 K Ha hK b0 b1 b2 b3 lm ln hTab hr
theorem iP (w:World) (va:Value) (m n:Nat) (r0 r1 r2 r3:Rat) (K:Nat) (Ha:SurdV w va (m:Int) (n:Int) r0 r1 r2 r3) (hK : 1<=K/\K<=150) (b0:Bd1 K r0) (b1:Bd1 K r1) (b2:Bd1 K r2) (b3:Bd1 K r3) (lm:m<B^K) (ln:n<B^K) (hTab:Tab w) (z:Int) (hz:SFloor m n r0 r1 r2 r3 z) :
 Calls Tryz.prog 31 #[va] w (E4 w z):=
 (SFloor_any w va m n r0 r1 r2 r3 K Ha hK b0 b1 b2 b3 lm ln hTab).mono fun e w' ⟨z',h1,_,h2⟩=>by rw [sf_eq hz h1] at h2;exact h2
theorem floor_is (m n:Nat) (r0 r1 r2 r3:Rat) (K:Nat) (hK : 1<=K/\K<=2000) (b0:Bd1 K r0) (b1:Bd1 K r1) (b2:Bd1 K r2) (b3:Bd1 K r3) (lm:m<B^K) (ln:n<B^K):∃ z:Int,SFloor m n r0 r1 r2 r3 z/\z.natAbs<B^(30*K+11):=by
 obtain ⟨X,Y,hA,hXY,lX,lY,hlo,hhi⟩:=mN m n r0 r1 r2 r3 K (by omega) b0 b1 b2 b3 lm ln
 obtain ⟨z,h1,h2,h3⟩:=floor_ex m n r0 r1 r2 r3 X Y hXY hlo hhi
 exact ⟨z,h1,K6 lX lY h2 h3⟩
theorem SNear_rat (w:World) (va:Value) (m n:Nat) (r0 r1 r2 r3:Rat) (K:Nat) (Ha:SurdV w va (m:Int) (n:Int) r0 r1 r2 r3) (hK : 1<=K/\K<=140) (b0:Bd1 K r0) (b1:Bd1 K r1) (b2:Bd1 K r2) (b3:Bd1 K r3) (lm:m<B^K) (ln:n<B^K) (hTab:Tab w) (hr:r1=0/\r2=0/\r3=0) :
 Calls Tryz.prog 34 #[va] w (wD w m n r0 r1 r2 r3 (30*(K+2)+12)):=by
 refine A6 B5 Tryz.func34 [sSd (m:Int) (n:Int) r0 r1 r2 r3] [sV (.bool true),sI (M0 r0)] (.cons Ha .nil) (rs:=[cl 1 77 [ag 20 0],cl 2 89 [.v true [.an 0 4,.an 0 5,.an 0 6,.an 0 7]]]) (out:=ag 2 2) (nc:=3) (by kernel_rfl)
  ⟨fun σ W g h hb=>toV (Q2 W _ _ _ r0 r1 r2 r3 K (h 0 rfl) (by omega) b0 b1 b2 b3) (congrArg Value.bool (decide_eq_true hr)),
  fun σ W g h hb=>uC W _ r0 K (sd1 (h 0 rfl)) (by omega) b0.1 b0.2,
  trivial⟩ fun τ W g h=>⟨_,by obtain ⟨e1,e2,e3⟩:=hr;subst e1 e2 e3;exact near_rat m n r0,D2 (rnear_nb b0 hK.1) (by omega),_,rfl,h 2 rfl,g⟩
theorem half_one:Rat.divInt 1 2=1 / 2:=by decide +kernel
theorem SNear_root (w:World) (va:Value) (m n:Nat) (r0 r1 r2 r3:Rat) (K:Nat) (Ha:SurdV w va (m:Int) (n:Int) r0 r1 r2 r3) (hK : 1<=K/\K<=140) (b0:Bd1 K r0) (b1:Bd1 K r1) (b2:Bd1 K r2) (b3:Bd1 K r3) (lm:m<B^K) (ln:n<B^K) (hTab:Tab w) (hr:¬ (r1=0/\r2=0/\r3=0)) :
 Calls Tryz.prog 34 #[va] w (wD w m n r0 r1 r2 r3 (30*(K+2)+12)):=by
 have b4:Bd1 (K+2) (r0+1 / 2):=⟨nD b0.1 b0.2 half_bd.1 half_bd.2,nF b0.2 half_bd.2⟩
 obtain ⟨z,hz,lz⟩:=floor_is m n (r0+1 / 2) r1 r2 r3 (K+2) (by omega) b4 (b1.mono (by omega)) (b2.mono (by omega)) (b3.mono (by omega)) (D2 lm (by omega)) (D2 ln (by omega))
 obtain ⟨n1,n2⟩:=near_of hz
 rcases (show sg4 m n (r0+1 / 2-z) r1 r2 r3=0\/sg4 m n (r0+1 / 2-z) r1 r2 r3≠0 by omega) with h0 | h0
 · skip
   refine A6 B5 Tryz.func34 [sSd (m:Int) (n:Int) r0 r1 r2 r3] [sV (.bool false),sQE (1 / 2) 0,sSd (m:Int) (n:Int) (r0+1 / 2) r1 r2 r3,sI z,sQ (z:Rat),sQ (-(z:Rat)),sSd (m:Int) (n:Int) (r0+1 / 2-(z:Rat)) r1 r2 r3,sZ (sg4 m n (r0+1 / 2-(z:Rat)) r1 r2 r3),sV (.bool true),sQ ((z:Rat)-1 / 2),sI (M0 ((z:Rat)-1 / 2))] (.cons Ha .nil) (rs:=[cl 1 77 [ag 20 0],cl 2 41 [.v false [.lit (.int .i64 1)],.v false [.lit (.int .i64 2)]],cl 3 80 [ag 20 0,ag 4 2],cl 4 31 [ag 20 3],cl 5 9 [ag 2 4],cl 6 74 [ag 4 5],cl 7 80 [ag 20 3,ag 4 6],cl 8 13 [ag 20 7],co 9 (.binOp .eql 3 (.tmp 27) (.const (.int .i64 0)) 3) 4 [on 8,.v false [.lit (.int .i64 0)]] [0,1,2,3,4,5,6,7,8] [],cl 10 43 [ag 4 5,ag 4 2],cl 11 89 [ag 4 10]]) (out:=ag 2 11) (nc:=12) (by kernel_rfl)
    ⟨fun σ W g h hb=>toV (Q2 W _ _ _ r0 r1 r2 r3 K (h 0 rfl) (by omega) b0 b1 b2 b3) (congrArg Value.bool (decide_eq_false hr)),
    fun σ W g h hb=>toQE (half_one ▸ FOf_any W 1 2 (by omega) (by omega) (by omega) (by omega) (hTab.kept g (by simp))) (if_neg (by decide)),
    fun σ W g h hb=>cC W _ _ (1 / 2) _ _ r0 r1 r2 r3 K (h 0 rfl) (by omega) (qE (h 2 rfl)) b0 (half_bd.mono (by omega)) (hTab.kept g (by simp)),
    fun σ W g h hb=>iP W _ m n _ _ _ _ (K+2) (h 3 rfl) (by omega) b4 (b1.mono (by omega)) (b2.mono (by omega)) (b3.mono (by omega)) (D2 lm (by omega)) (D2 ln (by omega)) (hTab.kept g (by simp)) z hz,
    fun σ W g h hb=>B4 W _ _ (30*(K+2)+11) (h 4 rfl) (by omega) lz,
    fun σ W g h hb=>FNeg_any W _ _ (30*(K+2)+11) (h 5 rfl) (by omega) (G4 (by omega) lz).1 (G4 (by omega) lz).2,
    fun σ W g h hb=>by
     have h9:=cC W _ _ (-(z:Rat)) _ _ (r0+1 / 2) r1 r2 r3 (30*(K+2)+11) (h 3 rfl) (by omega) (h 6 rfl) (b4.mono (by omega)) (uH (G4 (by omega) lz)) (hTab.kept g (by simp))
     rw [<- Rat.sub_eq_add_neg] at h9;exact h9,
    fun σ W g h hb=>toZ' (J2 W _ m n _ _ _ _ (K+2+(30*(K+2)+11)+1) (h 7 rfl) (by omega) (uZ b4 (by omega) lz) (b1.mono (by omega)) (b2.mono (by omega)) (b3.mono (by omega)) (D2 lm (by omega)) (D2 ln (by omega)) (hTab.kept g (by simp))),
    fun σ W g h hb=>fun ρ o ho _ hv=>⟨_,A5 ho ((A0 hv).1.trans (h 8 rfl)) (A0 hv).2 rfl,congrArg Value.bool (decide_eq_true h0)⟩,
    fun σ W g h hb=>FSub_any W _ _ _ _ (30*(K+2)+11) (h 5 rfl) (qE (h 2 rfl)) (by omega) (G4 (by omega) lz).1 (G4 (by omega) lz).2 (half_bd.mono (by omega)).1 (half_bd.mono (by omega)).2 (hTab.kept g (by simp)),
    fun σ W g h hb=>uC W _ _ ((30*(K+2)+11)+1+1) (h 10 rfl) (by omega) (lU (by omega) lz).1 (lU (by omega) lz).2,
    trivial⟩ fun τ W g h=>⟨_,n2 h0 _ (kS z).1 (kS z).2,pred_nb lz (kS z).1,_,rfl,h 11 rfl,g⟩
 · skip
   refine A6 B5 Tryz.func34 [sSd (m:Int) (n:Int) r0 r1 r2 r3] [sV (.bool false),sQE (1 / 2) 0,sSd (m:Int) (n:Int) (r0+1 / 2) r1 r2 r3,sI z,sQ (z:Rat),sQ (-(z:Rat)),sSd (m:Int) (n:Int) (r0+1 / 2-(z:Rat)) r1 r2 r3,sZ (sg4 m n (r0+1 / 2-(z:Rat)) r1 r2 r3),sV (.bool false),sI (z:Rat).num] (.cons Ha .nil) (rs:=[cl 1 77 [ag 20 0],cl 2 41 [.v false [.lit (.int .i64 1)],.v false [.lit (.int .i64 2)]],cl 3 80 [ag 20 0,ag 4 2],cl 4 31 [ag 20 3],cl 5 9 [ag 2 4],cl 6 74 [ag 4 5],cl 7 80 [ag 20 3,ag 4 6],cl 8 13 [ag 20 7],co 9 (.binOp .eql 3 (.tmp 27) (.const (.int .i64 0)) 3) 4 [on 8,.v false [.lit (.int .i64 0)]] [0,1,2,3,4,5,6,7,8] [],cl 10 90 [ag 4 5]]) (out:=ag 2 10) (nc:=11) (by kernel_rfl)
    ⟨fun σ W g h hb=>toV (Q2 W _ _ _ r0 r1 r2 r3 K (h 0 rfl) (by omega) b0 b1 b2 b3) (congrArg Value.bool (decide_eq_false hr)),
    fun σ W g h hb=>toQE (half_one ▸ FOf_any W 1 2 (by omega) (by omega) (by omega) (by omega) (hTab.kept g (by simp))) (if_neg (by decide)),
    fun σ W g h hb=>cC W _ _ (1 / 2) _ _ r0 r1 r2 r3 K (h 0 rfl) (by omega) (qE (h 2 rfl)) b0 (half_bd.mono (by omega)) (hTab.kept g (by simp)),
    fun σ W g h hb=>iP W _ m n _ _ _ _ (K+2) (h 3 rfl) (by omega) b4 (b1.mono (by omega)) (b2.mono (by omega)) (b3.mono (by omega)) (D2 lm (by omega)) (D2 ln (by omega)) (hTab.kept g (by simp)) z hz,
    fun σ W g h hb=>B4 W _ _ (30*(K+2)+11) (h 4 rfl) (by omega) lz,
    fun σ W g h hb=>FNeg_any W _ _ (30*(K+2)+11) (h 5 rfl) (by omega) (G4 (by omega) lz).1 (G4 (by omega) lz).2,
    fun σ W g h hb=>by
     have h9:=cC W _ _ (-(z:Rat)) _ _ (r0+1 / 2) r1 r2 r3 (30*(K+2)+11) (h 3 rfl) (by omega) (h 6 rfl) (b4.mono (by omega)) (uH (G4 (by omega) lz)) (hTab.kept g (by simp))
     rw [<- Rat.sub_eq_add_neg] at h9;exact h9,
    fun σ W g h hb=>toZ' (J2 W _ m n _ _ _ _ (K+2+(30*(K+2)+11)+1) (h 7 rfl) (by omega) (uZ b4 (by omega) lz) (b1.mono (by omega)) (b2.mono (by omega)) (b3.mono (by omega)) (D2 lm (by omega)) (D2 ln (by omega)) (hTab.kept g (by simp))),
    fun σ W g h hb=>fun ρ o ho _ hv=>⟨_,A5 ho ((A0 hv).1.trans (h 8 rfl)) (A0 hv).2 rfl,congrArg Value.bool (decide_eq_false h0)⟩,
    fun σ W g h hb=>cH W _ _ (30*(K+2)+11) (h 5 rfl) (by omega) (G4 (by omega) lz).1,
    trivial⟩ fun τ W g h=>⟨z,n1 h0,D2 lz (by omega),_,rfl,IntV.eq (Rat.num_intCast z).symm (h 10 rfl),g⟩
theorem SNear_any (w:World) (va:Value) (m n:Nat) (r0 r1 r2 r3:Rat) (K:Nat) (Ha:SurdV w va (m:Int) (n:Int) r0 r1 r2 r3) (hK : 1<=K/\K<=140) (b0:Bd1 K r0) (b1:Bd1 K r1) (b2:Bd1 K r2) (b3:Bd1 K r3) (lm:m<B^K) (ln:n<B^K) (hTab:Tab w) :
 Calls Tryz.prog 34 #[va] w (wD w m n r0 r1 r2 r3 (30*(K+2)+12)):=by
 by_cases hr:r1=0/\r2=0/\r3=0
 · exact SNear_rat w va m n r0 r1 r2 r3 K Ha hK b0 b1 b2 b3 lm ln hTab hr
 · exact SNear_root w va m n r0 r1 r2 r3 K Ha hK b0 b1 b2 b3 lm ln hTab hr
end Go.Proofs.YtdgdmicbbfoghaaGreatDoor
