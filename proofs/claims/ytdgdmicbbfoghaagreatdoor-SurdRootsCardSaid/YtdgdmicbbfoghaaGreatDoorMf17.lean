/- What the laws lean on, part 17. -/
import Derived.Below
import Derived.BigCall
import Derived.BigQuiet
import Derived.BigRegion
import Derived.Deep.AppendLies
import Derived.Deep.CutBlock
import Derived.Deep.CutRange
import Derived.Deep.DeepCutAuto
import Derived.Deep.LoopGhost
import Derived.Deep.MidRow
import Derived.Deep.QuietTactic
import Derived.Deep.RegionHeld3
import Derived.Deep.WholeRow
import Derived.Laws.AppendOwn
import Derived.Laws.CopyOwn
import Derived.Laws.Externs
import Derived.Laws.IdiomStrings
import Derived.Lib.BitFns
import Derived.Lib.Hide
import Derived.Lib.Slices
import Derived.Lib.Small
import Derived.Lib.Strings
import Derived.Lib.Walk
import Derived.LoopN
import Derived.OrdersHeld
import Derived.OrdersIn
import Derived.Outline
import Derived.OwnWalk
import Derived.RangeFuncCalls
import Derived.RangeFuncNested
import Derived.RangeFuncOwn
import Derived.Shelf.Bits.Mul64
import Derived.Shelf.Spec.TrailingZeros
import Derived.StillTailTactics
import Derived.WalkKit
import Derived.WalkLawsBesides
import Derived.WalkSpells
import Derived.Test.YtdgdmicbbfoghaaGreatDoorProg
import Derived.Test.YtdgdmicbbfoghaaGreatDoorMf11
set_option linter.unusedVariables false
set_option linter.unusedSimpArgs false
set_option maxRecDepth 100000
namespace Go.Proofs.YtdgdmicbbfoghaaGreatDoor
open Go.RowKit Mat Ex
theorem bH (E:Nat) (h : 1<=E) : 1<B^E:=Nat.one_lt_pow (by omega) (by unfold B;decide)
theorem sq_bd {u v m:Int} {K:Nat} (lu:u.natAbs<B^K) (lv:v.natAbs<B^K) (lm:m.natAbs<B^K):(u*u+v*v*m).natAbs<B^(K+K+K+1):=
 aP (B0 (G3 lu lu) (by omega)) (G3 (G3 lv lv) lm)
theorem uR {u v:Int} {K:Nat} (lu:u.natAbs<B^K) (lv:v.natAbs<B^K):(u*v+u*v).natAbs<B^(K+K+K+1):=
 B0 (aP (G3 lu lv) (G3 lu lv)) (by omega)
theorem less_bd {u x n:Int} {L:Nat} (lu:u.natAbs<B^L) (lx:x.natAbs<B^L) (ln:n.natAbs<B^L):(u-x*n).natAbs<B^(L+L+1):=
 ssub_bd (B0 lu (by omega)) (G3 lx ln)
def sqs (m n u v x y:Int):Int:=sos ((u*u+v*v*m)-(x*x+y*y*m)*n).sign (((u*v+u*v)-(x*y+x*y)*n).sign*m.sign) (((u*u+v*v*m)-(x*x+y*y*m)*n)*((u*u+v*v*m)-(x*x+y*y*m)*n)-((u*v+u*v)-(x*y+x*y)*n)*((u*v+u*v)-(x*y+x*y)*n)*m).sign
theorem sqs_one3 (m n u v x y:Int):One3 (sqs m n u v x y):=sos_one3 (H7 _) ((H7 _).mul (H7 _)) (H7 _)
def psz (u v m:Int):Int:=sos u.sign (v.sign*m.sign) (u*u-v*v*m).sign
theorem pQ (u v m:Int):One3 (psz u v m):=sos_one3 (H7 _) ((H7 _).mul (H7 _)) (H7 _)
def ssz (m n a b c d:Int):Int:=sos (psz a b m) (psz c d m*n.sign) (sqs m n a b c d)
def wF (C r:Rat):Rat:=C*(((r*C).den:Int):Rat)
def cfine (E:Nat) (C:Rat):Prop:=∃ c:Nat,C=(((c:Int)):Rat)/\0<c/\c<B^E
theorem cfine.bd {E:Nat} {C:Rat} (h:cfine E C):C.num.natAbs<B^E/\C.den=1:=by
 obtain ⟨c,rfl,h0,h1⟩:=h
 exact ⟨by rw [Rat.num_intCast,Int.natAbs_natCast];exact h1,Rat.den_intCast _⟩
theorem cmul_den {E:Nat} {r C:Rat} (h:cfine E C):(r*C).den<=r.den:=by
 rw [jL,h.bd.2,Nat.gcd_one_right,Nat.div_one,Nat.mul_one];exact Nat.div_le_self _ _
theorem I8 {E K:Nat} {r C:Rat} (h:cfine E C) (hr:r.num.natAbs<B^K):(r*C).num.natAbs<B^(K+E):=by
 rw [jK,h.bd.2,Nat.gcd_one_right,Int.natAbs_mul,Nat.pow_add]
 refine Nat.mul_lt_mul'' ?_ ?_
 · rw [show ((1:Nat):Int)=1 from rfl,Int.ediv_one];exact hr
 · refine Nat.lt_of_le_of_lt ?_ h.bd.1
   exact Int.natAbs_ediv_le_natAbs _ _
theorem cfine.next {E K:Nat} {r C:Rat} (h:cfine E C) (hr:r.den<B^K):cfine (E+K) (C*(((r*C).den:Int):Rat)):=by
 have hd:=cmul_den (r:=r) h
 obtain ⟨c,rfl,h0,h1⟩:=h
 refine ⟨c*(r*((c:Int):Rat)).den, ?_,Nat.mul_pos h0 (Rat.den_pos _), ?_⟩
 · rw [Int.natCast_mul,Rat.intCast_mul]
 · rw [Nat.pow_add];exact Nat.mul_lt_mul'' h1 (Nat.lt_of_le_of_lt hd hr)
theorem cfine.mono {E F:Nat} {C:Rat} (h:cfine E C) (hF:E<=F):cfine F C:=by
 obtain ⟨c,e,h0,h1⟩:=h
 exact ⟨c,e,h0,Nat.lt_of_lt_of_le h1 (Nat.pow_le_pow_right (by unfold B;decide) hF)⟩
theorem cone:cfine 1 1:=⟨1,rfl,by decide,by unfold B;decide⟩
def iw (x:Rat):Prop:=∃ z:Int,x=(z:Rat)
theorem den_mul (e:Rat):e*(((e.den:Int)):Rat)=(e.num:Rat):=by
 have h9:Rat.divInt e.num (e.den:Int)=e:=Rat.num_divInt_den e
 rw [Rat.divInt_eq_div] at h9
 conv=>lhs;lhs;rw [<- h9]
 have h3:(0:Rat)<(e.den:Rat):=Rat.natCast_pos.2 e.den_pos
 have h10:((e.den:Int):Rat)=(e.den:Rat):=rfl
 rw [h10]
 exact Rat.div_mul_cancel (by grind)
theorem vQ (r C:Rat):iw (r*wF C r):=by
 refine ⟨(r*C).num, ?_⟩
 unfold wF
 rw [<- Rat.mul_assoc]
 exact den_mul _
theorem gD {r C:Rat} (t:Rat) (h:iw (r*C)):iw (r*wF C t):=by
 obtain ⟨z,hz⟩:=h
 refine ⟨z*((t*C).den:Int), ?_⟩
 unfold wF
 rw [<- Rat.mul_assoc,hz,Rat.intCast_mul]
theorem vP {x:Rat} (h:iw x):(x.num:Rat)=x:=by
 obtain ⟨z,rfl⟩:=h;rw [Rat.num_intCast]
def J7 (r0 r1 r2 r3:Rat):Rat:=wF (wF (wF (wF 1 r0) r1) r2) r3
theorem wden_num (r0 r1 r2 r3:Rat):((r0*J7 r0 r1 r2 r3).num:Rat)=r0*J7 r0 r1 r2 r3/\((r1*J7 r0 r1 r2 r3).num:Rat)=r1*J7 r0 r1 r2 r3/\((r2*J7 r0 r1 r2 r3).num:Rat)=r2*J7 r0 r1 r2 r3/\((r3*J7 r0 r1 r2 r3).num:Rat)=r3*J7 r0 r1 r2 r3:=
 ⟨vP (gD _ (gD _ (gD _ (vQ _ _)))),vP (gD _ (gD _ (vQ _ _))),vP (gD _ (vQ _ _)),vP (vQ _ _)⟩
theorem fH {K:Nat} {r0 r1 r2 r3:Rat} (b0:Bd1 K r0) (b1:Bd1 K r1) (b2:Bd1 K r2) (b3:Bd1 K r3):cfine (1+K+K+K+K) (J7 r0 r1 r2 r3):=
 (((cone.next b0.2).next b1.2).next b2.2).next b3.2
def kI (w:World) (z0 z1 z2 z3 s:Int) (e:Ending) (w':World):Prop:=∃ v u,e = .returned (.tuple #[v,u])/\IntsV w' v z0 z1 z2 z3/\IntV w' u s/\w.grownBy w' none
theorem ssz_ssg (m n:Nat) (a b c d:Int):ssz (m:Int) (n:Int) a b c d=ssg m n a b c d:=rfl
theorem wden_pos {K:Nat} {r0 r1 r2 r3:Rat} (b0:Bd1 K r0) (b1:Bd1 K r1) (b2:Bd1 K r2) (b3:Bd1 K r3) : 0<J7 r0 r1 r2 r3:=by
 obtain ⟨c,e,h0,_⟩:=fH b0 b1 b2 b3
 rw [e];exact Rat.intCast_pos.2 (by omega)
theorem pC {K:Nat} (m n:Nat) {r0 r1 r2 r3:Rat} (b0:Bd1 K r0) (b1:Bd1 K r1) (b2:Bd1 K r2) (b3:Bd1 K r3) :
 ssz (m:Int) (n:Int) (r0*J7 r0 r1 r2 r3).num (r1*J7 r0 r1 r2 r3).num (r2*J7 r0 r1 r2 r3).num (r3*J7 r0 r1 r2 r3).num=sg4 m n r0 r1 r2 r3:=by
 obtain ⟨h0,h1,h2,h3⟩:=wden_num r0 r1 r2 r3
 rw [ssz_ssg, <- ssg_rs,h0,h1,h2,h3]
 exact kW m n r0 r1 r2 r3 (wden_pos b0 b1 b2 b3)
theorem D5 {E:Nat} {z:Int} (hE : 1<=E) (h:z.natAbs<B^E):Bd1 E (z:Rat):=⟨by rw [Rat.num_intCast];exact h,by rw [Rat.den_intCast];exact bH E hE⟩
def sWh (z0 z1 z2 z3 s:Int):Sp := .of (.tup [(none,9),(none,3)]) (fun v W=>∃ u t,v = .tuple #[u,t]/\IntsV W u z0 z1 z2 z3/\IntV W t s) (fun v W h=>by
 obtain ⟨u,t,rfl,⟨s0,x0,b0,s1,x1,b1,s2,x2,b2,s3,x3,b3,rfl,_⟩,s4,x4,b4,rfl,_⟩:=h
 exact W5 (u := .bool true) (cs:=[.slice s0 x0.length x0.length,.bool b0,.slice s1 x1.length x1.length,.bool b1,.slice s2 x2.length x2.length,.bool b2,.slice s3 x3.length x3.length,.bool b3,.slice s4 x4.length x4.length,.bool b4]) (by simp [Value.oneCell']) rfl) (fun v W W' k h=>by obtain ⟨u,t,e,h,h'⟩:=h;exact ⟨u,t,e,h.keeps k,h'.keeps k⟩)
theorem wh1 {z0 z1 z2 z3 s:Int} {a b:Value} {W:World} : (sWh z0 z1 z2 z3 s).F (.tuple #[a,b]) W->IntsV W a z0 z1 z2 z3:=by rintro ⟨u,t,e,h,_⟩;cases e;exact h
theorem wh2 {z0 z1 z2 z3 s:Int} {a b:Value} {W:World} : (sWh z0 z1 z2 z3 s).F (.tuple #[a,b]) W->IntV W b s:=by rintro ⟨u,t,e,_,h⟩;cases e;exact h
theorem toWh {P:Program} {f:FuncId} {args:Array Value} {W:World} {z0 z1 z2 z3 s:Int} (h:Calls P f args W (kI W z0 z1 z2 z3 s)):Calls P f args W (Ret W (sWh z0 z1 z2 z3 s).F):=h.mono fun _ _ ⟨v,u,a,h,h',g⟩=>⟨_,a,⟨v,u,rfl,h,h'⟩,g⟩
theorem rL (w:World) (va:Value) (m n:Int) (r0 r1 r2 r3:Rat) (K:Nat) (Ha:SurdV w va m n r0 r1 r2 r3) (hK:K<=10000) (b0:Bd1 K r0) (b1:Bd1 K r1) (b2:Bd1 K r2) (b3:Bd1 K r3) (hTab:Tab w) :
 Calls Tryz.prog 51 #[va] w (kI w (r0*J7 r0 r1 r2 r3).num (r1*J7 r0 r1 r2 r3).num (r2*J7 r0 r1 r2 r3).num (r3*J7 r0 r1 r2 r3).num (J7 r0 r1 r2 r3).num):=by
 have E1 : 1<=5*K+1:=by omega
 have f1:=cone.next b0.2
 have f2:=f1.next b1.2
 have f3:=f2.next b2.2
 have f4:=f3.next b3.2
 obtain ⟨C1,c1⟩:∃ C,1*(((r0*1).den:Int):Rat)=C:=⟨_,rfl⟩
 rw [c1] at f1 f2 f3 f4
 obtain ⟨C2,c2⟩:∃ C,C1*(((r1*C1).den:Int):Rat)=C:=⟨_,rfl⟩
 rw [c2] at f2 f3 f4
 obtain ⟨C3,c3⟩:∃ C,C2*(((r2*C2).den:Int):Rat)=C:=⟨_,rfl⟩
 rw [c3] at f3 f4
 obtain ⟨C4,c4⟩:∃ C,C3*(((r3*C3).den:Int):Rat)=C:=⟨_,rfl⟩
 rw [c4] at f4
 have hw:J7 r0 r1 r2 r3=C4:=by unfold J7 wF;rw [c1,c2,c3,c4]
 rw [hw]
 have hk:∀ {E:Nat} {C:Rat},cfine E C->E<=5*K+1->Bd1 (5*K+1) C:=fun h e=>⟨(h.mono e).bd.1,by rw [(h.mono e).bd.2];exact bH _ E1⟩
 have hbb:∀ {r:Rat},Bd1 K r->Bd1 (5*K+1) r:=fun h=>h.mono (by omega)
 have hd:∀ {E:Nat} {r C:Rat},Bd1 K r->cfine E C->(r*C).den<B^(5*K+1):=fun h f=>B0 (Nat.lt_of_le_of_lt (cmul_den f) h.2) (by omega)
 have f0:=cone
 have HT:∀ W,w.grownBy W none->Tab W:=fun W g=>hTab.kept g (by simp)
 refine A4 B6 Tryz.func51 [sSd m n r0 r1 r2 r3] [sI 1,sQ 1,sQ (r0*1),sI ((r0*1).den:Int),sQ (((r0*1).den:Int):Rat),sQ C1,sQ (r1*C1),sI ((r1*C1).den:Int),sQ (((r1*C1).den:Int):Rat),sQ C2,sQ (r2*C2),sI ((r2*C2).den:Int),sQ (((r2*C2).den:Int):Rat),sQ C3,sQ (r3*C3),sI ((r3*C3).den:Int),sQ (((r3*C3).den:Int):Rat),sQ C4,sQ (r0*C4),sI (r0*C4).num,sQ (r1*C4),sI (r1*C4).num,sQ (r2*C4),sI (r2*C4).num,sQ (r3*C4),sI (r3*C4).num,sI C4.num] (.cons Ha .nil) (rs:=[cl 1 10 [.v false [.lit (.int .i64 1)]],cl 2 9 [ag 2 1],cl 3 67 [.v true [.an 0 4,.an 0 5,.an 0 6,.an 0 7],ag 4 2],cl 4 109 [ag 4 3],cl 5 9 [ag 2 4],cl 6 67 [ag 4 2,ag 4 5],cl 7 67 [.v true [.an 0 8,.an 0 9,.an 0 10,.an 0 11],ag 4 6],cl 8 109 [ag 4 7],cl 9 9 [ag 2 8],cl 10 67 [ag 4 6,ag 4 9],cl 11 67 [.v true [.an 0 12,.an 0 13,.an 0 14,.an 0 15],ag 4 10],cl 12 109 [ag 4 11],cl 13 9 [ag 2 12],cl 14 67 [ag 4 10,ag 4 13],cl 15 67 [.v true [.an 0 16,.an 0 17,.an 0 18,.an 0 19],ag 4 14],cl 16 109 [ag 4 15],cl 17 9 [ag 2 16],cl 18 67 [ag 4 14,ag 4 17],cl 19 67 [.v true [.an 0 4,.an 0 5,.an 0 6,.an 0 7],ag 4 18],cl 20 90 [ag 4 19],cl 21 67 [.v true [.an 0 8,.an 0 9,.an 0 10,.an 0 11],ag 4 18],cl 22 90 [ag 4 21],cl 23 67 [.v true [.an 0 12,.an 0 13,.an 0 14,.an 0 15],ag 4 18],cl 24 90 [ag 4 23],cl 25 67 [.v true [.an 0 16,.an 0 17,.an 0 18,.an 0 19],ag 4 18],cl 26 90 [ag 4 25],cl 27 90 [ag 4 18]]) (out := .tup [(true,[.an 20 0,.an 20 1,.an 22 0,.an 22 1,.an 24 0,.an 24 1,.an 26 0,.an 26 1]),(true,[.an 27 0,.an 27 1])]) (nc:=28) (by kernel_rfl)
  ⟨fun σ W g h hb=>C5 W 1 (by omega) (by omega),
  fun σ W g h hb=>B2 W _ 1 1 (h 1 rfl) (by omega) (bH 1 (by omega)),
  fun σ W g h hb=>B9 W _ _ r0 1 (5*K+1) (sd1 (h 0 rfl)) (h 2 rfl) (by omega) (hbb b0).1 (hbb b0).2 (hk f0 (by omega)).1 (hk f0 (by omega)).2 (HT W g),
  fun σ W g h hb=>kN W _ (r0*1) (5*K+1) (h 3 rfl) (by omega) (hd b0 f0),
  fun σ W g h hb=>B2 W _ _ (5*K+1) (h 4 rfl) (by omega) (ldi (hd b0 f0)),
  fun σ W g h hb=>c1 ▸ B9 W _ _ 1 (((r0*1).den:Int):Rat) (5*K+1) (h 2 rfl) (h 5 rfl) (by omega) (hk f0 (by omega)).1 (hk f0 (by omega)).2 (D5 E1 (ldi (hd b0 f0))).1 (D5 E1 (ldi (hd b0 f0))).2 (HT W g),
  fun σ W g h hb=>B9 W _ _ r1 C1 (5*K+1) (sd2 (h 0 rfl)) (h 6 rfl) (by omega) (hbb b1).1 (hbb b1).2 (hk f1 (by omega)).1 (hk f1 (by omega)).2 (HT W g),
  fun σ W g h hb=>kN W _ (r1*C1) (5*K+1) (h 7 rfl) (by omega) (hd b1 f1),
  fun σ W g h hb=>B2 W _ _ (5*K+1) (h 8 rfl) (by omega) (ldi (hd b1 f1)),
  fun σ W g h hb=>c2 ▸ B9 W _ _ C1 (((r1*C1).den:Int):Rat) (5*K+1) (h 6 rfl) (h 9 rfl) (by omega) (hk f1 (by omega)).1 (hk f1 (by omega)).2 (D5 E1 (ldi (hd b1 f1))).1 (D5 E1 (ldi (hd b1 f1))).2 (HT W g),
  fun σ W g h hb=>B9 W _ _ r2 C2 (5*K+1) (sd3 (h 0 rfl)) (h 10 rfl) (by omega) (hbb b2).1 (hbb b2).2 (hk f2 (by omega)).1 (hk f2 (by omega)).2 (HT W g),
  fun σ W g h hb=>kN W _ (r2*C2) (5*K+1) (h 11 rfl) (by omega) (hd b2 f2),
  fun σ W g h hb=>B2 W _ _ (5*K+1) (h 12 rfl) (by omega) (ldi (hd b2 f2)),
  fun σ W g h hb=>c3 ▸ B9 W _ _ C2 (((r2*C2).den:Int):Rat) (5*K+1) (h 10 rfl) (h 13 rfl) (by omega) (hk f2 (by omega)).1 (hk f2 (by omega)).2 (D5 E1 (ldi (hd b2 f2))).1 (D5 E1 (ldi (hd b2 f2))).2 (HT W g),
  fun σ W g h hb=>B9 W _ _ r3 C3 (5*K+1) (sd4 (h 0 rfl)) (h 14 rfl) (by omega) (hbb b3).1 (hbb b3).2 (hk f3 (by omega)).1 (hk f3 (by omega)).2 (HT W g),
  fun σ W g h hb=>kN W _ (r3*C3) (5*K+1) (h 15 rfl) (by omega) (hd b3 f3),
  fun σ W g h hb=>B2 W _ _ (5*K+1) (h 16 rfl) (by omega) (ldi (hd b3 f3)),
  fun σ W g h hb=>c4 ▸ B9 W _ _ C3 (((r3*C3).den:Int):Rat) (5*K+1) (h 14 rfl) (h 17 rfl) (by omega) (hk f3 (by omega)).1 (hk f3 (by omega)).2 (D5 E1 (ldi (hd b3 f3))).1 (D5 E1 (ldi (hd b3 f3))).2 (HT W g),
  fun σ W g h hb=>B9 W _ _ r0 C4 (5*K+1) (sd1 (h 0 rfl)) (h 18 rfl) (by omega) (hbb b0).1 (hbb b0).2 (hk f4 (by omega)).1 (hk f4 (by omega)).2 (HT W g),
  fun σ W g h hb=>cH W _ (r0*C4) (6*K+1) (h 19 rfl) (by omega) (B0 (I8 f4 b0.1) (by omega)),
  fun σ W g h hb=>B9 W _ _ r1 C4 (5*K+1) (sd2 (h 0 rfl)) (h 18 rfl) (by omega) (hbb b1).1 (hbb b1).2 (hk f4 (by omega)).1 (hk f4 (by omega)).2 (HT W g),
  fun σ W g h hb=>cH W _ (r1*C4) (6*K+1) (h 21 rfl) (by omega) (B0 (I8 f4 b1.1) (by omega)),
  fun σ W g h hb=>B9 W _ _ r2 C4 (5*K+1) (sd3 (h 0 rfl)) (h 18 rfl) (by omega) (hbb b2).1 (hbb b2).2 (hk f4 (by omega)).1 (hk f4 (by omega)).2 (HT W g),
  fun σ W g h hb=>cH W _ (r2*C4) (6*K+1) (h 23 rfl) (by omega) (B0 (I8 f4 b2.1) (by omega)),
  fun σ W g h hb=>B9 W _ _ r3 C4 (5*K+1) (sd4 (h 0 rfl)) (h 18 rfl) (by omega) (hbb b3).1 (hbb b3).2 (hk f4 (by omega)).1 (hk f4 (by omega)).2 (HT W g),
  fun σ W g h hb=>cH W _ (r3*C4) (6*K+1) (h 25 rfl) (by omega) (B0 (I8 f4 b3.1) (by omega)),
  fun σ W g h hb=>cH W _ C4 (5*K+1) (h 18 rfl) (by omega) (hk f4 (by omega)).1,
  trivial⟩ fun τ W g h=>⟨_,_,rfl,mkis (h 20 rfl) (h 22 rfl) (h 24 rfl) (h 26 rfl),h 27 rfl,g⟩
theorem SSign1_any (w:World) (p q r:Nat) (p0 p1 p2 p3 t0 t1 t2 t3 q0 q1 q2 q3 q4 q5 q6 q7 q8 q9 q10 q11 q12 q13 q14 q15 q16 q17 q18 q19:Value) (u v x y m n:Int) (r0 r1 r2 r3:Rat) (K:Nat) (Bp:w.heap[p]?=some (.cells #[p0,p1,p2,p3] 98 (0,0))) (Bq:w.heap[q]?=some (.cells #[q0,q1,q2,q3,q4,q5,q6,q7,q8,q9,q10,q11,q12,q13,q14,q15,q16,q17,q18,q19] 37 (0,0))) (Br:w.heap[r]?=some (.cells #[t0,t1,t2,t3] 98 (0,0))) (ne02:p≠r) (Hp:TwoV w (.agg #[p0,p1,p2,p3]) u v) (Hr:TwoV w (.agg #[t0,t1,t2,t3]) x y) (Hq:SurdV w (.agg #[q0,q1,q2,q3,q4,q5,q6,q7,q8,q9,q10,q11,q12,q13,q14,q15,q16,q17,q18,q19]) m n r0 r1 r2 r3) (hK:K<=30000) (lu:u.natAbs<B^K) (lv:v.natAbs<B^K) (lx:x.natAbs<B^K) (ly:y.natAbs<B^K) (lm:m.natAbs<B^K) (ln:n.natAbs<B^K) :
 Calls Tryz.prog 54 #[.pointer (some ⟨p,0,none⟩),.pointer (some ⟨q,0,none⟩),.pointer (some ⟨r,0,none⟩)] w (nI w (sqs m n u v x y)):=by
 have ne01:p≠q:=vU Bp Bq (by simp)
 have ne12:q≠r:=vU Bq Br (by simp)
 obtain ⟨s0,x0,b0,s1,x1,b1,e,h0,h1⟩:=Hp
 cases e
 obtain ⟨s2,x2,b2,s3,x3,b3,e,h2,h3⟩:=Hr
 cases e
 obtain ⟨s4,x4,b4,s5,x5,b5,s6,x6,b6,s7,x7,b7,s8,x8,b8,s9,x9,b9,s10,x10,b10,s11,x11,b11,s12,x12,b12,s13,x13,b13,e,h4,h5,h6,h7,h8⟩:=Hq
 cases e
 exact P2 B6 Tryz.func54 [sTw u v,sTw x y,sSd m n r0 r1 r2 r3,sTw (u*u+v*v*m) (u*v+u*v),sTw (x*x+y*y*m) (x*y+x*y),sTw ((u*u+v*v*m)-(x*x+y*y*m)*n) ((u*v+u*v)-(x*y+x*y)*n),sZ (sqs m n u v x y)] 3 [.v false [.ptr 0 0],.v false [.ptr 1 0],.v false [.ptr 2 0]] [(98,[.an 0 0,.an 0 1,.an 0 2,.an 0 3]),(37,[.an 2 0,.an 2 1,.an 2 2,.an 2 3,.an 2 4,.an 2 5,.an 2 6,.an 2 7,.an 2 8,.an 2 9,.an 2 10,.an 2 11,.an 2 12,.an 2 13,.an 2 14,.an 2 15,.an 2 16,.an 2 17,.an 2 18,.an 2 19]),(98,[.an 1 0,.an 1 1,.an 1 2,.an 1 3])] (rs:=[cl 3 55 [ag 4 0,ag 2 2],cl 4 55 [ag 4 1,ag 2 2],cl 5 56 [ag 4 3,ag 4 4,.v true [.an 2 2,.an 2 3]],cl 6 53 [ag 4 5,ag 2 2]]) (out:=on 6) (nc:=7) (by kernel_rfl) w
  ⟨fun n=>match n with | 0=>P3 [.slice s0 x0.length x0.length,.bool b0,.slice s1 x1.length x1.length,.bool b1] | 1=>P3 [.slice s2 x2.length x2.length,.bool b2,.slice s3 x3.length x3.length,.bool b3] | 2=>P3 [.slice s4 x4.length x4.length,.bool b4,.slice s5 x5.length x5.length,.bool b5,.slice s6 x6.length x6.length,.bool b6,.slice s7 x7.length x7.length,.bool b7,.slice s8 x8.length x8.length,.bool b8,.slice s9 x9.length x9.length,.bool b9,.slice s10 x10.length x10.length,.bool b10,.slice s11 x11.length x11.length,.bool b11,.slice s12 x12.length x12.length,.bool b12,.slice s13 x13.length x13.length,.bool b13] | _=>fun _ => .bool false,fun b=>match b with | 0=>p | 1=>q | 2=>r | _=>0,fun _=>undef⟩
  (fun n c=>match n with
   | 0=>F6 (by simp [Value.oneCell']) c
   | 1=>F6 (by simp [Value.oneCell']) c
   | 2=>F6 (by simp [Value.oneCell']) c
   | _+3=>rfl)
  (fun b q hq=>match b,q,hq with
   | 0,_,rfl=>Bp
   | 1,_,rfl=>Bq
   | 2,_,rfl=>Br
   | _+3,_,hq=>nomatch hq)
  (fun b c hb hc hq=>match b,c,hb,hc with
   | 0,0,_,_=>rfl
   | 0,1,_,_=>absurd hq ne01
   | 0,2,_,_=>absurd hq ne02
   | 1,0,_,_=>absurd hq (Ne.symm ne01)
   | 1,1,_,_=>rfl
   | 1,2,_,_=>absurd hq ne12
   | 2,0,_,_=>absurd hq (Ne.symm ne02)
   | 2,1,_,_=>absurd hq (Ne.symm ne12)
   | 2,2,_,_=>rfl
   | _+3,_,hb,_=>absurd hb (by simp)
   | _,_+3,_,hc=>absurd hc (by simp))
  (fun jn hn=>match jn,hn with
   | 0,_=>(⟨s0,x0,b0,s1,x1,b1,rfl,h0,h1⟩:TwoV w _ u v)
   | 1,_=>(⟨s2,x2,b2,s3,x3,b3,rfl,h2,h3⟩:TwoV w _ x y)
   | 2,_=>(⟨s4,x4,b4,s5,x5,b5,s6,x6,b6,s7,x7,b7,s8,x8,b8,s9,x9,b9,s10,x10,b10,s11,x11,b11,s12,x12,b12,s13,x13,b13,rfl,h4,h5,h6,h7,h8⟩:SurdV w _ m n r0 r1 r2 r3)
   | _+3,hn=>absurd hn (by omega))
  ⟨fun σ W g h hb=>(eX W _ _ u v m K (h 0 rfl) (tw0 (sd0 (h 2 rfl))) (by omega) lu lv lm),
  fun σ W g h hb=>(eX W _ _ x y m K (h 1 rfl) (tw0 (sd0 (h 2 rfl))) (by omega) lx ly lm),
  fun σ W g h hb=>(wP W _ _ _ (u*u+v*v*m) (u*v+u*v) (x*x+y*y*m) (x*y+x*y) n (K+K+K+1) (h 3 rfl) (h 4 rfl) (tw1 (sd0 (h 2 rfl))) (by omega) (B0 (sq_bd lu lv lm) (by omega)) (B0 (uR lu lv) (by omega)) (sq_bd lx ly lm) (uR lx ly) (B0 ln (by omega))),
  fun σ W g h hb=>(dF W _ _ ((u*u+v*v*m)-(x*x+y*y*m)*n) ((u*v+u*v)-(x*y+x*y)*n) m (K+K+K+1+(K+K+K+1)+1) (h 5 rfl) (tw0 (sd0 (h 2 rfl))) (by omega) (less_bd (sq_bd lu lv lm) (sq_bd lx ly lm) (B0 ln (by omega))) (less_bd (uR lu lv) (uR lx ly) (B0 ln (by omega))) (B0 lm (by omega))).mono fun _ _ ⟨a,g⟩=>⟨_,a,rfl,g⟩,
  trivial⟩ _ fun τ W g h=>⟨congrArg Ending.returned (h 6 rfl),g⟩
theorem SSign_whole (w:World) (va:Value) (m n:Int) (r0 r1 r2 r3:Rat) (K:Nat) (Ha:SurdV w va m n r0 r1 r2 r3) (hK:K<=5000) (b0:Bd1 K r0) (b1:Bd1 K r1) (b2:Bd1 K r2) (b3:Bd1 K r3) (lm:m.natAbs<B^K) (ln:n.natAbs<B^K) (hTab:Tab w) :
 Calls Tryz.prog 13 #[va] w (nI w (ssz m n (r0*J7 r0 r1 r2 r3).num (r1*J7 r0 r1 r2 r3).num (r2*J7 r0 r1 r2 r3).num (r3*J7 r0 r1 r2 r3).num)):=by
 have hf:=fH b0 b1 b2 b3
 obtain ⟨D,hD⟩:∃ D,J7 r0 r1 r2 r3=D:=⟨_,rfl⟩
 have HW:∀ W v,SurdV W v m n r0 r1 r2 r3->Tab W->Calls Tryz.prog 51 #[v] W (kI W _ _ _ _ _):=fun W v hv hT=>rL W v m n r0 r1 r2 r3 K hv (by omega) b0 b1 b2 b3 hT
 rw [hD] at HW hf
 rw [hD]
 have E0:=B0 (I8 hf b0.1) (show K+(1+K+K+K+K)<=5*K+1 by omega)
 have E1:=B0 (I8 hf b1.1) (show K+(1+K+K+K+K)<=5*K+1 by omega)
 have E2:=B0 (I8 hf b2.1) (show K+(1+K+K+K+K)<=5*K+1 by omega)
 have E3:=B0 (I8 hf b3.1) (show K+(1+K+K+K+K)<=5*K+1 by omega)
 have LM:=B0 lm (show K<=5*K+1 by omega)
 have LN:=B0 ln (show K<=5*K+1 by omega)
 obtain ⟨Z0,z0⟩:∃ Z,(r0*D).num=Z:=⟨_,rfl⟩
 obtain ⟨Z1,z1⟩:∃ Z,(r1*D).num=Z:=⟨_,rfl⟩
 obtain ⟨Z2,z2⟩:∃ Z,(r2*D).num=Z:=⟨_,rfl⟩
 obtain ⟨Z3,z3⟩:∃ Z,(r3*D).num=Z:=⟨_,rfl⟩
 rw [z0,z1,z2,z3] at HW
 rw [z0] at E0
 rw [z1] at E1
 rw [z2] at E2
 rw [z3] at E3
 rw [z0,z1,z2,z3]
 refine A4 B6 Tryz.func13 [sSd m n r0 r1 r2 r3] [sWh Z0 Z1 Z2 Z3 D.num,sZ (psz Z0 Z1 m),sZ (psz Z2 Z3 m),sZ n.sign,sZ (psz Z2 Z3 m*n.sign),sZ (ssz m n Z0 Z1 Z2 Z3)] (.cons Ha .nil) (rs:=[cl 1 51 [ag 20 0],cl 2 53 [ag 4 1,ag 2 0],cl 3 53 [.v true [.an 1 4,.an 1 5,.an 1 6,.an 1 7],ag 2 0],cl 4 46 [.v true [.an 0 2,.an 0 3]],co 5 (.binOp .mul 3 (.tmp 31) (.tmp 35) 3) 3 [on 3,on 4] [0,1,2,3,4] [],clb 6 52 [on 2,on 5,.fn 54 [.ptr 3 0,.ptr 0 0,.ptr 4 0]] [0,1,2,3,4,5] [(3,98,[.an 1 0,.an 1 1,.an 1 2,.an 1 3]),(0,37,[.an 0 0,.an 0 1,.an 0 2,.an 0 3,.an 0 4,.an 0 5,.an 0 6,.an 0 7,.an 0 8,.an 0 9,.an 0 10,.an 0 11,.an 0 12,.an 0 13,.an 0 14,.an 0 15,.an 0 16,.an 0 17,.an 0 18,.an 0 19]),(4,98,[.an 1 4,.an 1 5,.an 1 6,.an 1 7])]]) (out:=on 6) (nc:=7) (by kernel_rfl)
  ⟨fun σ W g h hb=>toWh (HW W _ (h 0 rfl) (hTab.kept g (by simp))),
  fun σ W g h hb=>(dF W _ _ Z0 Z1 m (5*K+1) (mktw (is0 (wh1 (h 1 rfl))) (is1 (wh1 (h 1 rfl)))) (tw0 (sd0 (h 0 rfl))) (by omega) E0 E1 LM).mono fun _ _ ⟨a,g⟩=>⟨_,a,rfl,g⟩,
  fun σ W g h hb=>(dF W _ _ Z2 Z3 m (5*K+1) (mktw (is2 (wh1 (h 1 rfl))) (is3 (wh1 (h 1 rfl)))) (tw0 (sd0 (h 0 rfl))) (by omega) E2 E3 LM).mono fun _ _ ⟨a,g⟩=>⟨_,a,rfl,g⟩,
  fun σ W g h hb=>(D3 W _ n (5*K+1) (tw1 (sd0 (h 0 rfl))) (by omega) LN).mono fun _ _ ⟨a,g⟩=>⟨_,a,rfl,g⟩,
  fun σ W g h hb=>fun ρ o ho _ hv=>⟨_,A7 ho ((A1 hv).1.trans (h 3 rfl)) ((A1 hv).2.trans (h 4 rfl)) (tM (pQ Z2 Z3 m) (H7 n)),rfl⟩,
  fun σ W g h hb=>(arg3 (h 2 rfl) (h 5 rfl) (wK W _ _ _ _ _ _ (pQ Z0 Z1 m) ((pQ Z2 Z3 m).mul (H7 n)) (sqs_one3 m n Z0 Z1 Z2 Z3) fun W2 g2=>SSign1_any W2 _ _ _ _ _ _ _ _ _ _ _ _ _ _ _ _ _ _ _ _ _ _ _ _ _ _ _ _ _ _ _ Z0 Z1 Z2 Z3 m n r0 r1 r2 r3 (5*K+1) (A0 g2 (hb.1 _ (.head _))) (A0 g2 (hb.1 _ (.tail _ (.head _)))) (A0 g2 (hb.1 _ (.tail _ (.tail _ (.head _))))) (hb.2 _ (.head _) _ (.tail _ (.tail _ (.head _))) (by simp)) ((mktw (is0 (wh1 (h 1 rfl))) (is1 (wh1 (h 1 rfl)))).kept g2) ((mktw (is2 (wh1 (h 1 rfl))) (is3 (wh1 (h 1 rfl)))).kept g2) (SurdV.kept (h 0 rfl) g2) (by omega) E0 E1 E2 E3 LM LN)).mono fun _ _ ⟨a,g⟩=>⟨_,a,rfl,g⟩,
  trivial⟩ fun τ W g h=>⟨congrArg Ending.returned (h 6 rfl),g⟩
theorem U1 (w:World) (va:Value) (m n:Nat) (r0 r1 r2 r3:Rat) (K:Nat) (Ha:SurdV w va (m:Int) (n:Int) r0 r1 r2 r3) (hK:K<=5000) (b0:Bd1 K r0) (b1:Bd1 K r1) (b2:Bd1 K r2) (b3:Bd1 K r3) (lm:m<B^K) (ln:n<B^K) (hTab:Tab w) :
 Calls Tryz.prog 13 #[va] w (nI w (sg4 m n r0 r1 r2 r3)):=by
 have h:=SSign_whole w va m n r0 r1 r2 r3 K Ha hK b0 b1 b2 b3 (ldi lm) (ldi ln) hTab
 rw [pC m n b0 b1 b2 b3] at h
 exact h
theorem fE {a b:Rat} {k m:Nat} (h1:a.num.natAbs<B^k) (h2:a.den<B^k) (h3:b.num.natAbs<B^m) (h4:b.den<B^m):(a+b).num.natAbs<B^(k+m+1):=by
 rw [Rat.num_add]
 refine Nat.lt_of_le_of_lt (Int.natAbs_ediv_le_natAbs _ _) ?_
 exact aP (G3 h1 (by rw [Int.natAbs_natCast];exact h4)) (by rw [Nat.add_comm];exact G3 h3 (by rw [Int.natAbs_natCast];exact h2))
theorem fF {a b:Rat} {k m:Nat} (h2:a.den<B^k) (h4:b.den<B^m):(a+b).den<B^(k+m+1):=by
 rw [Rat.den_add]
 refine Nat.lt_of_le_of_lt (Nat.div_le_self _ _) ?_
 refine Nat.lt_of_lt_of_le (show a.den*b.den<B^(k+m) by rw [Nat.pow_add];exact Nat.mul_lt_mul'' h2 h4) (Nat.pow_le_pow_right D6 (by omega))
theorem uQ {K:Nat} {r:Rat} (h:Bd1 K r):Bd1 K (-r):=⟨by rw [Rat.neg_num,Int.natAbs_neg];exact h.1,by rw [Rat.neg_den];exact h.2⟩
theorem nK {K:Nat} {r t:Rat} (h:Bd1 K r) (h2:Bd1 K t):Bd1 (K+K+1) (r+t):=⟨fE h.1 h.2 h2.1 h2.2,fF h.2 h2.2⟩
def oH (w:World) (z c:Int) (e:Ending) (w':World):Prop:=e = .returned (.tuple #[.int .i64 z,.int .i64 c])/\w.grownBy w' none
theorem nat2 {m n m' n':Nat} : ((m:Int)=m'/\(n:Int)=n') ↔ (m=m'/\n=n'):=by omega
theorem P9 (w:World) (va vb:Value) (m n m' n':Nat) (r0 r1 r2 r3 t0 t1 t2 t3:Rat) (K:Nat) (Ha:SurdV w va (m:Int) (n:Int) r0 r1 r2 r3) (Hb:SurdV w vb (m':Int) (n':Int) t0 t1 t2 t3) (hK : 1<=K/\K<=1500) (lm:m<B^K) (ln:n<B^K) (lx:m'<B^K) (ly:n'<B^K) (n0:Bd1 K r0/\Bd1 K t0) (n1:Bd1 K r1/\Bd1 K t1) (n2:Bd1 K r2/\Bd1 K t2) (n3:Bd1 K r3/\Bd1 K t3) (hs:m=m'/\n=n') (hTab:Tab w) :
 Calls Tryz.prog 24 #[va,vb] w (oH w (sg4 m n (r0 + -t0) (r1 + -t1) (r2 + -t2) (r3 + -t3)) 0):=by
 refine A4 B6 Tryz.func24 [sSd (m:Int) (n:Int) r0 r1 r2 r3,sSd (m':Int) (n':Int) t0 t1 t2 t3] [X8 (m:Int) (n:Int) (r0 + -t0) (r1 + -t1) (r2 + -t2) (r3 + -t3) 0,sZ (sg4 m n (r0 + -t0) (r1 + -t1) (r2 + -t2) (r3 + -t3))] (.cons Ha (.cons Hb .nil)) (rs:=[cl 2 22 [ag 20 0,ag 20 1],cl 3 13 [ag 20 2]]) (out := .tup [(false,[.an 3 0]),(false,[.lit (.int .i64 0)])]) (nc:=4) (by kernel_rfl)
  ⟨fun σ W g h hb=>Q0 (SSub_same W _ _ m n m' n' r0 r1 r2 r3 t0 t1 t2 t3 K (h 0 rfl) (h 1 rfl) (by omega) (ldi lm) (ldi ln) (ldi lx) (ldi ly) n0 n1 n2 n3 (nat2.2 hs) (hTab.kept g (by simp))),
  fun σ W g h hb=>(U1 W _ m n (r0 + -t0) (r1 + -t1) (r2 + -t2) (r3 + -t3) (K+K+1) (sdE (h 2 rfl)) (by omega) (nK n0.1 n0.2.neg) (nK n1.1 n1.2.neg) (nK n2.1 n2.2.neg) (nK n3.1 n3.2.neg) (B0 lm (by omega)) (B0 ln (by omega)) (hTab.kept g (by simp))).mono fun _ _ ⟨a,g⟩=>⟨_,a,rfl,g⟩,
  trivial⟩ fun τ W g h=>⟨congrArg (fun v=>Ending.returned (.tuple #[v,.int .i64 0])) (h 3 rfl),g⟩
end Go.Proofs.YtdgdmicbbfoghaaGreatDoor
namespace Go.Proofs.YtdgdmicbbfoghaaGreatDoor
theorem P0 {f g:Sq} (hf:SCau f) (hg:SCau g) (h1 : 0<=rs f) (h2:rs g=1):rs (fun k=>f k+g k)=1:=by
 rw [rs_sum hf hg,h2];unfold sos
 rcases X3 f with h3 | h3 | h3<;>rw [h3]<;>simp<;>omega
theorem mK {f g:Sq} (hf:SCau f) (hg:SCau g) (h1:rs f=0) (h2:rs g=0):rs (fun k=>f k+g k)=0:=
 M6 ((M8 hf h1).add (M8 hg h2))
theorem vD {f g:Sq} (hf:SCau f) (hg:SCau g) (h1 : 0<=rs f) (h2 : 0<=rs g):rs (fun k=>f k-g k)=rs (fun k=>f k*f k-g k*g k):=by
 have e1:(fun k=>f k-g k)=(fun k=>f k + -g k):=by funext k;grind
 have hc:=hf.add hg.neg
 have hs:=hf.add hg
 have hm:=iH hc hs
 have e2:(fun k=>(f k + -g k)*(f k+g k))=(fun k=>f k*f k-g k*g k):=by funext k;grind
 rw [e2] at hm
 rw [e1,hm]
 by_cases h3:rs f=0
 · by_cases h4:rs g=0
   · rw [mK hf hg.neg h3 (by rw [vC hg,h4];rfl)];simp
   · have h5:rs g=1:=by rcases X3 g with h | h | h<;>omega
     rw [P0 hf hg (by omega) h5];simp
 · have h5:rs f=1:=by rcases X3 f with h | h | h<;>omega
   have e3:(fun k=>f k+g k)=(fun k=>g k+f k):=by funext k;grind
   rw [e3,P0 hg hf h2 h5];simp
noncomputable def prt (p:Int) (q:Nat):Sq:=fun k=>(p:Rat)*rt q k
theorem cQ (p:Int) (q:Nat):SCau (prt p q):=(SCau.const _).mul (Q2 q)
theorem prt_rs (p:Int) (q:Nat):rs (prt p q)=p.sign*(q:Int).sign:=by
 unfold prt
 rw [iH (SCau.const _) (Q2 q),O9,fU,rs_rt]
theorem prt_sq (p:Int) (q:Nat):SNull (fun k=>prt p q k*prt p q k-((p*p*q:Int):Rat)):=by
 have h:=(jJ q).mul (SCau.const ((p:Rat)*p)).bd
 refine cast (congrArg SNull ?_) h
 funext k
 unfold prt
 simp only [Rat.intCast_mul,Rat.intCast_natCast]
 grind
theorem prt_less (p:Int) (q:Nat) (z:Int) (hp : 0<=p) (hz : 0<=z):rs (fun k=>prt p q k-(z:Rat))=(p*p*q-z*z).sign:=by
 have hs : 0<=rs (prt p q):=by
  rw [prt_rs]
  exact Int.mul_nonneg (Int.sign_nonneg_iff.2 hp) (Int.sign_nonneg_iff.2 (Int.natCast_nonneg q))
 rw [vD (cQ p q) (SCau.const _) hs (by rw [O9,fU];exact Int.sign_nonneg_iff.2 hz)]
 have e:(fun _:Nat=>((p*p*q-z*z:Int):Rat))=(fun _=>((p*p*q:Int):Rat)-((z*z:Int):Rat)):=by funext k;rw [Rat.intCast_sub]
 rw [<- fU (p*p*q-z*z), <- O9,e]
 refine U7 (f:=fun _=>((p*p*q:Int):Rat)-((z*z:Int):Rat)) (by rw [<- e];exact SCau.const _) ?_
 refine cast (congrArg SNull ?_) (prt_sq p q).neg
 funext k
 simp only [Rat.intCast_mul]
 grind
noncomputable def blw (p:Int) (q:Nat):Int × Bool:=
 let s:=p.natAbs*p.natAbs*q
 let r:=D8 s
 let ex:=decide (r*r=s)
 (if 0<=p then (r:Int) else if ex=true then -(r:Int) else -((r:Int)+1),ex)
theorem nat_sq (p:Int) (q:Nat):((p.natAbs*p.natAbs*q:Nat):Int)=p*p*q:=by
 rw [Int.natCast_mul,Int.natCast_mul,Int.natAbs_mul_self' p]
theorem prt_neg (p:Int) (q:Nat):prt (-p) q=fun k => -prt p q k:=by
 funext k;unfold prt;rw [Rat.intCast_neg];grind
theorem blw_spec (p:Int) (q:Nat):((blw p q).2=true/\rs (fun k=>prt p q k-((blw p q).1:Rat))=0)\/((blw p q).2=false/\rs (fun k=>prt p q k-((blw p q).1:Rat))=1/\rs (fun k=>(((blw p q).1+1:Int):Rat)-prt p q k)=1):=by
 have hr:=aE (p.natAbs*p.natAbs*q)
 have hl:=jR (p.natAbs*p.natAbs*q)
 unfold blw
 simp only
 have hs:=nat_sq p q
 generalize p.natAbs*p.natAbs*q=s at *
 generalize D8 s=r at *
 have key:∀ P:Int,0<=P->P*P*q=(s:Int)->(r*r=s->rs (fun k=>prt P q k-((r:Int):Rat))=0)/\(r*r≠s->rs (fun k=>prt P q k-((r:Int):Rat))=1)/\rs (fun k=>prt P q k-(((r:Int)+1:Int):Rat)) = -1:=by
  intro P hP hPs
  rw [prt_less P q r hP (by omega),prt_less P q ((r:Int)+1) hP (by omega),hPs]
  have a1:((r*r:Nat):Int)=(r:Int)*r:=Int.natCast_mul r r
  have a2:(((r+1)*(r+1):Nat):Int)=((r:Int)+1)*((r:Int)+1):=by rw [Int.natCast_mul];rfl
  refine ⟨fun h=>?_,fun h=>?_, ?_⟩
  · rw [Int.sign_eq_zero_iff_zero];omega
  · exact Int.sign_eq_one_of_pos (by omega)
  · exact Int.sign_eq_neg_one_of_neg (by omega)
 have ng:∀ (f:Sq),SCau f -> ∀ z:Int,rs (fun k => -f k-((-z:Int):Rat)) = -rs (fun k=>f k-(z:Rat)):=by
  intro f hf z
  have hc:SCau (fun k=>f k-(z:Rat)):=by
   refine cast (congrArg SCau ?_) (hf.add (SCau.const (-(z:Rat))))
   funext k;grind
  rw [<- vC hc]
  congr 1
  funext k;rw [Rat.intCast_neg];grind
 have ng2:∀ (f:Sq),SCau f -> ∀ z:Int,rs (fun k=>(z:Rat)-f k) = -rs (fun k=>f k-(z:Rat)):=by
  intro f hf z
  have hc:SCau (fun k=>f k-(z:Rat)):=by
   refine cast (congrArg SCau ?_) (hf.add (SCau.const (-(z:Rat))))
   funext k;grind
  rw [<- vC hc]
  congr 1
  funext k;grind
 by_cases hp : 0<=p
 · obtain ⟨k1,k2,k3⟩:=key p hp hs.symm
   simp only [if_pos hp]
   by_cases he:r*r=s
   · exact Or.inl ⟨decide_eq_true he,k1 he⟩
   · refine Or.inr ⟨decide_eq_false he,k2 he, ?_⟩
     rw [ng2 _ (cQ p q),k3];rfl
 · obtain ⟨k1,k2,k3⟩:=key (-p) (by omega) (by rw [Int.neg_mul_neg];exact hs.symm)
   simp only [if_neg hp]
   have hn:prt p q=fun k => -prt (-p) q k:=by rw [prt_neg];funext k;grind
   by_cases he:r*r=s
   · refine Or.inl ⟨decide_eq_true he, ?_⟩
     rw [if_pos (decide_eq_true he),hn,ng _ (cQ (-p) q),k1 he];rfl
   · refine Or.inr ⟨decide_eq_false he, ?_, ?_⟩
     · rw [if_neg (by simpa using he),hn,ng _ (cQ (-p) q),k3];rfl
     · rw [if_neg (by simpa using he),show -((r:Int)+1)+1 = -(r:Int) by omega,ng2 _ (cQ p q),hn,ng _ (cQ (-p) q),k2 he];rfl
theorem Q9 {f:Sq} (hf:SCau f) (z:Rat):SCau (fun k=>f k-z):=by
 refine cast (congrArg SCau ?_) (hf.add (SCau.const (-z)))
 funext k;grind
theorem U6 {f:Sq} (hf:SCau f) (z:Rat):SCau (fun k=>z-f k):=by
 refine cast (congrArg SCau ?_) (hf.neg.add (SCau.const z))
 funext k;grind
theorem rt_mul (m n:Nat):SNull (fun k=>rt m k*rt n k-rt (m*n) k):=by
 have hm:=Q2 m
 have hn:=Q2 n
 have hc:=hm.mul hn
 have hp:=Q2 (m*n)
 have e:(fun k=>rt m k*rt n k-rt (m*n) k)=(fun k=>rt m k*rt n k + -rt (m*n) k):=by funext k;grind
 have hd:SCau (fun k=>rt m k*rt n k-rt (m*n) k):=by rw [e];exact hc.add hp.neg
 refine M8 hd ?_
 have s1:∀ x:Nat,0<=rs (rt x):=fun x=>by rw [rs_rt];exact Int.sign_nonneg_iff.2 (Int.natCast_nonneg x)
 rw [vD hc hp (by rw [iH hm hn];exact Int.mul_nonneg (s1 m) (s1 n)) (s1 _)]
 refine M6 ?_
 have h1:=(jJ m).mul (hn.mul hn).bd
 have h2:=(jJ n).mul (SCau.const (m:Rat)).bd
 have h3:=(jJ (m*n)).neg
 refine cast (congrArg SNull ?_) ((h1.add h2).add h3)
 funext k
 rw [Rat.natCast_mul]
 grind
theorem rt_one:SNull (fun k=>rt 1 k-1):=by
 have hd:SCau (fun k=>rt 1 k-1):=Q9 (Q2 1) 1
 refine M8 hd ?_
 rw [vD (Q2 1) (SCau.const 1) (by rw [rs_rt];decide) (by rw [O9];decide)]
 refine M6 (cast (congrArg SNull ?_) (jJ 1))
 funext k
 have:((1:Nat):Rat)=1:=rfl
 rw [this];grind
theorem sval_four (m n:Nat) (a b c d:Int):SNull (fun k=>X7 m n a b c d k-(((prt a 1 k+prt b m k)+prt c n k)+prt d (m*n) k)):=by
 have h1:=(rt_one.mul (SCau.const (a:Rat)).bd).neg
 have h2:=(rt_mul m n).mul (SCau.const (d:Rat)).bd
 refine cast (congrArg SNull ?_) (h1.add h2)
 funext k
 unfold X7 prt
 grind
noncomputable def cN (m n:Nat) (a b c d:Int):Int:=(((blw a 1).1+(blw b m).1)+(blw c n).1)+(blw d (m*n)).1
noncomputable def opn (p:Int) (q:Nat):Int:=if (blw p q).2=true then 0 else 1
noncomputable def bE (m n:Nat) (a b c d:Int):Int:=((opn a 1+opn b m)+opn c n)+opn d (m*n)
theorem cS (p:Int) (q:Nat):opn p q=0\/opn p q=1:=by unfold opn;split<;>simp
def Within (f:Sq) (lo op:Int):Prop:=SCau f/\0<=op/\(op=0->rs (fun k=>f k-(lo:Rat))=0)/\(0<op->rs (fun k=>f k-(lo:Rat))=1/\rs (fun k=>((lo+op:Int):Rat)-f k)=1)
theorem cK (p:Int) (q:Nat):Within (prt p q) (blw p q).1 (opn p q):=by
 refine ⟨cQ p q,by rcases cS p q with h | h<;>omega,fun h=>?_,fun h=>?_⟩
 · rcases blw_spec p q with ⟨h1,h2⟩ | ⟨h1,h2,h3⟩
   · exact h2
   · unfold opn at h;rw [h1] at h;simp at h
 · rcases blw_spec p q with ⟨h1,h2⟩ | ⟨h1,h2,h3⟩
   · unfold opn at h;rw [h1] at h;simp at h
   · have:opn p q=1:=by unfold opn;rw [h1];simp
     rw [this];exact ⟨h2,h3⟩
theorem Within.add {f g:Sq} {lo op lo' op':Int} (h:Within f lo op) (h':Within g lo' op'):Within (fun k=>f k+g k) (lo+lo') (op+op'):=by
 obtain ⟨cf,o1,z1,p1⟩:=h
 obtain ⟨cg,o2,z2,p2⟩:=h'
 have e1:(fun k=>f k+g k-((lo+lo':Int):Rat))=(fun k=>(f k-(lo:Rat))+(g k-(lo':Rat))):=by funext k;rw [Rat.intCast_add];grind
 have e1':(fun k=>f k+g k-((lo+lo':Int):Rat))=(fun k=>(g k-(lo':Rat))+(f k-(lo:Rat))):=by funext k;rw [Rat.intCast_add];grind
 have e2:(fun k=>((lo+lo'+(op+op'):Int):Rat)-(f k+g k))=(fun k=>(((lo+op:Int):Rat)-f k)+(((lo'+op':Int):Rat)-g k)):=by funext k;simp only [Rat.intCast_add];grind
 have e2':(fun k=>((lo+lo'+(op+op'):Int):Rat)-(f k+g k))=(fun k=>(((lo'+op':Int):Rat)-g k)+(((lo+op:Int):Rat)-f k)):=by funext k;simp only [Rat.intCast_add];grind
 have zz:∀ {h:Sq} {l:Int},SCau h->rs (fun k=>h k-(l:Rat))=0->rs (fun k=>(l:Rat)-h k)=0:=by
  intro h l hc hz
  have:=(M8 (Q9 hc _) hz).neg
  refine M6 (cast (congrArg SNull ?_) this)
  funext k;grind
 refine ⟨cf.add cg,by omega,fun h=>?_,fun h=>?_⟩
 · rw [e1];exact mK (Q9 cf _) (Q9 cg _) (z1 (by omega)) (z2 (by omega))
 · by_cases h1:op=0
   · have hz:=z1 h1
     have hp:=p2 (by omega)
     have hz':=zz cf hz
     rw [e1,e2,h1,Int.add_zero]
     exact ⟨P0 (Q9 cf _) (Q9 cg _) (by omega) hp.1,P0 (U6 cf _) (U6 cg _) (by omega) hp.2⟩
   · have hp:=p1 (by omega)
     by_cases h2:op'=0
     · have hz:=z2 h2
       have hz':=zz cg hz
       rw [e1',e2',h2,Int.add_zero]
       exact ⟨P0 (Q9 cg _) (Q9 cf _) (by omega) hp.1,P0 (U6 cg _) (U6 cf _) (by omega) hp.2⟩
     · have hq:=p2 (by omega)
       rw [e1,e2]
       exact ⟨P0 (Q9 cf _) (Q9 cg _) (by omega) hq.1,P0 (U6 cf _) (U6 cg _) (by omega) hq.2⟩
theorem mE (m n:Nat) (a b c d:Int):Within (X7 m n a b c d) (cN m n a b c d) (bE m n a b c d):=by
 have h:=(((cK a 1).add (cK b m)).add (cK c n)).add (cK d (m*n))
 obtain ⟨c0,o,z,p⟩:=h
 have hn:=sval_four m n a b c d
 have hn':=hn.neg
 have q1:∀ z:Rat,rs (fun k=>X7 m n a b c d k-z)=rs (fun k=>(((prt a 1 k+prt b m k)+prt c n k)+prt d (m*n) k)-z):=by
  intro z
  refine U7 (Q9 c0 z) (cast (congrArg SNull ?_) hn')
  funext k;grind
 have q2:∀ z:Rat,rs (fun k=>z-X7 m n a b c d k)=rs (fun k=>z-(((prt a 1 k+prt b m k)+prt c n k)+prt d (m*n) k)):=by
  intro z
  refine U7 (U6 c0 z) (cast (congrArg SNull ?_) hn)
  funext k;grind
 refine ⟨dR m n a b c d,o,fun h=>?_,fun h=>?_⟩
 · rw [q1];exact z h
 · rw [q1,q2];exact p h
noncomputable def U8 (m n:Nat) (a b c d:Int):Int:=if 1<bE m n a b c d then cN m n a b c d+(bE m n a b c d-1) else cN m n a b c d
theorem sg4_low (m n:Nat) (a b c d:Int) {z:Int} (h:z<=cN m n a b c d) : 0<=sg4 m n (a-z) b c d:=by
 obtain ⟨c0,o,z0,p⟩:=mE m n a b c d
 have h1 : 0<=sg4 m n ((a:Rat)-(cN m n a b c d:Int)) b c d:=by
  have e:X7 m n ((a:Rat)-(cN m n a b c d:Int)) b c d=fun k=>X7 m n a b c d k-((cN m n a b c d:Int):Rat):=by funext k;unfold X7;grind
  unfold sg4;rw [e]
  by_cases h0:bE m n a b c d=0
  · rw [z0 h0];exact Int.le_refl _
  · rw [(p (by omega)).1];decide
 have h2:=Rat.intCast_le_intCast.2 h
 exact Int.le_trans h1 (jF m n b c d (by grind))
theorem sg4_high (m n:Nat) (a b c d:Int) {z:Int} (h:U8 m n a b c d<z):sg4 m n (a-z) b c d = -1:=by
 obtain ⟨c0,o,z0,p⟩:=mE m n a b c d
 have e:∀ z:Int,X7 m n ((a:Rat)-(z:Rat)) b c d=fun k => -(((z:Int):Rat)-X7 m n a b c d k):=by intro z;funext k;unfold X7;grind
 have top:∀ z:Int,rs (fun k=>(z:Rat)-X7 m n a b c d k)=1->sg4 m n ((a:Rat)-(z:Rat)) b c d = -1:=by
  intro z hz
  unfold sg4;rw [e,vC (U6 c0 _),hz]
 have fin:∀ y:Int,y<=z->sg4 m n ((a:Rat)-(y:Rat)) b c d = -1->sg4 m n (a-z) b c d = -1:=by
  intro y hy h1
  have h2:=Rat.intCast_le_intCast.2 hy
  have h3:=jF m n b c d (show (a:Rat)-(z:Rat)<=(a:Rat)-(y:Rat) by grind)
  rcases nO m n ((a:Rat)-(z:Rat)) b c d with h4 | h4 | h4<;>omega
 by_cases h0:bE m n a b c d=0
 · refine fin (cN m n a b c d+1) (by unfold U8 at h;rw [h0] at h;simp at h;exact h) (top _ ?_)
   have h1:=(M8 (Q9 c0 _) (z0 h0)).neg
   have h2:SPos (fun _=>(1:Rat)):=⟨1,by decide,0,fun _ _=>Rat.le_refl⟩
   refine M5 (h2.congr ?_)
   refine cast (congrArg SNull ?_) h1.neg
   funext k
   rw [Rat.intCast_add]
   have:((1:Int):Rat)=1:=rfl
   rw [this];grind
 · refine fin (cN m n a b c d+bE m n a b c d) ?_ (top _ (p (by omega)).2)
   unfold U8 at h
   split at h<;>omega
end Go.Proofs.YtdgdmicbbfoghaaGreatDoor
namespace Go.Proofs.YtdgdmicbbfoghaaGreatDoor
open Go.RowKit Mat Ex
theorem root_uniq {a r:Nat} (h:IsRoot a r):r=D8 a:=by
 have h1:=aE a
 have h2:=jR a
 obtain ⟨h3,h4⟩:=h
 have k1:r<D8 a+1:=Nat.mul_self_lt_mul_self_iff.1 (Nat.lt_of_le_of_lt h3 h2)
 have k2:D8 a<r+1:=Nat.mul_self_lt_mul_self_iff.1 (Nat.lt_of_le_of_lt h1 h4)
 omega
theorem Z7 (w:World) (va:Value) (a K:Nat) (ha:NatV w va a) (la:a<B^K) (hK1 : 1<=K) (hK:K<=536870912) :
 Calls Tryz.prog 37 #[va] w (wO w (D8 a) (a-D8 a*D8 a)):=by
 have h:Calls Tryz.prog 37 #[va] w (gN w a):=by
  by_cases h0:a=0
  · subst h0;exact Root_zero w va ha
  · exact Root_some w va a K ha (by omega) la hK1 hK
 refine h.mono ?_
 rintro e w' ⟨r,hr,h2⟩
 rw [<- root_uniq hr];exact h2
theorem vM (z:Nat):((nb z:Int) == 0)=decide (z=0):=by
 by_cases h:z=0
 · subst h;rw [nb_zero];rfl
 · have:=(bI (show 0<z by omega)).2.2
   rw [decide_eq_false h,beq_eq_false_iff_ne];omega
theorem mP {r K:Nat} (h:r<B^K):((r:Int)+1).natAbs<B^(K+1):=by
 have h1:((r:Int)+1).natAbs=r+1:=by omega
 have h2:B^(K+1)=B^K*B:=Nat.pow_succ ..
 have h3:B^K*2<=B^K*B:=Nat.mul_le_mul_left _ (by unfold B;decide)
 omega
def RetBelow (w:World) (z:Int) (b:Bool) (e:Ending) (w':World):Prop:=∃ v,e = .returned (.tuple #[v,.bool b])/\IntV w' v z/\w.grownBy w' none
theorem wH (p:Int) (q K:Nat) (lp:p.natAbs<B^K) (lq:q<B^K):(blw p q).1.natAbs<B^(K+K+K+1):=by
 have h1:=aE (p.natAbs*p.natAbs*q)
 have h2:p.natAbs*p.natAbs*q<B^(K+K+K):=by
  rw [Nat.pow_add,Nat.pow_add]
  exact Nat.mul_lt_mul'' (Nat.mul_lt_mul'' lp lp) lq
 have h3:D8 (p.natAbs*p.natAbs*q)<B^(K+K+K):=Nat.lt_of_le_of_lt (Nat.le_trans (Nat.le_mul_self _) h1) h2
 have h4:=mP h3
 have h5:D8 (p.natAbs*p.natAbs*q)<B^(K+K+K+1):=by omega
 unfold blw
 dsimp only
 split
 · rw [Int.natAbs_natCast];exact h5
 · split
   · rw [Int.natAbs_neg,Int.natAbs_natCast];exact h5
   · rw [Int.natAbs_neg];exact h4
def uI (w:World) (x y:Int) (e:Ending) (w':World):Prop:=∃ v u,e = .returned (.tuple #[v,u])/\IntV w' v x/\IntV w' u y/\w.grownBy w' none
theorem oL {x:Int} (h0 : -9223372036854775808<=x) (h1:x<=9223372036854775807):IntKind.i64.wrap x=x:=by
 rw [IntKind.wrap_i64];omega
def sBl (z:Int) (b:Bool):Sp := .of (.tup [(none,3),(none,0)]) (fun v W=>∃ u,v = .tuple #[u,.bool b]/\IntV W u z) (fun v W h=>by
 obtain ⟨u,rfl,s0,x0,b0,rfl,_⟩:=h
 exact W5 (u := .bool true) (cs:=[.slice s0 x0.length x0.length,.bool b0,.bool b]) (by simp [Value.oneCell']) rfl) (fun v W W' k h=>by obtain ⟨u,e,h⟩:=h;exact ⟨u,e,h.keeps k⟩)
theorem bl1 {z:Int} {b:Bool} {a c:Value} {W:World} : (sBl z b).F (.tuple #[a,c]) W->IntV W a z:=by rintro ⟨u,e,h⟩;cases e;exact h
theorem bl2 {z:Int} {b:Bool} {a c:Value} {W:World} : (sBl z b).F (.tuple #[a,c]) W->c = .bool b:=by rintro ⟨u,e,h⟩;cases e;rfl
theorem toBl {P:Program} {f:FuncId} {args:Array Value} {W:World} {z:Int} {b:Bool} (h:Calls P f args W (RetBelow W z b)):Calls P f args W (Ret W (sBl z b).F):=h.mono fun _ _ ⟨v,a,h,g⟩=>⟨_,a,⟨v,rfl,h⟩,g⟩
theorem toNN {P:Program} {f:FuncId} {args:Array Value} {W:World} {n m:Nat} (h:Calls P f args W (wO W n m)):Calls P f args W (Ret W (sNN n m).F):=h.mono fun _ _ ⟨v,u,a,h,h',g⟩=>⟨_,a,⟨v,u,rfl,h,h'⟩,g⟩
theorem jS {P:Program} {ρ : Operand->Value} {o:Oper} {t:TypeId} {x:Operand} {b:Bool} {W:World} (ho:o.op = .unOp .not t x) (hx : ρ x = .bool b) :
 (execOp ρ o).run P W = .ok (.value (.bool (!b))) W:=by simp only [execOp,ho,hx];rfl
theorem G4 {ρ : Operand->Value} {x:Operand} {u:Value} (h:[x].map ρ=[u]) : ρ x=u:=by simpa using h
theorem nM (p:Int):decide (0<=p.sign)=decide (0<=p):=by
 rcases Int.lt_trichotomy p 0 with h | h | h
 · rw [Int.sign_eq_neg_one_of_neg h,decide_eq_false (by omega),decide_eq_false (by omega)]
 · rw [h];rfl
 · rw [Int.sign_eq_one_of_pos h,decide_eq_true (by omega),decide_eq_true (by omega)]
theorem dC (w:World) (va vb:Value) (p:Int) (q:Nat) (K:Nat) (Ha:IntV w va p) (Hb:IntV w vb (q:Int)) (hK : 1<=K/\K<=100000) (lp:p.natAbs<B^K) (lq:q<B^K) :
 Calls Tryz.prog 133 #[va,vb] w (RetBelow w (blw p q).1 (blw p q).2):=by
 obtain ⟨s,hs⟩:∃ s,p.natAbs*p.natAbs*q=s:=⟨_,rfl⟩
 have hs':(p*p*(q:Int)).natAbs=s:=by rw [Int.natAbs_mul,Int.natAbs_mul,Int.natAbs_natCast];exact hs
 have ls:s<B^(K+K+K):=by rw [<- hs,Nat.pow_add,Nat.pow_add];exact Nat.mul_lt_mul'' (Nat.mul_lt_mul'' lp lp) lq
 obtain ⟨r,hr⟩:∃ r,D8 s=r:=⟨_,rfl⟩
 have h1:r*r<=s:=hr ▸ aE s
 have lr:r<B^(K+K+K):=Nat.lt_of_le_of_lt (Nat.le_trans (Nat.le_mul_self _) h1) ls
 obtain ⟨z,hz⟩:∃ z,s-r*r=z:=⟨_,rfl⟩
 have hx:(blw p q).2=decide (z=0):=by
  unfold blw;dsimp only;rw [hs,hr]
  exact decide_eq_decide.2 ⟨fun h2=>by omega,fun h2=>by omega⟩
 have hy:(blw p q).1=if 0<=p then (r:Int) else if decide (z=0)=true then -(r:Int) else -((r:Int)+1):=by
  rw [<- hx];unfold blw;dsimp only;rw [hs];cases hr;rfl
 have lz:z<B^(K+K+K):=by omega
 rw [hx,hy]
 rcases (show (0<=p/\z=0)\/(0<=p /\ ¬ z=0)\/(¬ 0<=p/\z=0)\/(¬ 0<=p /\ ¬ z=0) by omega) with ⟨hp,he⟩ | ⟨hp,he⟩ | ⟨hp,he⟩ | ⟨hp,he⟩
 · skip
   have hp0:decide (0<=p)=true:=decide_eq_true hp
   have hex:decide (z=0)=true:=decide_eq_true he
   rw [if_pos hp,hex]
   refine A4 B6 Tryz.func133 [sI p,sI (q:Int)] [sI (p*p),sI (p*p*(q:Int)),sN s,sNN r z,sZ (nb z),sV (.bool true),sI (r:Int),sZ p.sign,sV (.bool true)] (.cons Ha (.cons Hb .nil)) (rs:=[cl 2 38 [ag 2 0,ag 2 0],cl 3 38 [ag 2 2,ag 2 1],cl 4 36 [ag 2 3],cl 5 37 [ag 1 4],cl 6 104 [.v true [.an 5 1]],co 7 (.binOp .eql 3 (.tmp 21) (.const (.int .i64 0)) 3) 4 [on 6,.v false [.lit (.int .i64 0)]] [0,1,2,3,4,5,6] [],cl 8 40 [ag 1 5],cl 9 46 [ag 2 0],co 10 (.binOp .geq 3 (.tmp 26) (.const (.int .i64 0)) 3) 4 [on 9,.v false [.lit (.int .i64 0)]] [0,1,2,3,4,5,6,7,8,9] []]) (out := .tup [(true,[.an 8 0,.an 8 1]),(false,[.lit (.bool true)])]) (nc:=11) (by kernel_rfl)
    ⟨fun σ W g h hb=>E7 W _ _ p p K (h 0 rfl) (h 0 rfl) (by omega) lp lp,
    fun σ W g h hb=>E7 W _ _ (p*p) (q:Int) (K+K) (h 2 rfl) (h 1 rfl) (by omega) (G3 lp lp) (B0 (ldi lq) (by omega)),
    fun σ W g h hb=>hs' ▸ bD W _ _ (K+K+K) (h 3 rfl) (by omega) (hs'.symm ▸ ls),
    fun σ W g h hb=>toNN (hz ▸ hr ▸ Z7 W _ s (K+K+K) (h 4 rfl) ls (by omega) (by omega)),
    fun σ W g h hb=>(L9 W _ z (K+K+K) (nn2 (h 5 rfl)) (by omega) lz).mono fun _ _ ⟨a,g⟩=>⟨_,a,rfl,g⟩,
    fun σ W g h hb=>fun ρ o ho _ hv=>⟨_,A7 ho ((A1 hv).1.trans (h 6 rfl)) (A1 hv).2 rfl,congrArg Value.bool ((vM z).trans hex)⟩,
    fun σ W g h hb=>bB W _ r (K+K+K) (nn1 (h 5 rfl)) (by omega) lr,
    fun σ W g h hb=>(D3 W _ p K (h 0 rfl) (by omega) lp).mono fun _ _ ⟨a,g⟩=>⟨_,a,rfl,g⟩,
    fun σ W g h hb=>fun ρ o ho _ hv=>⟨_,A7 ho ((A1 hv).1.trans (h 9 rfl)) (A1 hv).2 rfl,congrArg Value.bool ((nM p).trans hp0)⟩,
    trivial⟩ fun τ W g h=>⟨_,rfl,h 8 rfl,g⟩
 · skip
   have hp0:decide (0<=p)=true:=decide_eq_true hp
   have hex:decide (z=0)=false:=decide_eq_false he
   rw [if_pos hp,hex]
   refine A4 B6 Tryz.func133 [sI p,sI (q:Int)] [sI (p*p),sI (p*p*(q:Int)),sN s,sNN r z,sZ (nb z),sV (.bool false),sI (r:Int),sZ p.sign,sV (.bool true)] (.cons Ha (.cons Hb .nil)) (rs:=[cl 2 38 [ag 2 0,ag 2 0],cl 3 38 [ag 2 2,ag 2 1],cl 4 36 [ag 2 3],cl 5 37 [ag 1 4],cl 6 104 [.v true [.an 5 1]],co 7 (.binOp .eql 3 (.tmp 21) (.const (.int .i64 0)) 3) 4 [on 6,.v false [.lit (.int .i64 0)]] [0,1,2,3,4,5,6] [],cl 8 40 [ag 1 5],cl 9 46 [ag 2 0],co 10 (.binOp .geq 3 (.tmp 26) (.const (.int .i64 0)) 3) 4 [on 9,.v false [.lit (.int .i64 0)]] [0,1,2,3,4,5,6,7,8,9] []]) (out := .tup [(true,[.an 8 0,.an 8 1]),(false,[.lit (.bool false)])]) (nc:=11) (by kernel_rfl)
    ⟨fun σ W g h hb=>E7 W _ _ p p K (h 0 rfl) (h 0 rfl) (by omega) lp lp,
    fun σ W g h hb=>E7 W _ _ (p*p) (q:Int) (K+K) (h 2 rfl) (h 1 rfl) (by omega) (G3 lp lp) (B0 (ldi lq) (by omega)),
    fun σ W g h hb=>hs' ▸ bD W _ _ (K+K+K) (h 3 rfl) (by omega) (hs'.symm ▸ ls),
    fun σ W g h hb=>toNN (hz ▸ hr ▸ Z7 W _ s (K+K+K) (h 4 rfl) ls (by omega) (by omega)),
    fun σ W g h hb=>(L9 W _ z (K+K+K) (nn2 (h 5 rfl)) (by omega) lz).mono fun _ _ ⟨a,g⟩=>⟨_,a,rfl,g⟩,
    fun σ W g h hb=>fun ρ o ho _ hv=>⟨_,A7 ho ((A1 hv).1.trans (h 6 rfl)) (A1 hv).2 rfl,congrArg Value.bool ((vM z).trans hex)⟩,
    fun σ W g h hb=>bB W _ r (K+K+K) (nn1 (h 5 rfl)) (by omega) lr,
    fun σ W g h hb=>(D3 W _ p K (h 0 rfl) (by omega) lp).mono fun _ _ ⟨a,g⟩=>⟨_,a,rfl,g⟩,
    fun σ W g h hb=>fun ρ o ho _ hv=>⟨_,A7 ho ((A1 hv).1.trans (h 9 rfl)) (A1 hv).2 rfl,congrArg Value.bool ((nM p).trans hp0)⟩,
    trivial⟩ fun τ W g h=>⟨_,rfl,h 8 rfl,g⟩
 · skip
   have hp0:decide (0<=p)=false:=decide_eq_false hp
   have hex:decide (z=0)=true:=decide_eq_true he
   rw [if_neg hp,hex]
   rw [if_pos rfl]
   refine A4 B6 Tryz.func133 [sI p,sI (q:Int)] [sI (p*p),sI (p*p*(q:Int)),sN s,sNN r z,sZ (nb z),sV (.bool true),sI (r:Int),sZ p.sign,sV (.bool false),sI (-(r:Int))] (.cons Ha (.cons Hb .nil)) (rs:=[cl 2 38 [ag 2 0,ag 2 0],cl 3 38 [ag 2 2,ag 2 1],cl 4 36 [ag 2 3],cl 5 37 [ag 1 4],cl 6 104 [.v true [.an 5 1]],co 7 (.binOp .eql 3 (.tmp 21) (.const (.int .i64 0)) 3) 4 [on 6,.v false [.lit (.int .i64 0)]] [0,1,2,3,4,5,6] [],cl 8 40 [ag 1 5],cl 9 46 [ag 2 0],co 10 (.binOp .geq 3 (.tmp 26) (.const (.int .i64 0)) 3) 4 [on 9,.v false [.lit (.int .i64 0)]] [0,1,2,3,4,5,6,7,8,9] [],cl 11 81 [ag 2 8]]) (out := .tup [(true,[.an 11 0,.an 11 1]),(false,[.lit (.bool true)])]) (nc:=12) (by kernel_rfl)
    ⟨fun σ W g h hb=>E7 W _ _ p p K (h 0 rfl) (h 0 rfl) (by omega) lp lp,
    fun σ W g h hb=>E7 W _ _ (p*p) (q:Int) (K+K) (h 2 rfl) (h 1 rfl) (by omega) (G3 lp lp) (B0 (ldi lq) (by omega)),
    fun σ W g h hb=>hs' ▸ bD W _ _ (K+K+K) (h 3 rfl) (by omega) (hs'.symm ▸ ls),
    fun σ W g h hb=>toNN (hz ▸ hr ▸ Z7 W _ s (K+K+K) (h 4 rfl) ls (by omega) (by omega)),
    fun σ W g h hb=>(L9 W _ z (K+K+K) (nn2 (h 5 rfl)) (by omega) lz).mono fun _ _ ⟨a,g⟩=>⟨_,a,rfl,g⟩,
    fun σ W g h hb=>fun ρ o ho _ hv=>⟨_,A7 ho ((A1 hv).1.trans (h 6 rfl)) (A1 hv).2 rfl,congrArg Value.bool ((vM z).trans hex)⟩,
    fun σ W g h hb=>bB W _ r (K+K+K) (nn1 (h 5 rfl)) (by omega) lr,
    fun σ W g h hb=>(D3 W _ p K (h 0 rfl) (by omega) lp).mono fun _ _ ⟨a,g⟩=>⟨_,a,rfl,g⟩,
    fun σ W g h hb=>fun ρ o ho _ hv=>⟨_,A7 ho ((A1 hv).1.trans (h 9 rfl)) (A1 hv).2 rfl,congrArg Value.bool ((nM p).trans hp0)⟩,
    fun σ W g h hb=>X0 W _ _ (K+K+K) (h 8 rfl) (by omega) (by rw [Int.natAbs_natCast];exact lr),
    trivial⟩ fun τ W g h=>⟨_,rfl,h 11 rfl,g⟩
 · skip
   have hp0:decide (0<=p)=false:=decide_eq_false hp
   have hex:decide (z=0)=false:=decide_eq_false he
   rw [if_neg hp,hex]
   rw [if_neg (by simp)]
   refine A4 B6 Tryz.func133 [sI p,sI (q:Int)] [sI (p*p),sI (p*p*(q:Int)),sN s,sNN r z,sZ (nb z),sV (.bool false),sI (r:Int),sZ p.sign,sV (.bool false),sI 1,sI ((r:Int)+1),sI (-((r:Int)+1))] (.cons Ha (.cons Hb .nil)) (rs:=[cl 2 38 [ag 2 0,ag 2 0],cl 3 38 [ag 2 2,ag 2 1],cl 4 36 [ag 2 3],cl 5 37 [ag 1 4],cl 6 104 [.v true [.an 5 1]],co 7 (.binOp .eql 3 (.tmp 21) (.const (.int .i64 0)) 3) 4 [on 6,.v false [.lit (.int .i64 0)]] [0,1,2,3,4,5,6] [],cl 8 40 [ag 1 5],cl 9 46 [ag 2 0],co 10 (.binOp .geq 3 (.tmp 26) (.const (.int .i64 0)) 3) 4 [on 9,.v false [.lit (.int .i64 0)]] [0,1,2,3,4,5,6,7,8,9] [],cl 11 10 [.v false [.lit (.int .i64 1)]],cl 12 45 [ag 2 8,ag 2 11],cl 13 81 [ag 2 12]]) (out := .tup [(true,[.an 13 0,.an 13 1]),(false,[.lit (.bool false)])]) (nc:=14) (by kernel_rfl)
    ⟨fun σ W g h hb=>E7 W _ _ p p K (h 0 rfl) (h 0 rfl) (by omega) lp lp,
    fun σ W g h hb=>E7 W _ _ (p*p) (q:Int) (K+K) (h 2 rfl) (h 1 rfl) (by omega) (G3 lp lp) (B0 (ldi lq) (by omega)),
    fun σ W g h hb=>hs' ▸ bD W _ _ (K+K+K) (h 3 rfl) (by omega) (hs'.symm ▸ ls),
    fun σ W g h hb=>toNN (hz ▸ hr ▸ Z7 W _ s (K+K+K) (h 4 rfl) ls (by omega) (by omega)),
    fun σ W g h hb=>(L9 W _ z (K+K+K) (nn2 (h 5 rfl)) (by omega) lz).mono fun _ _ ⟨a,g⟩=>⟨_,a,rfl,g⟩,
    fun σ W g h hb=>fun ρ o ho _ hv=>⟨_,A7 ho ((A1 hv).1.trans (h 6 rfl)) (A1 hv).2 rfl,congrArg Value.bool ((vM z).trans hex)⟩,
    fun σ W g h hb=>bB W _ r (K+K+K) (nn1 (h 5 rfl)) (by omega) lr,
    fun σ W g h hb=>(D3 W _ p K (h 0 rfl) (by omega) lp).mono fun _ _ ⟨a,g⟩=>⟨_,a,rfl,g⟩,
    fun σ W g h hb=>fun ρ o ho _ hv=>⟨_,A7 ho ((A1 hv).1.trans (h 9 rfl)) (A1 hv).2 rfl,congrArg Value.bool ((nM p).trans hp0)⟩,
    fun σ W g h hb=>C5 W 1 (by omega) (by omega),
    fun σ W g h hb=>D7 W _ _ (r:Int) 1 (K+K+K) (h 8 rfl) (h 11 rfl) (by omega) (ldi lr) (bH _ (by omega)),
    fun σ W g h hb=>X0 W _ _ (K+K+K+1) (h 12 rfl) (by omega) (mP lr),
    trivial⟩ fun τ W g h=>⟨_,rfl,h 13 rfl,g⟩
theorem blw4_nb (m n:Nat) (a b c d:Int) (E:Nat) (hE : 1<=E) (la:a.natAbs<B^E) (lb:b.natAbs<B^E) (lc:c.natAbs<B^E) (ld:d.natAbs<B^E) (lm:m<B^E) (ln:n<B^E) :
 (blw a 1).1.natAbs<B^(6*E+1)/\(blw b m).1.natAbs<B^(6*E+1)/\(blw c n).1.natAbs<B^(6*E+1)/\(blw d (m*n)).1.natAbs<B^(6*E+1):=by
 have lmn:m*n<B^(2*E):=by rw [show 2*E=E+E by omega,Nat.pow_add];exact Nat.mul_lt_mul'' lm ln
 exact ⟨B0 (wH a 1 E la (bH E hE)) (by omega),B0 (wH b m E lb lm) (by omega),B0 (wH c n E lc ln) (by omega),B0 (wH d (m*n) (2*E) (B0 ld (by omega)) lmn) (by omega)⟩
theorem vN (m n:Nat) (a b c d:Int) (E:Nat) (hE : 1<=E) (la:a.natAbs<B^E) (lb:b.natAbs<B^E) (lc:c.natAbs<B^E) (ld:d.natAbs<B^E) (lm:m<B^E) (ln:n<B^E) :
 ((blw a 1).1+(blw b m).1).natAbs<B^(6*E+2)/\(((blw a 1).1+(blw b m).1)+(blw c n).1).natAbs<B^(6*E+3)/\(cN m n a b c d).natAbs<B^(6*E+4):=by
 obtain ⟨h1,h2,h3,h4⟩:=blw4_nb m n a b c d E hE la lb lc ld lm ln
 have s1:=aP h1 h2
 have s2:=aP s1 (B0 h3 (show 6*E+1<=6*E+1+1 by omega))
 have s3:=aP s2 (B0 h4 (show 6*E+1<=6*E+1+1+1 by omega))
 exact ⟨s1,s2,s3⟩
theorem tB (m n:Nat) (a b c d:Int) : 0<=bE m n a b c d/\bE m n a b c d<=4:=by
 unfold bE
 rcases cS a 1 with h1 | h1<;>rcases cS b m with h2 | h2<;>rcases cS c n with h3 | h3<;>rcases cS d (m*n) with h4 | h4<;>omega
theorem rhigh_nb (m n:Nat) (a b c d:Int) (E:Nat) (hE : 1<=E) (la:a.natAbs<B^E) (lb:b.natAbs<B^E) (lc:c.natAbs<B^E) (ld:d.natAbs<B^E) (lm:m<B^E) (ln:n<B^E):(U8 m n a b c d).natAbs<B^(6*E+5):=by
 have h:=(vN m n a b c d E hE la lb lc ld lm ln).2.2
 unfold U8
 split
 · refine aP h ?_
   have h2:=tB m n a b c d
   have h3 : 4<B^(6*E+4):=Nat.lt_of_lt_of_le (show 4<B^1 by unfold B;decide) (Nat.pow_le_pow_right D6 (by omega))
   omega
 · exact B0 h (by omega)
theorem IntV.eq {W:World} {v:Value} {z z':Int} (e:z'=z) (h:IntV W v z):IntV W v z':=e ▸ h
theorem jO {p:Int} {q:Nat} (h:(blw p q).2=true) (x:Int):x+opn p q=x:=by unfold opn;rw [if_pos h,Int.add_zero]
theorem fT {p:Int} {q:Nat} (h:(blw p q).2=false) (x:Int):x+opn p q=x+1:=by unfold opn;rw [if_neg (by rw [h];simp)]
theorem D2 {v:Value} {a b:Bool} (h:v = .bool a) (h2:v = .bool b):a=b:=by rw [h] at h2;exact Value.bool.inj h2
theorem notb {v:Value} {a b:Bool} (h:v = .bool (!a)) (h2:v = .bool b):a = !b:=by rw [h] at h2;cases Value.bool.inj h2;simp
theorem lV {t:TypeId} {x y:Int} (h0 : 0<=x+y) (h1:x+y<=100):binOp .add t (.int .i64 x) (.int .i64 y) = .pure (.int .i64 (x+y)):=by
 show Sem.pure (Value.int .i64 (IntKind.i64.wrap (x+y)))=_
 rw [oL (by omega) (by omega)]
theorem sub_small {t:TypeId} {x y:Int} (h0 : 0<=x-y) (h1:x-y<=100):binOp .sub t (.int .i64 x) (.int .i64 y) = .pure (.int .i64 (x-y)):=by
 show Sem.pure (Value.int .i64 (IntKind.i64.wrap (x-y)))=_
 rw [oL (by omega) (by omega)]
theorem SAround_any (w:World) (va:Value) (m n:Nat) (r0 r1 r2 r3:Rat) (K:Nat) (Ha:SurdV w va (m:Int) (n:Int) r0 r1 r2 r3) (hK : 1<=K/\K<=2000) (b0:Bd1 K r0) (b1:Bd1 K r1) (b2:Bd1 K r2) (b3:Bd1 K r3) (lm:m<B^K) (ln:n<B^K) (hTab:Tab w) :
 Calls Tryz.prog 79 #[va] w (uI w (cN m n (r0*J7 r0 r1 r2 r3).num (r1*J7 r0 r1 r2 r3).num (r2*J7 r0 r1 r2 r3).num (r3*J7 r0 r1 r2 r3).num / (J7 r0 r1 r2 r3).num) (U8 m n (r0*J7 r0 r1 r2 r3).num (r1*J7 r0 r1 r2 r3).num (r2*J7 r0 r1 r2 r3).num (r3*J7 r0 r1 r2 r3).num / (J7 r0 r1 r2 r3).num)):=by
 have hf:=fH b0 b1 b2 b3
 have HW:∀ W v,SurdV W v m n r0 r1 r2 r3->Tab W->Calls Tryz.prog 51 #[v] W (kI W _ _ _ _ _):=fun W v hv hT=>rL W v m n r0 r1 r2 r3 K hv (by omega) b0 b1 b2 b3 hT
 have hS : 0<(J7 r0 r1 r2 r3).num:=by
  obtain ⟨c,hc,h0,_⟩:=hf
  rw [hc,Rat.num_intCast];omega
 obtain ⟨D,hD⟩:∃ D,J7 r0 r1 r2 r3=D:=⟨_,rfl⟩
 rw [hD] at HW hf hS
 rw [hD]
 have E0:=B0 (I8 hf b0.1) (show K+(1+K+K+K+K)<=5*K+1 by omega)
 have E1:=B0 (I8 hf b1.1) (show K+(1+K+K+K+K)<=5*K+1 by omega)
 have E2:=B0 (I8 hf b2.1) (show K+(1+K+K+K+K)<=5*K+1 by omega)
 have E3:=B0 (I8 hf b3.1) (show K+(1+K+K+K+K)<=5*K+1 by omega)
 have ED:=B0 hf.bd.1 (show 1+K+K+K+K<=6*(5*K+1)+5 by omega)
 have LM:=B0 lm (show K<=5*K+1 by omega)
 have LN:=B0 ln (show K<=5*K+1 by omega)
 obtain ⟨Z0,z0⟩:∃ Z,(r0*D).num=Z:=⟨_,rfl⟩
 obtain ⟨Z1,z1⟩:∃ Z,(r1*D).num=Z:=⟨_,rfl⟩
 obtain ⟨Z2,z2⟩:∃ Z,(r2*D).num=Z:=⟨_,rfl⟩
 obtain ⟨Z3,z3⟩:∃ Z,(r3*D).num=Z:=⟨_,rfl⟩
 obtain ⟨S,hs⟩:∃ S,D.num=S:=⟨_,rfl⟩
 rw [z0,z1,z2,z3,hs] at HW
 rw [z0] at E0
 rw [z1] at E1
 rw [z2] at E2
 rw [z3] at E3
 rw [hs] at ED hS
 rw [z0,z1,z2,z3,hs]
 have EE : 1<=5*K+1:=by omega
 obtain ⟨L0,L1,L2,L3⟩:=blw4_nb m n Z0 Z1 Z2 Z3 (5*K+1) EE E0 E1 E2 E3 LM LN
 obtain ⟨M1,M2,M3⟩:=vN m n Z0 Z1 Z2 Z3 (5*K+1) EE E0 E1 E2 E3 LM LN
 have MH:=rhigh_nb m n Z0 Z1 Z2 Z3 (5*K+1) EE E0 E1 E2 E3 LM LN
 have LMN:m*n<B^(2*(5*K+1)):=by rw [show 2*(5*K+1)=(5*K+1)+(5*K+1) by omega,Nat.pow_add];exact Nat.mul_lt_mul'' LM LN
 obtain ⟨O0,O1,O2,O3⟩:(0<=opn Z0 1/\opn Z0 1<=1)/\(0<=opn Z1 m/\opn Z1 m<=1)/\(0<=opn Z2 n/\opn Z2 n<=1)/\(0<=opn Z3 (m*n)/\opn Z3 (m*n)<=1):=by
  refine ⟨?_, ?_, ?_, ?_⟩
  · rcases cS Z0 1 with h | h<;>omega
  · rcases cS Z1 m with h | h<;>omega
  · rcases cS Z2 n with h | h<;>omega
  · rcases cS Z3 (m*n) with h | h<;>omega
 refine eH B6 Tryz.func79 [sSd (m:Int) (n:Int) r0 r1 r2 r3] [sWh Z0 Z1 Z2 Z3 S,sIs 1 (m:Int) (n:Int) ((m:Int)*(n:Int)),sBl (blw Z0 1).1 (blw Z0 1).2,sI (blw Z0 1).1,sB (!(blw Z0 1).2),sZ (opn Z0 1),sBl (blw Z1 m).1 (blw Z1 m).2,sI ((blw Z0 1).1+(blw Z1 m).1),sB (!(blw Z1 m).2),sZ ((opn Z0 1)+1),sZ ((opn Z0 1)+opn Z1 m),sBl (blw Z2 n).1 (blw Z2 n).2,sI (((blw Z0 1).1+(blw Z1 m).1)+(blw Z2 n).1),sB (!(blw Z2 n).2),sZ (((opn Z0 1)+opn Z1 m)+1),sZ (((opn Z0 1)+opn Z1 m)+opn Z2 n),sBl (blw Z3 (m*n)).1 (blw Z3 (m*n)).2,sI ((((blw Z0 1).1+(blw Z1 m).1)+(blw Z2 n).1)+(blw Z3 (m*n)).1),sB (!(blw Z3 (m*n)).2),sZ ((((opn Z0 1)+opn Z1 m)+opn Z2 n)+1),sZ ((((opn Z0 1)+opn Z1 m)+opn Z2 n)+opn Z3 (m*n)),sB (decide (1<bE m n Z0 Z1 Z2 Z3)),sZ (bE m n Z0 Z1 Z2 Z3-1),sI (bE m n Z0 Z1 Z2 Z3-1),sI (cN m n Z0 Z1 Z2 Z3+(bE m n Z0 Z1 Z2 Z3-1)),sI (U8 m n Z0 Z1 Z2 Z3),kY (cN m n Z0 Z1 Z2 Z3 / S) (cN m n Z0 Z1 Z2 Z3%S) 0,kY (U8 m n Z0 Z1 Z2 Z3 / S) (U8 m n Z0 Z1 Z2 Z3%S) 0] [] [some [[.t 7]],some [[.t 7]],some [[.t 7]],some [[.t 7]],some [[.c 14 0,.c 14 1]]] (.cons Ha .nil) (rs:=[(cl 1 51 [ag 20 0],[]),(cl 2 65 [ag 4 0],[]),(cl 3 133 [ag 2 1,ag 2 2],[]),(cl 4 45 [.v true [.lit (.slice none 0 0),.lit (.bool false)],ag 2 3],[]),(co 5 (.unOp .not 4 (.tmp 37)) 4 [.v false [.an 3 2]] [0,1,2,3,4] [],[]),(cl 7 133 [.v true [.an 1 2,.an 1 3],.v true [.an 2 2,.an 2 3]],[]),(cl 8 45 [ag 2 4,ag 2 7],[]),(co 9 (.unOp .not 4 (.tmp 37)) 4 [.v false [.an 7 2]] [0,1,2,3,4,5,6,7,8] [],[]),(co 10 (.binOp .add 3 (.tmp 39) (.const (.int .i64 1)) 3) 3 [on 6,.v false [.lit (.int .i64 1)]] [0,1,2,3,4,5,6,7,8,9] [],[(9,0,true)]),(cla 12 133 [.v true [.an 1 4,.an 1 5],.v true [.an 2 4,.an 2 5]] [0,1,2,3,4,5,6,7,8,9,11],[]),(cla 13 45 [ag 2 8,ag 2 12] [0,1,2,3,4,5,6,7,8,9,11,12],[]),(co 14 (.unOp .not 4 (.tmp 37)) 4 [.v false [.an 12 2]] [0,1,2,3,4,5,6,7,8,9,11,12,13] [],[]),(co 15 (.binOp .add 3 (.tmp 39) (.const (.int .i64 1)) 3) 3 [on 11,.v false [.lit (.int .i64 1)]] [0,1,2,3,4,5,6,7,8,9,11,12,13,14] [],[(14,0,true)]),(cla 17 133 [.v true [.an 1 6,.an 1 7],.v true [.an 2 6,.an 2 7]] [0,1,2,3,4,5,6,7,8,9,11,12,13,14,16],[]),(cla 18 45 [ag 2 13,ag 2 17] [0,1,2,3,4,5,6,7,8,9,11,12,13,14,16,17],[]),(co 19 (.unOp .not 4 (.tmp 37)) 4 [.v false [.an 17 2]] [0,1,2,3,4,5,6,7,8,9,11,12,13,14,16,17,18] [],[]),(co 20 (.binOp .add 3 (.tmp 39) (.const (.int .i64 1)) 3) 3 [on 16,.v false [.lit (.int .i64 1)]] [0,1,2,3,4,5,6,7,8,9,11,12,13,14,16,17,18,19] [],[(19,0,true)]),(co 22 (.binOp .gtr 3 (.tmp 43) (.const (.int .i64 1)) 3) 4 [on 21,.v false [.lit (.int .i64 1)]] [0,1,2,3,4,5,6,7,8,9,11,12,13,14,16,17,18,19,21] [],[]),(co 23 (.binOp .sub 3 (.tmp 46) (.const (.int .i64 1)) 3) 3 [on 21,.v false [.lit (.int .i64 1)]] [0,1,2,3,4,5,6,7,8,9,11,12,13,14,16,17,18,19,21,22] [],[(22,0,true)]),(cla 24 10 [on 23] [0,1,2,3,4,5,6,7,8,9,11,12,13,14,16,17,18,19,21,22,23],[(22,0,true)]),(cla 25 45 [ag 2 18,ag 2 24] [0,1,2,3,4,5,6,7,8,9,11,12,13,14,16,17,18,19,21,22,23,24],[(22,0,true)]),(cla 27 44 [ag 2 18,.v true [.an 1 8,.an 1 9]] [0,1,2,3,4,5,6,7,8,9,11,12,13,14,16,17,18,19,21,22,26],[]),(cla 28 44 [ag 2 26,.v true [.an 1 8,.an 1 9]] [0,1,2,3,4,5,6,7,8,9,11,12,13,14,16,17,18,19,21,22,26,27],[])]) (js:=[.test 5 0 (List.range 6) [],.meet [(6,.v false [.lit (.int .i64 1)])] (List.range 6) [(5,0,true)],.meet [(6,.v false [.lit (.int .i64 0)])] (List.range 6) [(5,0,false)],.test 9 0 (List.range 10) [],.meet [(11,on 10)] (List.range 11) [(9,0,true)],.meet [(11,on 6)] (List.range 10) [(9,0,false)],.test 14 0 [0,1,2,3,4,5,6,7,8,9,11,12,13,14] [],.meet [(16,on 15)] [0,1,2,3,4,5,6,7,8,9,11,12,13,14,15] [(14,0,true)],.meet [(16,on 11)] [0,1,2,3,4,5,6,7,8,9,11,12,13,14] [(14,0,false)],.test 19 0 [0,1,2,3,4,5,6,7,8,9,11,12,13,14,16,17,18,19] [],.meet [(21,on 20)] [0,1,2,3,4,5,6,7,8,9,11,12,13,14,16,17,18,19,20] [(19,0,true)],.meet [(21,on 16)] [0,1,2,3,4,5,6,7,8,9,11,12,13,14,16,17,18,19] [(19,0,false)],.test 22 0 [0,1,2,3,4,5,6,7,8,9,11,12,13,14,16,17,18,19,21,22] [],.meet [(26,ag 2 25)] [0,1,2,3,4,5,6,7,8,9,11,12,13,14,16,17,18,19,21,22,23,24,25] [(22,0,true)],.meet [(26,ag 2 18)] [0,1,2,3,4,5,6,7,8,9,11,12,13,14,16,17,18,19,21,22] [(22,0,false)]]) (outs:=[⟨.tup [(true,[.an 27 0,.an 27 1]),(true,[.an 28 0,.an 28 1])],[0,1,2,3,4,5,6,7,8,9,11,12,13,14,16,17,18,19,21,22,26,27,28],[],[],[]⟩]) (nc:=29) (by kernel_rfl)
  ⟨fun σ W g h hp hb=>toWh (HW W _ (h 0 rfl) (hTab.kept g (by simp))),
  fun σ W g h hp hb=>cG W _ (m:Int) (n:Int) K (sd0 (h 0 rfl)) (by omega) (ldi lm) (ldi ln),
  fun σ W g h hp hb=>toBl (dC W _ _ Z0 1 (5*K+1) (is0 (wh1 (h 1 rfl))) (is0 (h 2 rfl)) (by omega) E0 (bH _ EE)),
  fun σ W g h hp hb=>Int.zero_add (blw Z0 1).1 ▸ D7 W _ _ 0 _ (6*(5*K+1)+1) (IntV.zero W) (bl1 (h 3 rfl)) (by omega) (Nat.pow_pos D6) L0,
  fun σ W g h hp hb=>fun ρ o ho _ hv=>⟨_,jS ho ((G4 hv).trans (bl2 (h 3 rfl))),rfl⟩,
  fun σ W g h hp hb=>toBl (dC W _ _ Z1 m (5*K+1) (is1 (wh1 (h 1 rfl))) (is1 (h 2 rfl)) (by omega) E1 LM),
  fun σ W g h hp hb=>D7 W _ _ _ _ (6*(5*K+1)+4) (h 4 rfl) (bl1 (h 7 rfl)) (by omega) (B0 L0 (by omega)) (B0 L1 (by omega)),
  fun σ W g h hp hb=>fun ρ o ho _ hv=>⟨_,jS ho ((G4 hv).trans (bl2 (h 7 rfl))),rfl⟩,
  fun σ W g h hp hb=>fun ρ o ho _ hv=>⟨_,A7 ho ((A1 hv).1.trans (h 6 rfl)) (A1 hv).2 (lV (by omega) (by omega)),rfl⟩,
  fun σ W g h hp hb=>toBl (dC W _ _ Z2 n (5*K+1) (is2 (wh1 (h 1 rfl))) (is2 (h 2 rfl)) (by omega) E2 LN),
  fun σ W g h hp hb=>D7 W _ _ _ _ (6*(5*K+1)+4) (h 8 rfl) (bl1 (h 12 rfl)) (by omega) (B0 M1 (by omega)) (B0 L2 (by omega)),
  fun σ W g h hp hb=>fun ρ o ho _ hv=>⟨_,jS ho ((G4 hv).trans (bl2 (h 12 rfl))),rfl⟩,
  fun σ W g h hp hb=>fun ρ o ho _ hv=>⟨_,A7 ho ((A1 hv).1.trans (h 11 rfl)) (A1 hv).2 (lV (by omega) (by omega)),rfl⟩,
  fun σ W g h hp hb=>toBl (dC W _ _ Z3 (m*n) (2*(5*K+1)) (is3 (wh1 (h 1 rfl))) (show IntV W _ ((m*n:Nat):Int) from (Int.natCast_mul m n).symm ▸ is3 (h 2 rfl)) (by omega) (B0 E3 (by omega)) LMN),
  fun σ W g h hp hb=>D7 W _ _ _ _ (6*(5*K+1)+4) (h 13 rfl) (bl1 (h 17 rfl)) (by omega) (B0 M2 (by omega)) (B0 L3 (by omega)),
  fun σ W g h hp hb=>fun ρ o ho _ hv=>⟨_,jS ho ((G4 hv).trans (bl2 (h 17 rfl))),rfl⟩,
  fun σ W g h hp hb=>fun ρ o ho _ hv=>⟨_,A7 ho ((A1 hv).1.trans (h 16 rfl)) (A1 hv).2 (lV (by omega) (by omega)),rfl⟩,
  fun σ W g h hp hb=>fun ρ o ho _ hv=>⟨_,A7 ho ((A1 hv).1.trans (h 21 rfl)) (A1 hv).2 rfl,rfl⟩,
  fun σ W g h hp hb=>fun ρ o ho _ hv=>⟨_,A7 ho ((A1 hv).1.trans (h 21 rfl)) (A1 hv).2 (sub_small (by have:=D2 (h 22 rfl) (hp 22 0 true rfl);have:=of_decide_eq_true this;show 0<=bE m n Z0 Z1 Z2 Z3-1;omega) (by show bE m n Z0 Z1 Z2 Z3-1<=100;unfold bE;omega)),rfl⟩,
  fun σ W g h hp hb=>R4 (h 23 rfl) (C5 W _ (by unfold bE;omega) (by unfold bE;omega)),
  fun σ W g h hp hb=>D7 W _ _ _ _ (6*(5*K+1)+4) (h 18 rfl) (h 24 rfl) (by omega) M3 (Nat.lt_of_le_of_lt (show (bE m n Z0 Z1 Z2 Z3-1).natAbs<=4 by unfold bE;omega) (Nat.lt_of_lt_of_le (show 4<B^1 by unfold B;decide) (Nat.pow_le_pow_right D6 (by omega)))),
  fun σ W g h hp hb=>gX (K6 W _ _ _ S (6*(5*K+1)+5) (h 18 rfl) (wh2 (h 1 rfl)) (by omega) (B0 M3 (by omega)) ED (by omega)) rfl,
  fun σ W g h hp hb=>gX (K6 W _ _ _ S (6*(5*K+1)+5) (h 26 rfl) (wh2 (h 1 rfl)) (by omega) MH ED (by omega)) rfl,
  trivial⟩
  ⟨fun σ W g h hp=>⟨_,h 5 rfl⟩,
  fun σ W g h hp=>⟨congrArg (Value.int .i64) (by have:=fT (notb (h 5 rfl) (hp 5 0 true rfl)) 0;omega),trivial⟩,
  fun σ W g h hp=>⟨congrArg (Value.int .i64) (by have:=jO (notb (h 5 rfl) (hp 5 0 false rfl)) 0;omega),trivial⟩,
  fun σ W g h hp=>⟨_,h 9 rfl⟩,
  fun σ W g h hp=>⟨(h 10 rfl).trans (congrArg (Value.int .i64) (fT (notb (h 9 rfl) (hp 9 0 true rfl)) _).symm),trivial⟩,
  fun σ W g h hp=>⟨(h 6 rfl).trans (congrArg (Value.int .i64) (jO (notb (h 9 rfl) (hp 9 0 false rfl)) _).symm),trivial⟩,
  fun σ W g h hp=>⟨_,h 14 rfl⟩,
  fun σ W g h hp=>⟨(h 15 rfl).trans (congrArg (Value.int .i64) (fT (notb (h 14 rfl) (hp 14 0 true rfl)) _).symm),trivial⟩,
  fun σ W g h hp=>⟨(h 11 rfl).trans (congrArg (Value.int .i64) (jO (notb (h 14 rfl) (hp 14 0 false rfl)) _).symm),trivial⟩,
  fun σ W g h hp=>⟨_,h 19 rfl⟩,
  fun σ W g h hp=>⟨(h 20 rfl).trans (congrArg (Value.int .i64) (fT (notb (h 19 rfl) (hp 19 0 true rfl)) _).symm),trivial⟩,
  fun σ W g h hp=>⟨(h 16 rfl).trans (congrArg (Value.int .i64) (jO (notb (h 19 rfl) (hp 19 0 false rfl)) _).symm),trivial⟩,
  fun σ W g h hp=>⟨_,h 22 rfl⟩,
  fun σ W g h hp=>⟨IntV.eq (show U8 m n Z0 Z1 Z2 Z3=cN m n Z0 Z1 Z2 Z3+(bE m n Z0 Z1 Z2 Z3-1) by unfold U8;rw [if_pos (of_decide_eq_true (D2 (h 22 rfl) (hp 22 0 true rfl)))]) (h 25 rfl),trivial⟩,
  fun σ W g h hp=>⟨IntV.eq (show U8 m n Z0 Z1 Z2 Z3=cN m n Z0 Z1 Z2 Z3 by unfold U8;rw [if_neg (of_decide_eq_false (D2 (h 22 rfl) (hp 22 0 false rfl)))]) (h 18 rfl),trivial⟩,
  trivial⟩
  ⟨fun τ W g h hp hb=>⟨_,_,rfl,iiE1 (h 27 rfl),iiE1 (h 28 rfl),g⟩,
  trivial⟩
end Go.Proofs.YtdgdmicbbfoghaaGreatDoor
