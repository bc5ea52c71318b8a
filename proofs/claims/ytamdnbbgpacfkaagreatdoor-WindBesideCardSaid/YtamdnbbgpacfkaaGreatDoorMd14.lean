/- What the laws lean on, part 14. -/
import Derived.Below
import Derived.BigCall
import Derived.BigQuiet
import Derived.BigRegion
import Derived.Deep.AppendLies
import Derived.Deep.CutBlock
import Derived.Deep.CutRange
import Derived.Deep.DeepCutAuto
import Derived.Deep.DeepHandedRow
import Derived.Deep.LoopGhost
import Derived.Deep.MidRow
import Derived.Deep.QuietTactic
import Derived.Deep.RegionHeld3
import Derived.Deep.RegionLaw
import Derived.Deep.WholeRow
import Derived.Laws.AppendOwn
import Derived.Laws.Concat
import Derived.Laws.CopyOwn
import Derived.Laws.Externs
import Derived.Laws.IdiomStrings
import Derived.Lib.BitFns
import Derived.Lib.Bytealg
import Derived.Lib.Hide
import Derived.Lib.Slices
import Derived.Lib.Small
import Derived.Lib.Strings
import Derived.Lib.Walk
import Derived.LoopN
import Derived.OpenShut
import Derived.OrdersHeld
import Derived.OrdersIn
import Derived.Outline
import Derived.OwnWalk
import Derived.ProofKit
import Derived.RangeFuncCalls
import Derived.RangeFuncNested
import Derived.RangeFuncOwn
import Derived.Shelf.Bits.Mul64
import Derived.Shelf.Spec.TrailingZeros
import Derived.StillTailTactics
import Derived.WalkKit
import Derived.WalkLawsBesides
import Derived.WalkSpells
import Derived.Test.YtamdnbbgpacfkaaGreatDoorProg
import Derived.Test.YtamdnbbgpacfkaaGreatDoorRows
import Derived.Test.YtamdnbbgpacfkaaGreatDoorMd13
set_option linter.unusedVariables false
set_option linter.unusedSimpArgs false
set_option maxRecDepth 100000
namespace Go.Proofs.YtamdnbbgpacfkaaGreatDoor
open Go.RowKit Mat Ex PM
def lna (a b:H3):Int:=a.y*b.z-b.y*a.z
def lnb (a b:H3):Int:=b.x*a.z-a.x*b.z
def lnc (a b:H3):Int:=b.x*a.y-a.x*b.y
def crw (a b c d:H3):Int:=lna a b*lnb c d-lnb a b*lna c d
def crx (a b c d:H3):Int:=lnc a b*lnb c d-lnb a b*lnc c d
def cry (a b c d:H3):Int:=lna a b*lnc c d-lnc a b*lna c d
def crp (a b c d:H3):H3:=if crw a b c d<0 then ⟨-crx a b c d, -cry a b c d, -crw a b c d⟩ else ⟨crx a b c d,cry a b c d,crw a b c d⟩
theorem HB.line {E:Nat} {a b:H3} (ha:HB E a) (hb:HB E b):(lna a b).natAbs<D^(E+E+1)/\(lnb a b).natAbs<D^(E+E+1)/\(lnc a b).natAbs<D^(E+E+1):=by
 unfold lna lnb lnc
 refine ⟨?_, ?_, ?_⟩<;>rw [Int.sub_eq_add_neg]
 · exact L7 (A9 ha.2.1 hb.2.2) (L6 (A9 hb.2.1 ha.2.2))
 · exact L7 (A9 hb.1 ha.2.2) (L6 (A9 ha.1 hb.2.2))
 · exact L7 (A9 hb.1 ha.2.1) (L6 (A9 ha.1 hb.2.1))
theorem HB.crw {E:Nat} {a b c d:H3} (ha:HB E a) (hb:HB E b) (hc:HB E c) (hd:HB E d):(crw a b c d).natAbs<D^(4*E+3)/\(crx a b c d).natAbs<D^(4*E+3)/\(cry a b c d).natAbs<D^(4*E+3):=by
 have h1:=ha.line hb
 have h2:=hc.line hd
 unfold Proofs.YtamdnbbgpacfkaaGreatDoor.crw crx cry
 refine ⟨?_, ?_, ?_⟩<;>rw [Int.sub_eq_add_neg]
 · exact dpw (L7 (A9 h1.1 h2.2.1) (L6 (A9 h1.2.1 h2.1))) (by omega)
 · exact dpw (L7 (A9 h1.2.2 h2.2.1) (L6 (A9 h1.2.1 h2.2.2))) (by omega)
 · exact dpw (L7 (A9 h1.1 h2.2.2) (L6 (A9 h1.2.2 h2.1))) (by omega)
theorem HB.crp {E:Nat} {a b c d:H3} (ha:HB E a) (hb:HB E b) (hc:HB E c) (hd:HB E d):HB (4*E+3) (crp a b c d):=by
 obtain ⟨h1,h2,h3⟩:=ha.crw hb hc hd
 unfold Proofs.YtamdnbbgpacfkaaGreatDoor.crp
 split
 · exact ⟨L6 h2,L6 h3,L6 h1⟩
 · exact ⟨h2,h3,h1⟩
theorem iY {n d:Int} (h : 0<d):(n:Rat)=Rat.divInt n d*(d:Rat):=by
 rw [jW];exact (Rat.div_mul_cancel (hz h)).symm
theorem crw_eq {a b c d:H3} (za : 0<a.z) (zb : 0<b.z) (zc : 0<c.z) (zd : 0<d.z) :
 (crw a b c d:Rat)=(a.z:Rat)*b.z*c.z*d.z*(A4 (rp c) (rp d) (rp a)-A4 (rp c) (rp d) (rp b)) /\
 (crx a b c d:Rat)=(a.z:Rat)*b.z*c.z*d.z*((rp a).1*(A4 (rp c) (rp d) (rp a)-A4 (rp c) (rp d) (rp b))+((rp b).1-(rp a).1)*A4 (rp c) (rp d) (rp a)) /\
 (cry a b c d:Rat)=(a.z:Rat)*b.z*c.z*d.z*((rp a).2*(A4 (rp c) (rp d) (rp a)-A4 (rp c) (rp d) (rp b))+((rp b).2-(rp a).2)*A4 (rp c) (rp d) (rp a)):=by
 unfold crw crx cry lna lnb lnc A4 rp
 simp only [Rat.intCast_mul,Rat.intCast_sub]
 rw [iY (n:=a.x) za,iY (n:=a.y) za,iY (n:=b.x) zb,iY (n:=b.y) zb,iY (n:=c.x) zc,iY (n:=c.y) zc,iY (n:=d.x) zd,iY (n:=d.y) zd]
 generalize (a.z:Rat)=az at *;generalize (b.z:Rat)=bz at *;generalize (c.z:Rat)=cz at *;generalize (d.z:Rat)=dz at *
 generalize Rat.divInt a.x a.z=ax;generalize Rat.divInt b.x b.z=bx;generalize Rat.divInt c.x c.z=cx;generalize Rat.divInt d.x d.z=dx
 generalize Rat.divInt a.y a.z=ay;generalize Rat.divInt b.y b.z=b2;generalize Rat.divInt c.y c.z=cy;generalize Rat.divInt d.y d.z=dy
 refine ⟨by grind,by grind,by grind⟩
theorem hz4 {a b c d:H3} (za : 0<a.z) (zb : 0<b.z) (zc : 0<c.z) (zd : 0<d.z):(a.z:Rat)*b.z*c.z*d.z≠0:=by
 have h1:=hz za;have h2:=hz zb;have h3:=hz zc;have h4:=hz zd
 intro e
 rcases Rat.mul_eq_zero.1 e with e | e
 · rcases Rat.mul_eq_zero.1 e with e | e
   · rcases Rat.mul_eq_zero.1 e with e | e
     · exact h1 e
     · exact h2 e
   · exact h3 e
 · exact h4 e
theorem crw_zero {a b c d:H3} (za : 0<a.z) (zb : 0<b.z) (zc : 0<c.z) (zd : 0<d.z):crw a b c d=0 ↔ A4 (rp c) (rp d) (rp a)=A4 (rp c) (rp d) (rp b):=by
 have h:=(crw_eq za zb zc zd).1
 have hn:=hz4 za zb zc zd
 constructor
 · intro e
   rw [e] at h
   rcases Rat.mul_eq_zero.1 h.symm with e2 | e2
   · exact absurd e2 hn
   · grind
 · intro e
   rw [e,Rat.sub_self,Rat.mul_zero] at h
   exact_mod_cast h
theorem sG {a b c d:H3} (h:crw a b c d≠0) : 0<(crp a b c d).z:=by
 unfold crp;split
 · show 0 < -crw a b c d;omega
 · show 0<crw a b c d;omega
theorem div_neg2 (x y:Rat) : -x / -y=x / y:=by
 by_cases h:y=0
 · subst h;simp [Rat.div_def,Rat.inv_zero]
 · have : -y≠0:=by grind
   grind
theorem cut_div {K N p q u:Rat} (hK:K≠0) (hN:N≠0):K*(p*N+(q-p)*u) / (K*N)=p+(q-p)*(u / N):=by
 have hKN:K*N≠0:=fun e=>(Rat.mul_eq_zero.1 e).elim hK hN
 have e1:=Rat.div_mul_cancel (a:=K*(p*N+(q-p)*u)) hKN
 have e2:=Rat.div_mul_cancel (a:=u) hN
 generalize K*(p*N+(q-p)*u) / (K*N)=y at *
 generalize u / N=z at *
 have:(y-(p+(q-p)*z))*(K*N)=0:=by grind
 rcases Rat.mul_eq_zero.1 this with h | h
 · grind
 · exact absurd h hKN
theorem crp_is {a b c d:H3} (za : 0<a.z) (zb : 0<b.z) (zc : 0<c.z) (zd : 0<d.z) (h:crw a b c d≠0) :
 rp (crp a b c d)=pat (rp a) (rp b) (A4 (rp c) (rp d) (rp a) / (A4 (rp c) (rp d) (rp a)-A4 (rp c) (rp d) (rp b))):=by
 have e:rp (crp a b c d)=((crx a b c d:Rat) / (crw a b c d:Rat),(cry a b c d:Rat) / (crw a b c d:Rat)):=by
  unfold crp rp
  split
  · simp only [jW,Rat.intCast_neg,div_neg2]
  · simp only [jW]
 obtain ⟨h1,h2,h3⟩:=crw_eq za zb zc zd
 have hne:A4 (rp c) (rp d) (rp a)-A4 (rp c) (rp d) (rp b)≠0:=fun q=>h ((crw_zero za zb zc zd).2 (by grind))
 have hK:=hz4 za zb zc zd
 rw [e,h1,h2,h3]
 generalize (a.z:Rat)*b.z*c.z*d.z=K at *
 generalize hu:A4 (rp c) (rp d) (rp a)=u at *
 generalize hv:A4 (rp c) (rp d) (rp b)=v at *
 simp only [pat]
 generalize hN:u-v=N at *
 refine Prod.ext ?_ ?_
 · show K*((rp a).1*N+((rp b).1-(rp a).1)*u) / (K*N)=(rp a).1+((rp b).1-(rp a).1)*(u / N)
   exact cut_div hK hne
 · show K*((rp a).2*N+((rp b).2-(rp a).2)*u) / (K*N)=(rp a).2+((rp b).2-(rp a).2)*(u / N)
   exact cut_div hK hne
theorem M4 (w:World) (va:Value) (a b:H3) (E:Nat) (Ha:HsV w va a b) (hE:E<=10000) (ba:HB E a) (bb:HB E b) :
 Calls Tryz.prog 166 #[va] w (RetRRR w (lna a b) (lnb a b) (lnc a b)):=by
 refine A6 B6 Tryz.func166 [sHs a b] [sR (a.y*b.z),sR (b.y*a.z),sR (lna a b),sR (b.x*a.z),sR (a.x*b.z),sR (lnb a b),sR (b.x*a.y),sR (a.x*b.y),sR (lnc a b)] (.cons Ha .nil) (rs:=[cl 1 44 [.v true [.an 0 2,.an 0 3],.v true [.an 0 10,.an 0 11]],cl 2 44 [.v true [.an 0 8,.an 0 9],.v true [.an 0 4,.an 0 5]],cl 3 140 [ag 2 1,ag 2 2],cl 4 44 [.v true [.an 0 6,.an 0 7],.v true [.an 0 4,.an 0 5]],cl 5 44 [ag 2 0,.v true [.an 0 10,.an 0 11]],cl 6 140 [ag 2 4,ag 2 5],cl 7 44 [.v true [.an 0 6,.an 0 7],.v true [.an 0 2,.an 0 3]],cl 8 44 [ag 2 0,.v true [.an 0 8,.an 0 9]],cl 9 140 [ag 2 7,ag 2 8]]) (out := .tup [(true,[.an 3 0,.an 3 1]),(true,[.an 6 0,.an 6 1]),(true,[.an 9 0,.an 9 1])]) (nc:=10) (by kernel_rfl)
  ⟨fun σ W g h hb=>C0 W _ _ _ _ E (h32 (hs1 (h 0 rfl))) (h33 (hs2 (h 0 rfl))) (by omega) ba.2.1 bb.2.2,
  fun σ W g h hb=>C0 W _ _ _ _ E (h32 (hs2 (h 0 rfl))) (h33 (hs1 (h 0 rfl))) (by omega) bb.2.1 ba.2.2,
  fun σ W g h hb=>J8 W _ _ _ _ (E+E) (h 1 rfl) (h 2 rfl) (by omega) (A9 ba.2.1 bb.2.2) (A9 bb.2.1 ba.2.2),
  fun σ W g h hb=>C0 W _ _ _ _ E (h31 (hs2 (h 0 rfl))) (h33 (hs1 (h 0 rfl))) (by omega) bb.1 ba.2.2,
  fun σ W g h hb=>C0 W _ _ _ _ E (h31 (hs1 (h 0 rfl))) (h33 (hs2 (h 0 rfl))) (by omega) ba.1 bb.2.2,
  fun σ W g h hb=>J8 W _ _ _ _ (E+E) (h 4 rfl) (h 5 rfl) (by omega) (A9 bb.1 ba.2.2) (A9 ba.1 bb.2.2),
  fun σ W g h hb=>C0 W _ _ _ _ E (h31 (hs2 (h 0 rfl))) (h32 (hs1 (h 0 rfl))) (by omega) bb.1 ba.2.1,
  fun σ W g h hb=>C0 W _ _ _ _ E (h31 (hs1 (h 0 rfl))) (h32 (hs2 (h 0 rfl))) (by omega) ba.1 bb.2.1,
  fun σ W g h hb=>J8 W _ _ _ _ (E+E) (h 7 rfl) (h 8 rfl) (by omega) (A9 bb.1 ba.2.1) (A9 ba.1 bb.2.1),
  trivial⟩ fun τ W g h=>⟨_,_,_,rfl,h 3 rfl,h 6 rfl,h 9 rfl,g⟩
theorem crw_cmp (a b c d:H3):M0 (lna a b*lnb c d) (lnb a b*lna c d)=0 ↔ crw a b c d=0:=by
 unfold crw
 constructor
 · intro h
   exact Classical.byContradiction fun h2=>zcmp_ne (fun e=>h2 (by omega)) h
 · intro h;exact oX (by omega)
theorem P6 (w:World) (va vb:Value) (a b c d:H3) (E:Nat) (Ha:HsV w va a b) (Hb:HsV w vb c d) (hE : 1<=E/\E<=100) (ba:HB E a) (bb:HB E b) (bc:HB E c) (bd:HB E d) :
 Calls Tryz.prog 110 #[va,vb] w (RetB w (dec (crw a b c d=0))):=by
 have l1:=ba.line bb
 have l2:=bc.line bd
 by_cases h1:crw a b c d=0
 · skip
   rw [O0 h1]
   refine A6 B6 Tryz.func110 [sHs a b,sHs c d] [jT (lna a b) (lnb a b) (lnc a b),jT (lna c d) (lnb c d) (lnc c d),sR (lna a b*lnb c d),sR (lnb a b*lna c d),sZ (M0 (lna a b*lnb c d) (lnb a b*lna c d)),sV (.bool true)] (.cons Ha (.cons Hb .nil)) (rs:=[cl 2 166 [ag 12 0],cl 3 166 [ag 12 1],cl 4 44 [ag 2 2,.v true [.an 3 2,.an 3 3]],cl 5 44 [.v true [.an 2 2,.an 2 3],ag 2 3],cl 6 43 [ag 2 4,ag 2 5],co 7 (.binOp .eql 3 (.tmp 29) (.const (.int .i64 0)) 3) 4 [on 6,.v false [.lit (.int .i64 0)]] [0,1,2,3,4,5,6] []]) (out := .v false [.lit (.bool true)]) (nc:=8) (by kernel_rfl)
    ⟨fun σ W g h hb=>iU (M4 W _ a b E (h 0 rfl) (by omega) ba bb),
    fun σ W g h hb=>iU (M4 W _ c d E (h 1 rfl) (by omega) bc bd),
    fun σ W g h hb=>C0 W _ _ _ _ (E+E+1) (jV (h 2 rfl)) (jU (h 3 rfl)) (by omega) l1.1 l2.2.1,
    fun σ W g h hb=>C0 W _ _ _ _ (E+E+1) (jU (h 2 rfl)) (jV (h 3 rfl)) (by omega) l1.2.1 l2.1,
    fun σ W g h hb=>toZ (F9 W _ _ _ _ (h 4 rfl) (h 5 rfl) (dp6 (A9 l1.1 l2.2.1) (by omega)) (dp6 (A9 l1.2.1 l2.1) (by omega))) rfl,
    fun σ W g h hb=>fun ρ o ho _ hv=>⟨_,D7 true ho ((A0 hv).1.trans (h 6 rfl)) (A0 hv).2 (decide_eq_true ((crw_cmp a b c d).2 h1)),rfl⟩,
    trivial⟩ fun τ W g h=>⟨rfl,g⟩
 · skip
   rw [I1 h1]
   refine A6 B6 Tryz.func110 [sHs a b,sHs c d] [jT (lna a b) (lnb a b) (lnc a b),jT (lna c d) (lnb c d) (lnc c d),sR (lna a b*lnb c d),sR (lnb a b*lna c d),sZ (M0 (lna a b*lnb c d) (lnb a b*lna c d)),sV (.bool false)] (.cons Ha (.cons Hb .nil)) (rs:=[cl 2 166 [ag 12 0],cl 3 166 [ag 12 1],cl 4 44 [ag 2 2,.v true [.an 3 2,.an 3 3]],cl 5 44 [.v true [.an 2 2,.an 2 3],ag 2 3],cl 6 43 [ag 2 4,ag 2 5],co 7 (.binOp .eql 3 (.tmp 29) (.const (.int .i64 0)) 3) 4 [on 6,.v false [.lit (.int .i64 0)]] [0,1,2,3,4,5,6] []]) (out := .v false [.lit (.bool false)]) (nc:=8) (by kernel_rfl)
    ⟨fun σ W g h hb=>iU (M4 W _ a b E (h 0 rfl) (by omega) ba bb),
    fun σ W g h hb=>iU (M4 W _ c d E (h 1 rfl) (by omega) bc bd),
    fun σ W g h hb=>C0 W _ _ _ _ (E+E+1) (jV (h 2 rfl)) (jU (h 3 rfl)) (by omega) l1.1 l2.2.1,
    fun σ W g h hb=>C0 W _ _ _ _ (E+E+1) (jU (h 2 rfl)) (jV (h 3 rfl)) (by omega) l1.2.1 l2.1,
    fun σ W g h hb=>toZ (F9 W _ _ _ _ (h 4 rfl) (h 5 rfl) (dp6 (A9 l1.1 l2.2.1) (by omega)) (dp6 (A9 l1.2.1 l2.1) (by omega))) rfl,
    fun σ W g h hb=>fun ρ o ho _ hv=>⟨_,D7 false ho ((A0 hv).1.trans (h 6 rfl)) (A0 hv).2 (decide_eq_false (fun q=>h1 ((crw_cmp a b c d).1 q))),rfl⟩,
    trivial⟩ fun τ W g h=>⟨rfl,g⟩
theorem sgn_lt {z:Int} : z.sign<0 ↔ z<0:=by rcases S5 z with ⟨h,e⟩ | ⟨h,e⟩ | ⟨h,e⟩<;>omega
theorem U2 (w:World) (va vb:Value) (a b c d:H3) (E:Nat) (Ha:HsV w va a b) (Hb:HsV w vb c d) (hE : 1<=E/\E<=100) (ba:HB E a) (bb:HB E b) (bc:HB E c) (bd:HB E d) :
 Calls Tryz.prog 111 #[va,vb] w (RetH w (crp a b c d)):=by
 have l1:=ba.line bb
 have l2:=bc.line bd
 by_cases h1:crw a b c d<0
 · skip
   unfold crp
   rw [if_pos h1]
   refine A6 B6 Tryz.func111 [sHs a b,sHs c d] [jT (lna a b) (lnb a b) (lnc a b),jT (lna c d) (lnb c d) (lnc c d),sR (lna a b*lnb c d),sR (lnb a b*lna c d),sR (crw a b c d),sR (lnc a b*lnb c d),sR (lnb a b*lnc c d),sR (crx a b c d),sR (lna a b*lnc c d),sR (lnc a b*lna c d),sR (cry a b c d),sV (.bool true),sR (-crx a b c d),sR (-cry a b c d),sR (-crw a b c d)] (.cons Ha (.cons Hb .nil)) (rs:=[cl 2 166 [ag 12 0],cl 3 166 [ag 12 1],cl 4 44 [ag 2 2,.v true [.an 3 2,.an 3 3]],cl 5 44 [.v true [.an 2 2,.an 2 3],ag 2 3],cl 6 140 [ag 2 4,ag 2 5],cl 7 44 [.v true [.an 2 4,.an 2 5],.v true [.an 3 2,.an 3 3]],cl 8 44 [.v true [.an 2 2,.an 2 3],.v true [.an 3 4,.an 3 5]],cl 9 140 [ag 2 7,ag 2 8],cl 10 44 [ag 2 2,.v true [.an 3 4,.an 3 5]],cl 11 44 [.v true [.an 2 4,.an 2 5],ag 2 3],cl 12 140 [ag 2 10,ag 2 11],co 13 (.binOp .lss 3 (.tmp 48) (.const (.int .i64 0)) 3) 4 [on 6,.v false [.lit (.int .i64 0)]] [0,1,2,3,4,5,6,7,8,9,10,11,12] [],cl 14 167 [ag 2 9],cl 15 167 [ag 2 12],cl 16 167 [ag 2 6]]) (out := .v true [.an 14 0,.an 14 1,.an 15 0,.an 15 1,.an 16 0,.an 16 1]) (nc:=17) (by kernel_rfl)
    ⟨fun σ W g h hb=>iU (M4 W _ a b E (h 0 rfl) (by omega) ba bb),
    fun σ W g h hb=>iU (M4 W _ c d E (h 1 rfl) (by omega) bc bd),
    fun σ W g h hb=>C0 W _ _ _ _ (E+E+1) (jV (h 2 rfl)) (jU (h 3 rfl)) (by omega) l1.1 l2.2.1,
    fun σ W g h hb=>C0 W _ _ _ _ (E+E+1) (jU (h 2 rfl)) (jV (h 3 rfl)) (by omega) l1.2.1 l2.1,
    fun σ W g h hb=>J8 W _ _ _ _ (E+E+1+(E+E+1)) (h 4 rfl) (h 5 rfl) (by omega) (A9 l1.1 l2.2.1) (A9 l1.2.1 l2.1),
    fun σ W g h hb=>C0 W _ _ _ _ (E+E+1) (rrr3 (h 2 rfl)) (jU (h 3 rfl)) (by omega) l1.2.2 l2.2.1,
    fun σ W g h hb=>C0 W _ _ _ _ (E+E+1) (jU (h 2 rfl)) (rrr3 (h 3 rfl)) (by omega) l1.2.1 l2.2.2,
    fun σ W g h hb=>J8 W _ _ _ _ (E+E+1+(E+E+1)) (h 7 rfl) (h 8 rfl) (by omega) (A9 l1.2.2 l2.2.1) (A9 l1.2.1 l2.2.2),
    fun σ W g h hb=>C0 W _ _ _ _ (E+E+1) (jV (h 2 rfl)) (rrr3 (h 3 rfl)) (by omega) l1.1 l2.2.2,
    fun σ W g h hb=>C0 W _ _ _ _ (E+E+1) (rrr3 (h 2 rfl)) (jV (h 3 rfl)) (by omega) l1.2.2 l2.1,
    fun σ W g h hb=>J8 W _ _ _ _ (E+E+1+(E+E+1)) (h 10 rfl) (h 11 rfl) (by omega) (A9 l1.1 l2.2.2) (A9 l1.2.2 l2.1),
    fun σ W g h hb=>fun ρ o ho _ hv=>⟨_,P8 true ho ((A0 hv).1.trans (rs1 (h 6 rfl))) (A0 hv).2 (decide_eq_true (sgn_lt.2 h1)),rfl⟩,
    fun σ W g h hb=>bC W _ _ (h 9 rfl),
    fun σ W g h hb=>bC W _ _ (h 12 rfl),
    fun σ W g h hb=>bC W _ _ (h 6 rfl),
    trivial⟩ fun τ W g h=>⟨_,rfl,mkh (h 14 rfl) (h 15 rfl) (h 16 rfl),g⟩
 · skip
   unfold crp
   rw [if_neg h1]
   refine A6 B6 Tryz.func111 [sHs a b,sHs c d] [jT (lna a b) (lnb a b) (lnc a b),jT (lna c d) (lnb c d) (lnc c d),sR (lna a b*lnb c d),sR (lnb a b*lna c d),sR (crw a b c d),sR (lnc a b*lnb c d),sR (lnb a b*lnc c d),sR (crx a b c d),sR (lna a b*lnc c d),sR (lnc a b*lna c d),sR (cry a b c d),sV (.bool false)] (.cons Ha (.cons Hb .nil)) (rs:=[cl 2 166 [ag 12 0],cl 3 166 [ag 12 1],cl 4 44 [ag 2 2,.v true [.an 3 2,.an 3 3]],cl 5 44 [.v true [.an 2 2,.an 2 3],ag 2 3],cl 6 140 [ag 2 4,ag 2 5],cl 7 44 [.v true [.an 2 4,.an 2 5],.v true [.an 3 2,.an 3 3]],cl 8 44 [.v true [.an 2 2,.an 2 3],.v true [.an 3 4,.an 3 5]],cl 9 140 [ag 2 7,ag 2 8],cl 10 44 [ag 2 2,.v true [.an 3 4,.an 3 5]],cl 11 44 [.v true [.an 2 4,.an 2 5],ag 2 3],cl 12 140 [ag 2 10,ag 2 11],co 13 (.binOp .lss 3 (.tmp 48) (.const (.int .i64 0)) 3) 4 [on 6,.v false [.lit (.int .i64 0)]] [0,1,2,3,4,5,6,7,8,9,10,11,12] []]) (out := .v true [.an 9 0,.an 9 1,.an 12 0,.an 12 1,.an 6 0,.an 6 1]) (nc:=14) (by kernel_rfl)
    ⟨fun σ W g h hb=>iU (M4 W _ a b E (h 0 rfl) (by omega) ba bb),
    fun σ W g h hb=>iU (M4 W _ c d E (h 1 rfl) (by omega) bc bd),
    fun σ W g h hb=>C0 W _ _ _ _ (E+E+1) (jV (h 2 rfl)) (jU (h 3 rfl)) (by omega) l1.1 l2.2.1,
    fun σ W g h hb=>C0 W _ _ _ _ (E+E+1) (jU (h 2 rfl)) (jV (h 3 rfl)) (by omega) l1.2.1 l2.1,
    fun σ W g h hb=>J8 W _ _ _ _ (E+E+1+(E+E+1)) (h 4 rfl) (h 5 rfl) (by omega) (A9 l1.1 l2.2.1) (A9 l1.2.1 l2.1),
    fun σ W g h hb=>C0 W _ _ _ _ (E+E+1) (rrr3 (h 2 rfl)) (jU (h 3 rfl)) (by omega) l1.2.2 l2.2.1,
    fun σ W g h hb=>C0 W _ _ _ _ (E+E+1) (jU (h 2 rfl)) (rrr3 (h 3 rfl)) (by omega) l1.2.1 l2.2.2,
    fun σ W g h hb=>J8 W _ _ _ _ (E+E+1+(E+E+1)) (h 7 rfl) (h 8 rfl) (by omega) (A9 l1.2.2 l2.2.1) (A9 l1.2.1 l2.2.2),
    fun σ W g h hb=>C0 W _ _ _ _ (E+E+1) (jV (h 2 rfl)) (rrr3 (h 3 rfl)) (by omega) l1.1 l2.2.2,
    fun σ W g h hb=>C0 W _ _ _ _ (E+E+1) (rrr3 (h 2 rfl)) (jV (h 3 rfl)) (by omega) l1.2.2 l2.1,
    fun σ W g h hb=>J8 W _ _ _ _ (E+E+1+(E+E+1)) (h 10 rfl) (h 11 rfl) (by omega) (A9 l1.1 l2.2.2) (A9 l1.2.2 l2.1),
    fun σ W g h hb=>fun ρ o ho _ hv=>⟨_,P8 false ho ((A0 hv).1.trans (rs1 (h 6 rfl))) (A0 hv).2 (decide_eq_false (fun q=>h1 (sgn_lt.1 q))),rfl⟩,
    trivial⟩ fun τ W g h=>⟨_,rfl,mkh (h 9 rfl) (h 12 rfl) (h 6 rfl),g⟩
def Z4 (w:World) (E:Nat) (L:List Pq) (e:Ending) (w':World):Prop:=∃ l:List H3,RetHr w l e w'/\l.map rp=L /\ ∀ p ∈ l,HB E p/\0<p.z
theorem hl_nil {w w':World} {E:Nat} (g:w.grownBy w' none):Z4 w E [] (.returned (.slice none 0 0)) w':=⟨[],⟨_,rfl,hr_nil _,g,fp_nil⟩,rfl,fun p hp=>by cases hp⟩
theorem mM {w w':World} {E b n c:Nat} {cs:Array Value} {a0 a1 a2 a3 a4 a5:Value} {p:H3} {q:Pq} (hl:w.heap.size<=b) (g:w.grownBy w' none) (hb:w'.heap[b]?=some (.cells cs 34 (0,0))) (hn:n=1) (hc:n<=c) (h0:cs[0]?=some a0) (h1:cs[1]?=some a1) (h2:cs[2]?=some a2) (h3:cs[3]?=some a3) (h4:cs[4]?=some a4) (h5:cs[5]?=some a5)
 (hp:HV w' (.agg #[a0,a1,a2,a3,a4,a5]) p) (he:rp p=q) (hB:HB E p) (hz : 0<p.z):Z4 w E [q] (.returned (.slice (some ⟨b,0,none⟩) n c)) w':=
 ⟨[p],⟨_,rfl,hr_one hb hn hc h0 h1 h2 h3 h4 h5 hp,g,fp_new hl⟩,by rw [<- he];rfl,fun x hx=>by
   obtain rfl:x=p:=by simpa using hx
   exact ⟨hB,hz⟩⟩
theorem rX {w w':World} {E b:Nat} {a0 a1 a2 a3 a4 a5 c0 c1 c2 c3 c4 c5:Value} {p q:H3} {P Q:Pq} (hl:w.heap.size<=b) (g:w.grownBy w' none) (hb:w'.heap[b]?=some (.cells #[a0,a1,a2,a3,a4,a5,c0,c1,c2,c3,c4,c5] 34 (0,0))) (hp:HV w' (.agg #[a0,a1,a2,a3,a4,a5]) p) (hq:HV w' (.agg #[c0,c1,c2,c3,c4,c5]) q)
 (hP:rp p=P) (hQ:rp q=Q) (bp:HB E p) (bq:HB E q) (zp : 0<p.z) (zq : 0<q.z):Z4 w E [P,Q] (.returned (.slice (some ⟨b,0,none⟩) 2 2)) w':=
 ⟨[p,q],⟨_,rfl,hr_two hb hp hq,g,fp_new hl⟩,by rw [<- hP, <- hQ];rfl,fun x hx=>by
   rcases List.mem_cons.1 hx with rfl | hx
   · exact ⟨bp,zp⟩
   · obtain rfl:x=q:=by simpa using hx
     exact ⟨bq,zq⟩⟩
theorem rFNeg_any (w:World) (va:Value) (n d:Int) (Ha:RF w va n d) :
 Calls Tryz.prog 186 #[va] w (oA w (-n) d):=by
 refine A6 B6 Tryz.func186 [sRF n d] [sR (-n)] (.cons Ha .nil) (rs:=[cl 1 167 [ag 2 0]]) (out := .v true [.an 1 0,.an 1 1,.an 0 2,.an 0 3]) (nc:=2) (by kernel_rfl)
  ⟨fun σ W g h hb=>bC W _ n (rn (h 0 rfl)),
  trivial⟩ fun τ W g h=>⟨_,rfl,jZ (h 1 rfl) (rd (h 0 rfl)),g⟩
theorem rFSub_any (w:World) (va vb:Value) (n d m e:Int) (Ha:RF w va n d) (Hb:RF w vb m e) (E:Nat) (hE:E<=400000) (l1:n.natAbs<D^E) (l2:d.natAbs<D^E) (l3:m.natAbs<D^E) (l4:e.natAbs<D^E) :
 Calls Tryz.prog 141 #[va,vb] w (fun x w'=>∃ v,x = .returned v/\RF w' v (if d=e then n + -m else n*e + -m*d) (if d=e then d else d*e)/\w.grownBy w' none):=by
 refine A6 B6 Tryz.func141 [sRF n d,sRF m e] [sRF (-m) e,sRF (if d=e then n + -m else n*e + -m*d) (if d=e then d else d*e)] (.cons Ha (.cons Hb .nil)) (rs:=[cl 2 186 [ag 4 1],cl 3 142 [ag 4 0,ag 4 2]]) (out:=ag 4 3) (nc:=4) (by kernel_rfl)
  ⟨fun σ W g h hb=>rFNeg_any W _ m e (h 1 rfl),
  fun σ W g h hb=>pG W _ _ n d (-m) e (h 0 rfl) (h 2 rfl) E hE l1 l2 (L6 l3) l4,
  trivial⟩ fun τ W g h=>⟨_,rfl,h 3 rfl,g⟩
theorem RQ.eq {w:World} {v:Value} {r t:Rat} {E:Nat} (e:r=t) (h:RQ w v t E):RQ w v r E:=e ▸ h
section
variable (w:World) (va vb:Value) (r t:Rat) (E:Nat) (Ha:RQ w va r E) (Hb:RQ w vb t E) (hE:E<=200000)
include Ha
include Hb hE
end
theorem quo_c {a b c:Rat} (hb:b≠0) (hc:c≠0):a*c / (b*c)=a / b:=by
 have hd:b*c≠0:=fun e=>by
  rcases Rat.mul_eq_zero.1 e with e | e
  · exact hb e
  · exact hc e
 have key:a*c=a / b*(b*c):=by
  have h:a / b*b=a:=Rat.div_mul_cancel hb
  generalize a / b=u at *
  rw [<- h];grind
 rw [key];exact Rat.mul_div_cancel hd
abbrev F2:=Int × Int
def dW (p q:F2):F2:=if p.2=q.2 then (p.1+q.1,p.2) else (p.1*q.2+q.1*p.2,p.2*q.2)
def fneg (p:F2):F2:=(-p.1,p.2)
def aX (p q:F2):F2:=(p.1*q.1,p.2*q.2)
def fv (p:F2):Rat:=Rat.divInt p.1 p.2
def FB (E:Nat) (p:F2):Prop:=0<p.2/\p.1.natAbs<D^E/\p.2.natAbs<D^E
theorem fadd1 (p q:F2):(dW p q).1=if p.2=q.2 then p.1+q.1 else p.1*q.2+q.1*p.2:=by unfold dW;split<;>rfl
theorem fadd2 (p q:F2):(dW p q).2=if p.2=q.2 then p.2 else p.2*q.2:=by unfold dW;split<;>rfl
theorem FB.add {E M:Nat} {p q:F2} (hp:FB E p) (hq:FB M q):FB (E+M+1) (dW p q)/\fv (dW p q)=fv p+fv q:=by
 obtain ⟨p0,p1,p2⟩:=hp
 obtain ⟨q0,q1,q2⟩:=hq
 unfold dW
 split
 · rename_i h
   exact ⟨⟨p0,dpw (L7 (dpw p1 (show E<=E+M by omega)) (dpw q1 (show M<=E+M by omega))) (by omega),dpw p2 (by omega)⟩,rq_add1 p0 rfl (by rw [h];rfl)⟩
 · exact ⟨⟨Int.mul_pos p0 q0,L7 (A9 p1 q2) (dpw (A9 q1 p2) (by omega)),dpw (A9 p2 q2) (by omega)⟩,rq_add p0 q0 rfl rfl⟩
theorem FB.neg {E:Nat} {p:F2} (hp:FB E p):FB E (fneg p)/\fv (fneg p) = - fv p:=⟨⟨hp.1,L6 hp.2.1,hp.2.2⟩,rq_neg rfl⟩
theorem FB.mul {E M:Nat} {p q:F2} (hp:FB E p) (hq:FB M q):FB (E+M) (aX p q)/\fv (aX p q)=fv p*fv q:=
 ⟨⟨Int.mul_pos hp.1 hq.1,A9 hp.2.1 hq.2.1,A9 hp.2.2 hq.2.2⟩,rq_mul rfl rfl⟩
theorem FB.mono {E M:Nat} {p:F2} (h:FB E p) (hE:E<=M):FB M p:=⟨h.1,dpw h.2.1 hE,dpw h.2.2 hE⟩
theorem iR (w:World) (va vb:Value) (p q:F2) (E:Nat) (Ha:RF w va p.1 p.2) (Hb:RF w vb q.1 q.2) (hE:E<=100000) (hp:FB E p) (hq:FB E q) :
 Calls Tryz.prog 141 #[va,vb] w (oA w (dW p (fneg q)).1 (dW p (fneg q)).2):=
 (rFSub_any w va vb p.1 p.2 q.1 q.2 Ha Hb E (by omega) hp.2.1 hp.2.2 hq.2.1 hq.2.2).mono fun _ _ ⟨v,e,h,g⟩=>⟨v,e,by rw [fadd1,fadd2];exact h,g⟩
theorem F2Add_any (w:World) (va vb:Value) (p q:F2) (E:Nat) (Ha:RF w va p.1 p.2) (Hb:RF w vb q.1 q.2) (hE:E<=100000) (hp:FB E p) (hq:FB E q) :
 Calls Tryz.prog 142 #[va,vb] w (oA w (dW p q).1 (dW p q).2):=
 (pG w va vb p.1 p.2 q.1 q.2 Ha Hb E (by omega) hp.2.1 hp.2.2 hq.2.1 hq.2.2).mono fun _ _ ⟨v,e,h,g⟩=>⟨v,e,by rw [fadd1,fadd2];exact h,g⟩
theorem dE (w:World) (va vb:Value) (p q:F2) (E:Nat) (Ha:RF w va p.1 p.2) (Hb:RF w vb q.1 q.2) (hE:E<=100000) (hp:FB E p) (hq:FB E q) :
 Calls Tryz.prog 96 #[va,vb] w (oA w (aX p q).1 (aX p q).2):=
 rFMul_any w va vb p.1 p.2 q.1 q.2 Ha Hb E (by omega) hp.2.1 hp.2.2 hq.2.1 hq.2.2
def sdx (a b:H3):F2:=dW (b.x,b.z) (fneg (a.x,a.z))
def sdy (a b:H3):F2:=dW (b.y,b.z) (fneg (a.y,a.z))
def stX (a b:H3) (p:F2):F2:=dW ((N2 a b).x,(N2 a b).z) (fneg (aX p (sdy a b)))
def stY (a b:H3) (p:F2):F2:=dW ((N2 a b).y,(N2 a b).z) (aX p (sdx a b))
def K0 (a b:H3) (p:F2):H3:=⟨(stX a b p).1*(stY a b p).2,(stY a b p).1*(stX a b p).2,(stX a b p).2*(stY a b p).2⟩
theorem HB.fx {E:Nat} {a:H3} (h:HB E a) (z : 0<a.z):FB E (a.x,a.z)/\FB E (a.y,a.z):=⟨⟨z,h.1,h.2.2⟩,z,h.2.1,h.2.2⟩
theorem sdx_b {E:Nat} {a b:H3} (ha:HB E a) (hb:HB E b) (za : 0<a.z) (zb : 0<b.z):FB (2*E+1) (sdx a b)/\fv (sdx a b)=(rp b).1-(rp a).1:=by
 have h:=(hb.fx zb).1.add ((ha.fx za).1.neg).1
 exact ⟨h.1.mono (by omega),h.2.trans (by rw [((ha.fx za).1.neg).2,Rat.sub_eq_add_neg];rfl)⟩
theorem sdy_b {E:Nat} {a b:H3} (ha:HB E a) (hb:HB E b) (za : 0<a.z) (zb : 0<b.z):FB (2*E+1) (sdy a b)/\fv (sdy a b)=(rp b).2-(rp a).2:=by
 have h:=(hb.fx zb).2.add ((ha.fx za).2.neg).1
 exact ⟨h.1.mono (by omega),h.2.trans (by rw [((ha.fx za).2.neg).2,Rat.sub_eq_add_neg];rfl)⟩
theorem stX_b {E M:Nat} {a b:H3} {p:F2} (hE : 1<=E) (ha:HB E a) (hb:HB E b) (za : 0<a.z) (zb : 0<b.z) (hp:FB M p):FB (M+4*E+4) (stX a b p)/\fv (stX a b p)=(B2 (rp a) (rp b)).1+fv p*((rp a).2-(rp b).2):=by
 have hm:=(((ha.mid hb hE).fx (P9 za zb)).1)
 have hd:=sdy_b ha hb za zb
 have hq:=hp.mul hd.1
 have h:=hm.add hq.1.neg.1
 refine ⟨h.1.mono (by omega),h.2.trans ?_⟩
 rw [hq.1.neg.2,hq.2,hd.2, <- aI za zb]
 show (rp (N2 a b)).1+_=_
 grind
theorem stY_b {E M:Nat} {a b:H3} {p:F2} (hE : 1<=E) (ha:HB E a) (hb:HB E b) (za : 0<a.z) (zb : 0<b.z) (hp:FB M p):FB (M+4*E+4) (stY a b p)/\fv (stY a b p)=(B2 (rp a) (rp b)).2+fv p*((rp b).1-(rp a).1):=by
 have hm:=(((ha.mid hb hE).fx (P9 za zb)).2)
 have hd:=sdx_b ha hb za zb
 have hq:=hp.mul hd.1
 have h:=hm.add hq.1
 refine ⟨h.1.mono (by omega),h.2.trans ?_⟩
 rw [hq.2,hd.2, <- aI za zb]
 rfl
theorem cO {E M:Nat} {a b:H3} {p:F2} (hE : 1<=E) (ha:HB E a) (hb:HB E b) (za : 0<a.z) (zb : 0<b.z) (hp:FB M p):HB (2*M+8*E+8) (K0 a b p)/\0<(K0 a b p).z/\rp (K0 a b p)=stp (rp a) (rp b) (fv p):=by
 have hx:=stX_b hE ha hb za zb hp
 have hy:=stY_b hE ha hb za zb hp
 refine ⟨⟨dpw (A9 hx.1.2.1 hy.1.2.2) (by omega),dpw (A9 hy.1.2.1 hx.1.2.2) (by omega),dpw (A9 hx.1.2.2 hy.1.2.2) (by omega)⟩,Int.mul_pos hx.1.1 hy.1.1, ?_⟩
 have h1:=hz hx.1.1
 have h2:=hz hy.1.1
 unfold stp nrm
 refine Prod.ext ?_ ?_
 · rw [<- hx.2]
   unfold rp K0 fv
   simp only [jW,Rat.intCast_mul]
   exact quo_c h1 h2
 · rw [<- hy.2]
   unfold rp K0 fv
   simp only [jW,Rat.intCast_mul]
   rw [Rat.mul_comm ((stX a b p).2:Rat)]
   exact quo_c h2 h1
theorem rHStep_any (w:World) (va vb:Value) (a b:H3) (p:F2) (E M:Nat) (Ha:HsV w va a b) (Hb:RF w vb p.1 p.2) (hE : 1<=E/\E<=4000) (hM:M<=4000) (ba:HB E a) (bb:HB E b) (za : 0<a.z) (zb : 0<b.z) (hp:FB M p) :
 Calls Tryz.prog 94 #[va,vb] w (RetH w (K0 a b p)):=by
 have bm:=ba.mid bb hE.1
 have hX:=(stX_b hE.1 ba bb za zb hp).1
 have hY:=(stY_b hE.1 ba bb za zb hp).1
 refine A6 B6 Tryz.func94 [sHs a b,sRF p.1 p.2] [sH (N2 a b),sRF (sdx a b).1 (sdx a b).2,sRF (sdy a b).1 (sdy a b).2,sRF (aX p (sdy a b)).1 (aX p (sdy a b)).2,sRF (stX a b p).1 (stX a b p).2,sRF (aX p (sdx a b)).1 (aX p (sdx a b)).2,sRF (stY a b p).1 (stY a b p).2,sR ((stX a b p).1*(stY a b p).2),sR ((stY a b p).1*(stX a b p).2),sR ((stX a b p).2*(stY a b p).2)] (.cons Ha (.cons Hb .nil)) (rs:=[cl 2 45 [ag 12 0],cl 3 141 [.v true [.an 0 6,.an 0 7,.an 0 10,.an 0 11],.v true [.an 0 0,.an 0 1,.an 0 4,.an 0 5]],cl 4 141 [.v true [.an 0 8,.an 0 9,.an 0 10,.an 0 11],.v true [.an 0 2,.an 0 3,.an 0 4,.an 0 5]],cl 5 96 [ag 4 1,ag 4 4],cl 6 141 [.v true [.an 2 0,.an 2 1,.an 2 4,.an 2 5],ag 4 5],cl 7 96 [ag 4 1,ag 4 3],cl 8 142 [.v true [.an 2 2,.an 2 3,.an 2 4,.an 2 5],ag 4 7],cl 9 89 [ag 2 6,.v true [.an 8 2,.an 8 3]],cl 10 89 [ag 2 8,.v true [.an 6 2,.an 6 3]],cl 11 89 [.v true [.an 6 2,.an 6 3],.v true [.an 8 2,.an 8 3]]]) (out := .v true [.an 9 0,.an 9 1,.an 10 0,.an 10 1,.an 11 0,.an 11 1]) (nc:=12) (by kernel_rfl)
  ⟨fun σ W g h hb=>cF W _ a b E (h 0 rfl) (by omega) ba bb,
  fun σ W g h hb=>iR W _ _ (b.x,b.z) (a.x,a.z) E (jZ (h31 (hs2 (h 0 rfl))) (h33 (hs2 (h 0 rfl)))) (jZ (h31 (hs1 (h 0 rfl))) (h33 (hs1 (h 0 rfl)))) (by omega) (bb.fx zb).1 (ba.fx za).1,
  fun σ W g h hb=>iR W _ _ (b.y,b.z) (a.y,a.z) E (jZ (h32 (hs2 (h 0 rfl))) (h33 (hs2 (h 0 rfl)))) (jZ (h32 (hs1 (h 0 rfl))) (h33 (hs1 (h 0 rfl)))) (by omega) (bb.fx zb).2 (ba.fx za).2,
  fun σ W g h hb=>dE W _ _ p (sdy a b) (M+4*E+4) (h 1 rfl) (h 4 rfl) (by omega) (hp.mono (by omega)) ((sdy_b ba bb za zb).1.mono (by omega)),
  fun σ W g h hb=>iR W _ _ ((N2 a b).x,(N2 a b).z) (aX p (sdy a b)) (M+4*E+4) (jZ (h31 (h 2 rfl)) (h33 (h 2 rfl))) (h 5 rfl) (by omega) ((bm.fx (P9 za zb)).1.mono (by omega)) ((hp.mul (sdy_b ba bb za zb).1).1.mono (by omega)),
  fun σ W g h hb=>dE W _ _ p (sdx a b) (M+4*E+4) (h 1 rfl) (h 3 rfl) (by omega) (hp.mono (by omega)) ((sdx_b ba bb za zb).1.mono (by omega)),
  fun σ W g h hb=>F2Add_any W _ _ ((N2 a b).y,(N2 a b).z) (aX p (sdx a b)) (M+4*E+4) (jZ (h32 (h 2 rfl)) (h33 (h 2 rfl))) (h 7 rfl) (by omega) ((bm.fx (P9 za zb)).2.mono (by omega)) ((hp.mul (sdx_b ba bb za zb).1).1.mono (by omega)),
  fun σ W g h hb=>C6 W _ _ _ _ (rn (h 6 rfl)) (rd (h 8 rfl)) (dp6 hX.2.1 (by omega)) (dp6 hY.2.2 (by omega)),
  fun σ W g h hb=>C6 W _ _ _ _ (rn (h 8 rfl)) (rd (h 6 rfl)) (dp6 hY.2.1 (by omega)) (dp6 hX.2.2 (by omega)),
  fun σ W g h hb=>C6 W _ _ _ _ (rd (h 6 rfl)) (rd (h 8 rfl)) (dp6 hX.2.2 (by omega)) (dp6 hY.2.2 (by omega)),
  trivial⟩ fun τ W g h=>⟨_,rfl,mkh (h 9 rfl) (h 10 rfl) (h 11 rfl),g⟩
end Go.Proofs.YtamdnbbgpacfkaaGreatDoor
