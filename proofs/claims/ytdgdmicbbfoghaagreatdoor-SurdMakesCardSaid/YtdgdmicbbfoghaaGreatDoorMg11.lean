/- What the laws lean on, part 11. -/
import Derived.Below
import Derived.BigCall
import Derived.BigQuiet
import Derived.BigRegion
import Derived.Deep.AppendLies
import Derived.Deep.CutBlock
import Derived.Deep.CutRange
import Derived.Deep.DeepCutAuto
import Derived.Deep.LoopGhost
import Derived.Deep.MidRow
import Derived.Deep.QuietTactic
import Derived.Deep.RegionHeld3
import Derived.Deep.WholeRow
import Derived.Laws.AppendOwn
import Derived.Laws.CopyOwn
import Derived.Laws.Externs
import Derived.Laws.IdiomStrings
import Derived.Lib.BitFns
import Derived.Lib.Bytealg
import Derived.Lib.Hide
import Derived.Lib.Slices
import Derived.Lib.Small
import Derived.Lib.Strings
import Derived.Lib.Walk
import Derived.LoopN
import Derived.OrdersHeld
import Derived.OrdersIn
import Derived.Outline
import Derived.OwnWalk
import Derived.RangeFuncCalls
import Derived.RangeFuncNested
import Derived.RangeFuncOwn
import Derived.Shelf.Bits.Mul64
import Derived.Shelf.Spec.TrailingZeros
import Derived.StillTailTactics
import Derived.WalkKit
import Derived.WalkLawsBesides
import Derived.WalkSpells
import Derived.Test.YtdgdmicbbfoghaaGreatDoorProg
import Derived.Test.YtdgdmicbbfoghaaGreatDoorMg10
set_option linter.unusedVariables false
set_option linter.unusedSimpArgs false
set_option maxRecDepth 100000
namespace Go.Proofs.YtdgdmicbbfoghaaGreatDoor
open Go.RowKit Mat Ex
def TwoV (w:World) (v:Value) (x y:Int):Prop:=∃ (s:Option Addr) (xs:List Nat) (b:Bool) (s':Option Addr) (xs':List Nat) (b':Bool),v = .agg #[.slice s xs.length xs.length,.bool b,.slice s' xs'.length xs'.length,.bool b']/\IntV w (.agg #[.slice s xs.length xs.length,.bool b]) x/\IntV w (.agg #[.slice s' xs'.length xs'.length,.bool b']) y
theorem TwoV.kept {w w':World} {v:Value} {x y:Int} (h:TwoV w v x y) (hg:w.grownBy w' none):TwoV w' v x y:=by
 obtain ⟨s,xs,b,s',xs',b',e,h1,h2⟩:=h
 exact ⟨s,xs,b,s',xs',b',e,h1.kept hg,h2.kept hg⟩
def RetTwo (w:World) (x y:Int) (e:Ending) (w':World):Prop:=∃ v,e = .returned v/\TwoV w' v x y/\w.grownBy w' none
def nA (w:World) (z:Int) (e:Ending) (w':World):Prop:=e = .returned (.int .i64 z)/\w.grownBy w' none
theorem G3 {x y:Int} {K L:Nat} (hx:x.natAbs<B^K) (hy:y.natAbs<B^L):(x*y).natAbs<B^(K+L):=jX hx hy
theorem aP {x y:Int} {K:Nat} (hx:x.natAbs<B^K) (hy:y.natAbs<B^K):(x+y).natAbs<B^(K+1):=Nat.lt_of_le_of_lt (Int.natAbs_add_le x y) (by
 rw [Nat.pow_succ]
 have:=D6
 have : 2<=B:=by decide
 have:=Nat.mul_le_mul_left (B^K) this
 omega)
theorem ssub_bd {x y:Int} {K:Nat} (hx:x.natAbs<B^K) (hy:y.natAbs<B^K):(x-y).natAbs<B^(K+1):=by
 rw [Int.sub_eq_add_neg];exact aP hx (by rw [Int.natAbs_neg];exact hy)
theorem D2 {a K M:Nat} (h:a<B^K) (hK:K<=M):a<B^M:=Nat.lt_of_lt_of_le h (Nat.pow_le_pow_right D6 hK)
theorem zcmp_sign (x y:Int):J8 x y=(x-y).sign:=by
 unfold J8
 rcases Int.lt_trichotomy x y with h | h | h
 · rw [if_pos h];exact (Int.sign_eq_neg_one_of_neg (by omega)).symm
 · rw [if_neg (by omega),if_pos h,show x-y=0 by omega];rfl
 · rw [if_neg (by omega),if_neg (by omega)];exact (Int.sign_eq_one_of_pos (by omega)).symm
def One3 (x:Int):Prop:=x = -1\/x=0\/x=1
theorem H4 (x:Int):One3 x.sign:=by
 rcases Int.lt_trichotomy x 0 with h | h | h
 · exact Or.inl (Int.sign_eq_neg_one_of_neg h)
 · right;left;rw [h];rfl
 · right;right;exact Int.sign_eq_one_of_pos h
theorem One3.mul {x y:Int} (hx:One3 x) (hy:One3 y):One3 (x*y):=by
 rcases hx with rfl | rfl | rfl<;>rcases hy with rfl | rfl | rfl<;>simp [One3]
theorem sos_one3 {x y z:Int} (hx:One3 x) (hy:One3 y) (hz:One3 z):One3 (sos x y z):=by
 unfold sos;split
 · exact hy
 · split
   · exact hx
   · exact hx.mul hz
set_option maxHeartbeats 8000000 in
theorem wC (w:World) (p q:Nat) (x y z:Int) (hx:One3 x) (hy:One3 y) (hz:One3 z) (HC:∀ W,w.grownBy W none->Calls Tryz.prog 110 #[.pointer (some ⟨p,0,none⟩),.pointer (some ⟨q,0,none⟩)] W (nA W z)) :
 Calls Tryz.prog 52 #[.int .i64 x,.int .i64 y,.func (.func 110) #[] #[.pointer (some ⟨p,0,none⟩),.pointer (some ⟨q,0,none⟩)]] w (nA w (sos x y z)):=by
 have HZ:=Lib.hid hz
 have HC2:Hid (∀ W,w.grownBy W none->Calls Tryz.prog 110 #[.pointer (some ⟨p,0,none⟩),.pointer (some ⟨q,0,none⟩)] W (nA W z)):=HC
 clear hz HC
 have hG:w.grownBy w none:=A9 _ _
 by_cases h0:x=0
 · have e:sos x y z=y:=by unfold sos;rw [if_pos h0]
   have f1:(x == 0)=true:=by rw [h0];rfl
   rw [e];clear e h0 hx hy
   go_enter Tryz.func52,Tryz.ntmps52
   go_wp2_with fail
   go_ret
   exact ⟨rfl,hG⟩
 · have f1:(x == 0)=false:=beq_eq_false_iff_ne.2 h0
   by_cases h1:y=0
   · have e:sos x y z=x:=by unfold sos;rw [if_neg h0,if_pos (Or.inl h1)]
     have f2:(y == 0)=true:=by rw [h1];rfl
     rw [e];clear e h0 h1 hx hy
     go_enter Tryz.func52,Tryz.ntmps52
     go_wp2_with fail
     go_ret
     exact ⟨rfl,hG⟩
   · have f2:(y == 0)=false:=beq_eq_false_iff_ne.2 h1
     by_cases h2:x=y
     · have e:sos x y z=x:=by unfold sos;rw [if_neg h0,if_pos (Or.inr h2)]
       have f3:(x == y)=true:=by rw [h2];exact beq_self_eq_true y
       rw [e];clear e h0 h1 h2 hx hy
       go_enter Tryz.func52,Tryz.ntmps52
       go_wp2_with fail
       go_ret
       exact ⟨rfl,hG⟩
     · have f3:(x == y)=false:=beq_eq_false_iff_ne.2 h2
       have HE:Hid (sos x y z=x*z):=Lib.hid (by unfold sos;rw [if_neg h0,if_neg (by intro h;rcases h with h | h;exact h1 h;exact h2 h)])
       have HX:Hid (-1<=x/\x<=1):=Lib.hid (by rcases hx with h | h | h<;>omega)
       have HW:Hid (IntKind.i64.wrap (x*z)=x*z):=Lib.hid (by
        rcases hx with rfl | rfl | rfl<;>rcases HZ.out with h | h | h<;>rw [h]<;>rfl)
       clear h0 h1 h2 hx hy
       go_enter Tryz.func52,Tryz.ntmps52
       go_wp2_with fail
       refine (HC2.out w hG).mono ?_
       rintro e w1 ⟨rfl,g1⟩
       have hW:=HW.out
       go_wp2_with fail
       go_ret
       exact ⟨by first | rfl | (rw [HE.out];first | rfl | (rw [hW])),g1⟩
set_option maxHeartbeats 8000000 in
theorem wB (w:World) (p q r:Nat) (x y z:Int) (hx:One3 x) (hy:One3 y) (hz:One3 z) (HC:∀ W,w.grownBy W none->Calls Tryz.prog 54 #[.pointer (some ⟨p,0,none⟩),.pointer (some ⟨q,0,none⟩),.pointer (some ⟨r,0,none⟩)] W (nA W z)) :
 Calls Tryz.prog 52 #[.int .i64 x,.int .i64 y,.func (.func 54) #[] #[.pointer (some ⟨p,0,none⟩),.pointer (some ⟨q,0,none⟩),.pointer (some ⟨r,0,none⟩)]] w (nA w (sos x y z)):=by
 have HZ:=Lib.hid hz
 have HC2:Hid (∀ W,w.grownBy W none->Calls Tryz.prog 54 #[.pointer (some ⟨p,0,none⟩),.pointer (some ⟨q,0,none⟩),.pointer (some ⟨r,0,none⟩)] W (nA W z)):=HC
 clear hz HC
 have hG:w.grownBy w none:=A9 _ _
 by_cases h0:x=0
 · have e:sos x y z=y:=by unfold sos;rw [if_pos h0]
   have f1:(x == 0)=true:=by rw [h0];rfl
   rw [e];clear e h0 hx hy
   go_enter Tryz.func52,Tryz.ntmps52
   go_wp2_with fail
   go_ret
   exact ⟨rfl,hG⟩
 · have f1:(x == 0)=false:=beq_eq_false_iff_ne.2 h0
   by_cases h1:y=0
   · have e:sos x y z=x:=by unfold sos;rw [if_neg h0,if_pos (Or.inl h1)]
     have f2:(y == 0)=true:=by rw [h1];rfl
     rw [e];clear e h0 h1 hx hy
     go_enter Tryz.func52,Tryz.ntmps52
     go_wp2_with fail
     go_ret
     exact ⟨rfl,hG⟩
   · have f2:(y == 0)=false:=beq_eq_false_iff_ne.2 h1
     by_cases h2:x=y
     · have e:sos x y z=x:=by unfold sos;rw [if_neg h0,if_pos (Or.inr h2)]
       have f3:(x == y)=true:=by rw [h2];exact beq_self_eq_true y
       rw [e];clear e h0 h1 h2 hx hy
       go_enter Tryz.func52,Tryz.ntmps52
       go_wp2_with fail
       go_ret
       exact ⟨rfl,hG⟩
     · have f3:(x == y)=false:=beq_eq_false_iff_ne.2 h2
       have HE:Hid (sos x y z=x*z):=Lib.hid (by unfold sos;rw [if_neg h0,if_neg (by intro h;rcases h with h | h;exact h1 h;exact h2 h)])
       have HX:Hid (-1<=x/\x<=1):=Lib.hid (by rcases hx with h | h | h<;>omega)
       have HW:Hid (IntKind.i64.wrap (x*z)=x*z):=Lib.hid (by
        rcases hx with rfl | rfl | rfl<;>rcases HZ.out with h | h | h<;>rw [h]<;>rfl)
       clear h0 h1 h2 hx hy
       go_enter Tryz.func52,Tryz.ntmps52
       go_wp2_with fail
       refine (HC2.out w hG).mono ?_
       rintro e w1 ⟨rfl,g1⟩
       have hW:=HW.out
       go_wp2_with fail
       go_ret
       exact ⟨by first | rfl | (rw [HE.out];first | rfl | (rw [hW])),g1⟩
theorem TwoV.zero (w:World):TwoV w (.agg #[.slice none 0 0,.bool false,.slice none 0 0,.bool false]) 0 0:=⟨none,[],false,none,[],false,rfl,IntV.zero w,IntV.zero w⟩
def PartsV (w:World) (v:Value) (a b c d:Rat):Prop:=∃ (sa:Option Addr) (xa:List Nat) (ba:Bool) (sa':Option Addr) (xa':List Nat) (ba':Bool) (sb:Option Addr) (xb:List Nat) (bb:Bool) (sb':Option Addr) (xb':List Nat) (bb':Bool) (sc:Option Addr) (xc:List Nat) (bc:Bool) (sc':Option Addr) (xc':List Nat) (bc':Bool) (sd:Option Addr) (xd:List Nat) (bd:Bool) (sd':Option Addr) (xd':List Nat) (bd':Bool),v = .agg #[.slice sa xa.length xa.length,.bool ba,.slice sa' xa'.length xa'.length,.bool ba',.slice sb xb.length xb.length,.bool bb,.slice sb' xb'.length xb'.length,.bool bb',.slice sc xc.length xc.length,.bool bc,.slice sc' xc'.length xc'.length,.bool bc',.slice sd xd.length xd.length,.bool bd,.slice sd' xd'.length xd'.length,.bool bd']/\RatV w (.agg #[.slice sa xa.length xa.length,.bool ba,.slice sa' xa'.length xa'.length,.bool ba']) a/\RatV w (.agg #[.slice sb xb.length xb.length,.bool bb,.slice sb' xb'.length xb'.length,.bool bb']) b/\RatV w (.agg #[.slice sc xc.length xc.length,.bool bc,.slice sc' xc'.length xc'.length,.bool bc']) c/\RatV w (.agg #[.slice sd xd.length xd.length,.bool bd,.slice sd' xd'.length xd'.length,.bool bd']) d
def RetParts (w:World) (a b c d:Rat) (e:Ending) (w':World):Prop:=∃ v,e = .returned v/\PartsV w' v a b c d/\w.grownBy w' none
def SurdV (w:World) (v:Value) (m n:Int) (a b c d:Rat):Prop:=∃ (sf:Option Addr) (xf:List Nat) (bf:Bool) (sf':Option Addr) (xf':List Nat) (bf':Bool) (sa:Option Addr) (xa:List Nat) (ba:Bool) (sa':Option Addr) (xa':List Nat) (ba':Bool) (sb:Option Addr) (xb:List Nat) (bb:Bool) (sb':Option Addr) (xb':List Nat) (bb':Bool) (sc:Option Addr) (xc:List Nat) (bc:Bool) (sc':Option Addr) (xc':List Nat) (bc':Bool) (sd:Option Addr) (xd:List Nat) (bd:Bool) (sd':Option Addr) (xd':List Nat) (bd':Bool),v = .agg #[.slice sf xf.length xf.length,.bool bf,.slice sf' xf'.length xf'.length,.bool bf',.slice sa xa.length xa.length,.bool ba,.slice sa' xa'.length xa'.length,.bool ba',.slice sb xb.length xb.length,.bool bb,.slice sb' xb'.length xb'.length,.bool bb',.slice sc xc.length xc.length,.bool bc,.slice sc' xc'.length xc'.length,.bool bc',.slice sd xd.length xd.length,.bool bd,.slice sd' xd'.length xd'.length,.bool bd']/\TwoV w (.agg #[.slice sf xf.length xf.length,.bool bf,.slice sf' xf'.length xf'.length,.bool bf']) m n/\RatV w (.agg #[.slice sa xa.length xa.length,.bool ba,.slice sa' xa'.length xa'.length,.bool ba']) a/\RatV w (.agg #[.slice sb xb.length xb.length,.bool bb,.slice sb' xb'.length xb'.length,.bool bb']) b/\RatV w (.agg #[.slice sc xc.length xc.length,.bool bc,.slice sc' xc'.length xc'.length,.bool bc']) c/\RatV w (.agg #[.slice sd xd.length xd.length,.bool bd,.slice sd' xd'.length xd'.length,.bool bd']) d
theorem SurdV.kept {w w':World} {v:Value} {m n:Int} {a b c d:Rat} (h:SurdV w v m n a b c d) (hg:w.grownBy w' none):SurdV w' v m n a b c d:=by
 obtain ⟨sf,xf,bf,sf',xf',bf',sa,xa,ba,sa',xa',ba',sb,xb,bb,sb',xb',bb',sc,xc,bc,sc',xc',bc',sd,xd,bd,sd',xd',bd',e,h0,h1,h2,h3,h4⟩:=h
 exact ⟨_,_,_,_,_,_,_,_,_,_,_,_,_,_,_,_,_,_,_,_,_,_,_,_,_,_,_,_,_,_,e,h0.kept hg,h1.kept hg,h2.kept hg,h3.kept hg,h4.kept hg⟩
def RetSurd (w:World) (m n:Int) (a b c d:Rat) (e:Ending) (w':World):Prop:=∃ v,e = .returned v/\SurdV w' v m n a b c d/\w.grownBy w' none
def J5 (w:World) (m n:Int) (a b c d:Rat) (code:Int) (e:Ending) (w':World):Prop:=∃ v,e = .returned (.tuple #[v,.int .i64 code])/\SurdV w' v m n a b c d/\w.grownBy w' none
def Bd1 (K:Nat) (r:Rat):Prop:=r.num.natAbs<B^K/\r.den<B^K
theorem Bd1.mono {K M:Nat} {r:Rat} (h:Bd1 K r) (hK:K<=M):Bd1 M r:=⟨D2 h.1 hK,D2 h.2 hK⟩
theorem Bd1.neg {K:Nat} {r:Rat} (h:Bd1 K r):Bd1 K (-r):=⟨by rw [Rat.neg_num,Int.natAbs_neg];exact h.1,by rw [Rat.neg_den];exact h.2⟩
def RetInt2' (w:World) (n k:Int) (e:Ending) (w':World):Prop:=∃ v u,e = .returned (.tuple #[v,u])/\IntV w' v n/\IntV w' u k/\w.grownBy w' none
def IntsV (w:World) (v:Value) (z0 z1 z2 z3:Int):Prop:=∃ (sa:Option Addr) (xa:List Nat) (ba:Bool) (sb:Option Addr) (xb:List Nat) (bb:Bool) (sc:Option Addr) (xc:List Nat) (bc:Bool) (sd:Option Addr) (xd:List Nat) (bd:Bool),v = .agg #[.slice sa xa.length xa.length,.bool ba,.slice sb xb.length xb.length,.bool bb,.slice sc xc.length xc.length,.bool bc,.slice sd xd.length xd.length,.bool bd]/\IntV w (.agg #[.slice sa xa.length xa.length,.bool ba]) z0/\IntV w (.agg #[.slice sb xb.length xb.length,.bool bb]) z1/\IntV w (.agg #[.slice sc xc.length xc.length,.bool bc]) z2/\IntV w (.agg #[.slice sd xd.length xd.length,.bool bd]) z3
def RetInts (w:World) (z0 z1 z2 z3:Int) (e:Ending) (w':World):Prop:=∃ v,e = .returned v/\IntsV w' v z0 z1 z2 z3/\w.grownBy w' none
theorem TwoV.keeps {W W':World} {v:Value} {x y:Int} (h:TwoV W v x y) (k:Keeps L6 W W'):TwoV W' v x y:=by
 obtain ⟨s0,x0,b0,s1,x1,b1,e,h0,h1⟩:=h
 exact ⟨_,_,_,_,_,_,e,h0.keeps k,h1.keeps k⟩
def sTw (x y:Int):Sp := .of (.agg 4) (fun v W=>TwoV W v x y) (fun v W h=>by
 obtain ⟨s0,x0,b0,s1,x1,b1,rfl,_,_⟩:=h
 exact ⟨P5 [.slice s0 x0.length x0.length,.bool b0,.slice s1 x1.length x1.length,.bool b1],F4 (by simp [Value.oneCell']),rfl⟩) (fun v W W' k h=>h.keeps k)
theorem tw0 {W:World} {c0 c1 c2 c3:Value} {x y:Int} (h:TwoV W (.agg #[c0,c1,c2,c3]) x y):IntV W (.agg #[c0,c1]) x:=by
 obtain ⟨s0,x0,b0,s1,x1,b1,e,h0,h1⟩:=h;cases e;exact h0
theorem tw1 {W:World} {c0 c1 c2 c3:Value} {x y:Int} (h:TwoV W (.agg #[c0,c1,c2,c3]) x y):IntV W (.agg #[c2,c3]) y:=by
 obtain ⟨s0,x0,b0,s1,x1,b1,e,h0,h1⟩:=h;cases e;exact h1
theorem mktw {W:World} {c0 c1 c2 c3:Value} {x y:Int} (h0:IntV W (.agg #[c0,c1]) x) (h1:IntV W (.agg #[c2,c3]) y):TwoV W (.agg #[c0,c1,c2,c3]) x y:=by
 obtain ⟨s0,x0,b0,e0,p0,q0⟩:=h0
 obtain ⟨s1,x1,b1,e1,p1,q1⟩:=h1
 cases e0
 cases e1
 exact ⟨s0,x0,b0,s1,x1,b1,rfl,⟨s0,x0,b0,rfl,p0,q0⟩,⟨s1,x1,b1,rfl,p1,q1⟩⟩
theorem IntsV.keeps {W W':World} {v:Value} {z0 z1 z2 z3:Int} (h:IntsV W v z0 z1 z2 z3) (k:Keeps L6 W W'):IntsV W' v z0 z1 z2 z3:=by
 obtain ⟨s0,x0,b0,s1,x1,b1,s2,x2,b2,s3,x3,b3,e,h0,h1,h2,h3⟩:=h
 exact ⟨_,_,_,_,_,_,_,_,_,_,_,_,e,h0.keeps k,h1.keeps k,h2.keeps k,h3.keeps k⟩
def sIs (z0 z1 z2 z3:Int):Sp := .of (.agg 8) (fun v W=>IntsV W v z0 z1 z2 z3) (fun v W h=>by
 obtain ⟨s0,x0,b0,s1,x1,b1,s2,x2,b2,s3,x3,b3,rfl,_,_,_,_⟩:=h
 exact ⟨P5 [.slice s0 x0.length x0.length,.bool b0,.slice s1 x1.length x1.length,.bool b1,.slice s2 x2.length x2.length,.bool b2,.slice s3 x3.length x3.length,.bool b3],F4 (by simp [Value.oneCell']),rfl⟩) (fun v W W' k h=>h.keeps k)
theorem is0 {W:World} {c0 c1 c2 c3 c4 c5 c6 c7:Value} {z0 z1 z2 z3:Int} (h:IntsV W (.agg #[c0,c1,c2,c3,c4,c5,c6,c7]) z0 z1 z2 z3):IntV W (.agg #[c0,c1]) z0:=by
 obtain ⟨s0,x0,b0,s1,x1,b1,s2,x2,b2,s3,x3,b3,e,h0,h1,h2,h3⟩:=h;cases e;exact h0
theorem is1 {W:World} {c0 c1 c2 c3 c4 c5 c6 c7:Value} {z0 z1 z2 z3:Int} (h:IntsV W (.agg #[c0,c1,c2,c3,c4,c5,c6,c7]) z0 z1 z2 z3):IntV W (.agg #[c2,c3]) z1:=by
 obtain ⟨s0,x0,b0,s1,x1,b1,s2,x2,b2,s3,x3,b3,e,h0,h1,h2,h3⟩:=h;cases e;exact h1
theorem is2 {W:World} {c0 c1 c2 c3 c4 c5 c6 c7:Value} {z0 z1 z2 z3:Int} (h:IntsV W (.agg #[c0,c1,c2,c3,c4,c5,c6,c7]) z0 z1 z2 z3):IntV W (.agg #[c4,c5]) z2:=by
 obtain ⟨s0,x0,b0,s1,x1,b1,s2,x2,b2,s3,x3,b3,e,h0,h1,h2,h3⟩:=h;cases e;exact h2
theorem is3 {W:World} {c0 c1 c2 c3 c4 c5 c6 c7:Value} {z0 z1 z2 z3:Int} (h:IntsV W (.agg #[c0,c1,c2,c3,c4,c5,c6,c7]) z0 z1 z2 z3):IntV W (.agg #[c6,c7]) z3:=by
 obtain ⟨s0,x0,b0,s1,x1,b1,s2,x2,b2,s3,x3,b3,e,h0,h1,h2,h3⟩:=h;cases e;exact h3
theorem mkis {W:World} {c0 c1 c2 c3 c4 c5 c6 c7:Value} {z0 z1 z2 z3:Int} (h0:IntV W (.agg #[c0,c1]) z0) (h1:IntV W (.agg #[c2,c3]) z1) (h2:IntV W (.agg #[c4,c5]) z2) (h3:IntV W (.agg #[c6,c7]) z3):IntsV W (.agg #[c0,c1,c2,c3,c4,c5,c6,c7]) z0 z1 z2 z3:=by
 obtain ⟨s0,x0,b0,e0,p0,q0⟩:=h0
 obtain ⟨s1,x1,b1,e1,p1,q1⟩:=h1
 obtain ⟨s2,x2,b2,e2,p2,q2⟩:=h2
 obtain ⟨s3,x3,b3,e3,p3,q3⟩:=h3
 cases e0
 cases e1
 cases e2
 cases e3
 exact ⟨s0,x0,b0,s1,x1,b1,s2,x2,b2,s3,x3,b3,rfl,⟨s0,x0,b0,rfl,p0,q0⟩,⟨s1,x1,b1,rfl,p1,q1⟩,⟨s2,x2,b2,rfl,p2,q2⟩,⟨s3,x3,b3,rfl,p3,q3⟩⟩
theorem PartsV.keeps {W W':World} {v:Value} {a b c d:Rat} (h:PartsV W v a b c d) (k:Keeps L6 W W'):PartsV W' v a b c d:=by
 obtain ⟨s0,x0,b0,s1,x1,b1,s2,x2,b2,s3,x3,b3,s4,x4,b4,s5,x5,b5,s6,x6,b6,s7,x7,b7,e,h0,h1,h2,h3⟩:=h
 exact ⟨_,_,_,_,_,_,_,_,_,_,_,_,_,_,_,_,_,_,_,_,_,_,_,_,e,h0.keeps k,h1.keeps k,h2.keeps k,h3.keeps k⟩
def sPa (a b c d:Rat):Sp := .of (.agg 16) (fun v W=>PartsV W v a b c d) (fun v W h=>by
 obtain ⟨s0,x0,b0,s1,x1,b1,s2,x2,b2,s3,x3,b3,s4,x4,b4,s5,x5,b5,s6,x6,b6,s7,x7,b7,rfl,_,_,_,_⟩:=h
 exact ⟨P5 [.slice s0 x0.length x0.length,.bool b0,.slice s1 x1.length x1.length,.bool b1,.slice s2 x2.length x2.length,.bool b2,.slice s3 x3.length x3.length,.bool b3,.slice s4 x4.length x4.length,.bool b4,.slice s5 x5.length x5.length,.bool b5,.slice s6 x6.length x6.length,.bool b6,.slice s7 x7.length x7.length,.bool b7],F4 (by simp [Value.oneCell']),rfl⟩) (fun v W W' k h=>h.keeps k)
theorem pa0 {W:World} {c0 c1 c2 c3 c4 c5 c6 c7 c8 c9 c10 c11 c12 c13 c14 c15:Value} {a b c d:Rat} (h:PartsV W (.agg #[c0,c1,c2,c3,c4,c5,c6,c7,c8,c9,c10,c11,c12,c13,c14,c15]) a b c d):RatV W (.agg #[c0,c1,c2,c3]) a:=by
 obtain ⟨s0,x0,b0,s1,x1,b1,s2,x2,b2,s3,x3,b3,s4,x4,b4,s5,x5,b5,s6,x6,b6,s7,x7,b7,e,h0,h1,h2,h3⟩:=h;cases e;exact h0
theorem pa1 {W:World} {c0 c1 c2 c3 c4 c5 c6 c7 c8 c9 c10 c11 c12 c13 c14 c15:Value} {a b c d:Rat} (h:PartsV W (.agg #[c0,c1,c2,c3,c4,c5,c6,c7,c8,c9,c10,c11,c12,c13,c14,c15]) a b c d):RatV W (.agg #[c4,c5,c6,c7]) b:=by
 obtain ⟨s0,x0,b0,s1,x1,b1,s2,x2,b2,s3,x3,b3,s4,x4,b4,s5,x5,b5,s6,x6,b6,s7,x7,b7,e,h0,h1,h2,h3⟩:=h;cases e;exact h1
theorem pa2 {W:World} {c0 c1 c2 c3 c4 c5 c6 c7 c8 c9 c10 c11 c12 c13 c14 c15:Value} {a b c d:Rat} (h:PartsV W (.agg #[c0,c1,c2,c3,c4,c5,c6,c7,c8,c9,c10,c11,c12,c13,c14,c15]) a b c d):RatV W (.agg #[c8,c9,c10,c11]) c:=by
 obtain ⟨s0,x0,b0,s1,x1,b1,s2,x2,b2,s3,x3,b3,s4,x4,b4,s5,x5,b5,s6,x6,b6,s7,x7,b7,e,h0,h1,h2,h3⟩:=h;cases e;exact h2
theorem pa3 {W:World} {c0 c1 c2 c3 c4 c5 c6 c7 c8 c9 c10 c11 c12 c13 c14 c15:Value} {a b c d:Rat} (h:PartsV W (.agg #[c0,c1,c2,c3,c4,c5,c6,c7,c8,c9,c10,c11,c12,c13,c14,c15]) a b c d):RatV W (.agg #[c12,c13,c14,c15]) d:=by
 obtain ⟨s0,x0,b0,s1,x1,b1,s2,x2,b2,s3,x3,b3,s4,x4,b4,s5,x5,b5,s6,x6,b6,s7,x7,b7,e,h0,h1,h2,h3⟩:=h;cases e;exact h3
theorem mkpa {W:World} {c0 c1 c2 c3 c4 c5 c6 c7 c8 c9 c10 c11 c12 c13 c14 c15:Value} {a b c d:Rat} (h0:RatV W (.agg #[c0,c1,c2,c3]) a) (h1:RatV W (.agg #[c4,c5,c6,c7]) b) (h2:RatV W (.agg #[c8,c9,c10,c11]) c) (h3:RatV W (.agg #[c12,c13,c14,c15]) d):PartsV W (.agg #[c0,c1,c2,c3,c4,c5,c6,c7,c8,c9,c10,c11,c12,c13,c14,c15]) a b c d:=by
 obtain ⟨s0,x0,b0,s1,x1,b1,e0,p0,q0⟩:=h0
 obtain ⟨s2,x2,b2,s3,x3,b3,e1,p1,q1⟩:=h1
 obtain ⟨s4,x4,b4,s5,x5,b5,e2,p2,q2⟩:=h2
 obtain ⟨s6,x6,b6,s7,x7,b7,e3,p3,q3⟩:=h3
 cases e0
 cases e1
 cases e2
 cases e3
 exact ⟨s0,x0,b0,s1,x1,b1,s2,x2,b2,s3,x3,b3,s4,x4,b4,s5,x5,b5,s6,x6,b6,s7,x7,b7,rfl,⟨s0,x0,b0,s1,x1,b1,rfl,p0,q0⟩,⟨s2,x2,b2,s3,x3,b3,rfl,p1,q1⟩,⟨s4,x4,b4,s5,x5,b5,rfl,p2,q2⟩,⟨s6,x6,b6,s7,x7,b7,rfl,p3,q3⟩⟩
theorem SurdV.keeps {W W':World} {v:Value} {m n:Int} {a b c d:Rat} (h:SurdV W v m n a b c d) (k:Keeps L6 W W'):SurdV W' v m n a b c d:=by
 obtain ⟨s0,x0,b0,s1,x1,b1,s2,x2,b2,s3,x3,b3,s4,x4,b4,s5,x5,b5,s6,x6,b6,s7,x7,b7,s8,x8,b8,s9,x9,b9,e,h0,h1,h2,h3,h4⟩:=h
 exact ⟨_,_,_,_,_,_,_,_,_,_,_,_,_,_,_,_,_,_,_,_,_,_,_,_,_,_,_,_,_,_,e,h0.keeps k,h1.keeps k,h2.keeps k,h3.keeps k,h4.keeps k⟩
def sSd (m n:Int) (a b c d:Rat):Sp := .of (.agg 20) (fun v W=>SurdV W v m n a b c d) (fun v W h=>by
 obtain ⟨s0,x0,b0,s1,x1,b1,s2,x2,b2,s3,x3,b3,s4,x4,b4,s5,x5,b5,s6,x6,b6,s7,x7,b7,s8,x8,b8,s9,x9,b9,rfl,_,_,_,_,_⟩:=h
 exact ⟨P5 [.slice s0 x0.length x0.length,.bool b0,.slice s1 x1.length x1.length,.bool b1,.slice s2 x2.length x2.length,.bool b2,.slice s3 x3.length x3.length,.bool b3,.slice s4 x4.length x4.length,.bool b4,.slice s5 x5.length x5.length,.bool b5,.slice s6 x6.length x6.length,.bool b6,.slice s7 x7.length x7.length,.bool b7,.slice s8 x8.length x8.length,.bool b8,.slice s9 x9.length x9.length,.bool b9],F4 (by simp [Value.oneCell']),rfl⟩) (fun v W W' k h=>h.keeps k)
theorem sd0 {W:World} {c0 c1 c2 c3 c4 c5 c6 c7 c8 c9 c10 c11 c12 c13 c14 c15 c16 c17 c18 c19:Value} {m n:Int} {a b c d:Rat} (h:SurdV W (.agg #[c0,c1,c2,c3,c4,c5,c6,c7,c8,c9,c10,c11,c12,c13,c14,c15,c16,c17,c18,c19]) m n a b c d):TwoV W (.agg #[c0,c1,c2,c3]) m n:=by
 obtain ⟨s0,x0,b0,s1,x1,b1,s2,x2,b2,s3,x3,b3,s4,x4,b4,s5,x5,b5,s6,x6,b6,s7,x7,b7,s8,x8,b8,s9,x9,b9,e,h0,h1,h2,h3,h4⟩:=h;cases e;exact h0
theorem sd1 {W:World} {c0 c1 c2 c3 c4 c5 c6 c7 c8 c9 c10 c11 c12 c13 c14 c15 c16 c17 c18 c19:Value} {m n:Int} {a b c d:Rat} (h:SurdV W (.agg #[c0,c1,c2,c3,c4,c5,c6,c7,c8,c9,c10,c11,c12,c13,c14,c15,c16,c17,c18,c19]) m n a b c d):RatV W (.agg #[c4,c5,c6,c7]) a:=by
 obtain ⟨s0,x0,b0,s1,x1,b1,s2,x2,b2,s3,x3,b3,s4,x4,b4,s5,x5,b5,s6,x6,b6,s7,x7,b7,s8,x8,b8,s9,x9,b9,e,h0,h1,h2,h3,h4⟩:=h;cases e;exact h1
theorem sd2 {W:World} {c0 c1 c2 c3 c4 c5 c6 c7 c8 c9 c10 c11 c12 c13 c14 c15 c16 c17 c18 c19:Value} {m n:Int} {a b c d:Rat} (h:SurdV W (.agg #[c0,c1,c2,c3,c4,c5,c6,c7,c8,c9,c10,c11,c12,c13,c14,c15,c16,c17,c18,c19]) m n a b c d):RatV W (.agg #[c8,c9,c10,c11]) b:=by
 obtain ⟨s0,x0,b0,s1,x1,b1,s2,x2,b2,s3,x3,b3,s4,x4,b4,s5,x5,b5,s6,x6,b6,s7,x7,b7,s8,x8,b8,s9,x9,b9,e,h0,h1,h2,h3,h4⟩:=h;cases e;exact h2
theorem sd3 {W:World} {c0 c1 c2 c3 c4 c5 c6 c7 c8 c9 c10 c11 c12 c13 c14 c15 c16 c17 c18 c19:Value} {m n:Int} {a b c d:Rat} (h:SurdV W (.agg #[c0,c1,c2,c3,c4,c5,c6,c7,c8,c9,c10,c11,c12,c13,c14,c15,c16,c17,c18,c19]) m n a b c d):RatV W (.agg #[c12,c13,c14,c15]) c:=by
 obtain ⟨s0,x0,b0,s1,x1,b1,s2,x2,b2,s3,x3,b3,s4,x4,b4,s5,x5,b5,s6,x6,b6,s7,x7,b7,s8,x8,b8,s9,x9,b9,e,h0,h1,h2,h3,h4⟩:=h;cases e;exact h3
theorem sd4 {W:World} {c0 c1 c2 c3 c4 c5 c6 c7 c8 c9 c10 c11 c12 c13 c14 c15 c16 c17 c18 c19:Value} {m n:Int} {a b c d:Rat} (h:SurdV W (.agg #[c0,c1,c2,c3,c4,c5,c6,c7,c8,c9,c10,c11,c12,c13,c14,c15,c16,c17,c18,c19]) m n a b c d):RatV W (.agg #[c16,c17,c18,c19]) d:=by
 obtain ⟨s0,x0,b0,s1,x1,b1,s2,x2,b2,s3,x3,b3,s4,x4,b4,s5,x5,b5,s6,x6,b6,s7,x7,b7,s8,x8,b8,s9,x9,b9,e,h0,h1,h2,h3,h4⟩:=h;cases e;exact h4
theorem mksd {W:World} {c0 c1 c2 c3 c4 c5 c6 c7 c8 c9 c10 c11 c12 c13 c14 c15 c16 c17 c18 c19:Value} {m n:Int} {a b c d:Rat} (h0:TwoV W (.agg #[c0,c1,c2,c3]) m n) (h1:RatV W (.agg #[c4,c5,c6,c7]) a) (h2:RatV W (.agg #[c8,c9,c10,c11]) b) (h3:RatV W (.agg #[c12,c13,c14,c15]) c) (h4:RatV W (.agg #[c16,c17,c18,c19]) d):SurdV W (.agg #[c0,c1,c2,c3,c4,c5,c6,c7,c8,c9,c10,c11,c12,c13,c14,c15,c16,c17,c18,c19]) m n a b c d:=by
 obtain ⟨s0,x0,b0,s1,x1,b1,e0,p0,q0⟩:=h0
 obtain ⟨s2,x2,b2,s3,x3,b3,e1,p1,q1⟩:=h1
 obtain ⟨s4,x4,b4,s5,x5,b5,e2,p2,q2⟩:=h2
 obtain ⟨s6,x6,b6,s7,x7,b7,e3,p3,q3⟩:=h3
 obtain ⟨s8,x8,b8,s9,x9,b9,e4,p4,q4⟩:=h4
 cases e0
 cases e1
 cases e2
 cases e3
 cases e4
 exact ⟨s0,x0,b0,s1,x1,b1,s2,x2,b2,s3,x3,b3,s4,x4,b4,s5,x5,b5,s6,x6,b6,s7,x7,b7,s8,x8,b8,s9,x9,b9,rfl,⟨s0,x0,b0,s1,x1,b1,rfl,p0,q0⟩,⟨s2,x2,b2,s3,x3,b3,rfl,p1,q1⟩,⟨s4,x4,b4,s5,x5,b5,rfl,p2,q2⟩,⟨s6,x6,b6,s7,x7,b7,rfl,p3,q3⟩,⟨s8,x8,b8,s9,x9,b9,rfl,p4,q4⟩⟩
def oU (m n:Int) (a b c d:Rat) (e:Int):Sp := .of (.tup [(none,21),(some (.int .i64 e),0)]) (fun v W=>∃ u,v = .tuple #[u,.int .i64 e]/\SurdV W u m n a b c d) (fun v W h=>by
 obtain ⟨u,rfl,s0,x0,b0,s1,x1,b1,s2,x2,b2,s3,x3,b3,s4,x4,b4,s5,x5,b5,s6,x6,b6,s7,x7,b7,s8,x8,b8,s9,x9,b9,rfl,_⟩:=h
 exact X6 (u := .bool true) (cs:=[.slice s0 x0.length x0.length,.bool b0,.slice s1 x1.length x1.length,.bool b1,.slice s2 x2.length x2.length,.bool b2,.slice s3 x3.length x3.length,.bool b3,.slice s4 x4.length x4.length,.bool b4,.slice s5 x5.length x5.length,.bool b5,.slice s6 x6.length x6.length,.bool b6,.slice s7 x7.length x7.length,.bool b7,.slice s8 x8.length x8.length,.bool b8,.slice s9 x9.length x9.length,.bool b9]) (by simp [Value.oneCell']) rfl) (fun v W W' k h=>by obtain ⟨u,e,h⟩:=h;exact ⟨u,e,h.keeps k⟩)
theorem sdE {m n:Int} {r0 r1 r2 r3:Rat} {c:Int} {a b:Value} {W:World} : (oU m n r0 r1 r2 r3 c).F (.tuple #[a,b]) W->SurdV W a m n r0 r1 r2 r3:=by rintro ⟨u,e,h⟩;cases e;exact h
def sB (b:Bool):Sp:=sC (.bool b) rfl
section
variable {P:Program} {f:FuncId} {args:Array Value} {W:World}
theorem toZ' {z:Int} (h:Calls P f args W (nA W z)):Calls P f args W (Ret W (sZ z).F):=h.mono fun _ _ ⟨a,g⟩=>⟨_,a,rfl,g⟩
theorem lT {m n:Int} {r0 r1 r2 r3:Rat} {c:Int} (h:Calls P f args W (J5 W m n r0 r1 r2 r3 c)):Calls P f args W (Ret W (oU m n r0 r1 r2 r3 c).F):=h.mono fun _ _ ⟨v,a,h,g⟩=>⟨_,a,⟨v,rfl,h⟩,g⟩
end
theorem vN {w:World} {p q:Nat} {x y:Obj} (h:w.heap[p]?=some x) (h2:w.heap[q]?=some y) (n:x≠y):p≠q:=fun e=>n (by subst e;rw [h] at h2;exact Option.some.inj h2)
theorem wG (w:World) (p:Nat) (u0 u1 u2 u3:Value) (a:Rat) (K:Nat) (Bp:w.heap[p]?=some (.cells #[u0,u1,u2,u3] 30 (0,0))) (Ha:RatV w (.agg #[u0,u1,u2,u3]) a) (hK:K<=400000) (n0:Bd1 K a) :
 Calls Tryz.prog 149 #[.slice (some ⟨p,0,none⟩) 1 1,.int .i64 (-1)] w (bK w a):=by
 obtain ⟨s0,x0,b0,s1,x1,b1,e,h0,h1⟩:=Ha
 cases e
 exact P2 B5 Tryz.func149 [sQ a,sI a.num,sI (dn a)] 1 [.v false [.row 0 0 1 1],.v false [.lit (.int .i64 (-1))]] [(30,[.an 0 0,.an 0 1,.an 0 2,.an 0 3])] (rs:=[cl 1 47 [ag 2 0],cl 2 47 [.v true [.an 0 2,.an 0 3]]]) (out := .v true [.an 1 0,.an 1 1,.an 2 0,.an 2 1]) (nc:=3) (by kernel_rfl) w
  ⟨fun n=>match n with | 0=>P5 [.slice s0 x0.length x0.length,.bool b0,.slice s1 x1.length x1.length,.bool b1] | _=>fun _ => .bool false,fun b=>match b with | 0=>p | _=>0,fun _=>undef⟩
  (fun n c=>match n with
   | 0=>F4 (by simp [Value.oneCell']) c
   | _+1=>rfl)
  (fun b q hq=>match b,q,hq with
   | 0,_,rfl=>Bp
   | _+1,_,hq=>nomatch hq)
  (fun b c hb hc hq=>match b,c,hb,hc with
   | 0,0,_,_=>rfl
   | _+1,_,hb,_=>absurd hb (by simp)
   | _,_+1,_,hc=>absurd hc (by simp))
  (fun jn hn=>match jn,hn with
   | 0,_=>(⟨s0,x0,b0,s1,x1,b1,rfl,h0,h1⟩:RatV w _ a)
   | _+1,hn=>absurd hn (by omega))
  ⟨fun σ W g h hb=>K7 W _ _ K (qn (h 0 rfl)) (by omega) n0.1,
  fun σ W g h hb=>K7 W _ _ K (qd (h 0 rfl)) (by omega) (dn_bd n0.2),
  trivial⟩ _ fun τ W g h=>⟨_,rfl,mkq (h 1 rfl) (h 2 rfl),g⟩
theorem dF (w:World) (p:Nat) (u0 u1 u2 u3:Value) (a:Rat) (K:Nat) (Bp:w.heap[p]?=some (.cells #[u0,u1,u2,u3] 30 (0,0))) (Ha:RatV w (.agg #[u0,u1,u2,u3]) a) (hK:K<=400000) (n0:Bd1 K a) :
 Calls Tryz.prog 108 #[.slice (some ⟨p,0,none⟩) 1 1] w (bK w a):=by
 obtain ⟨s0,x0,b0,s1,x1,b1,e,h0,h1⟩:=Ha
 cases e
 exact P2 B5 Tryz.func108 [sQ a,sQ a] 1 [.v false [.row 0 0 1 1]] [(30,[.an 0 0,.an 0 1,.an 0 2,.an 0 3])] (rs:=[clb 1 149 [.v false [.row 0 0 1 1],.v false [.lit (.int .i64 (-1))]] [0] [(0,30,[.an 0 0,.an 0 1,.an 0 2,.an 0 3])]]) (out:=ag 4 1) (nc:=2) (by kernel_rfl) w
  ⟨fun n=>match n with | 0=>P5 [.slice s0 x0.length x0.length,.bool b0,.slice s1 x1.length x1.length,.bool b1] | _=>fun _ => .bool false,fun b=>match b with | 0=>p | _=>0,fun _=>undef⟩
  (fun n c=>match n with
   | 0=>F4 (by simp [Value.oneCell']) c
   | _+1=>rfl)
  (fun b q hq=>match b,q,hq with
   | 0,_,rfl=>Bp
   | _+1,_,hq=>nomatch hq)
  (fun b c hb hc hq=>match b,c,hb,hc with
   | 0,0,_,_=>rfl
   | _+1,_,hb,_=>absurd hb (by simp)
   | _,_+1,_,hc=>absurd hc (by simp))
  (fun jn hn=>match jn,hn with
   | 0,_=>(⟨s0,x0,b0,s1,x1,b1,rfl,h0,h1⟩:RatV w _ a)
   | _+1,hn=>absurd hn (by omega))
  ⟨fun σ W g h hb=>wG W _ _ _ _ _ a K (hb.1 _ (.head _)) (h 0 rfl) hK n0,
  trivial⟩ _ fun τ W g h=>⟨_,rfl,h 1 rfl,g⟩
theorem eZ (w:World) (va:Value) (r0 r1 r2 r3:Rat) (K:Nat) (h:PartsV w va r0 r1 r2 r3) (hK:K<=400000) (n0:Bd1 K r0) (n1:Bd1 K r1) (n2:Bd1 K r2) (n3:Bd1 K r3) :
 Calls Tryz.prog 50 #[va] w (RetParts w r0 r1 r2 r3):=by
 refine A6 B5 Tryz.func50 [sPa r0 r1 r2 r3] [sQ r0,sQ r1,sQ r2,sQ r3] (.cons h .nil) (rs:=[clb 1 108 [.v false [.row 3 0 1 1]] [0] [(3,30,[.an 0 0,.an 0 1,.an 0 2,.an 0 3])],clb 2 108 [.v false [.row 5 0 1 1]] [0,1] [(5,30,[.an 0 4,.an 0 5,.an 0 6,.an 0 7])],clb 3 108 [.v false [.row 7 0 1 1]] [0,1,2] [(7,30,[.an 0 8,.an 0 9,.an 0 10,.an 0 11])],clb 4 108 [.v false [.row 9 0 1 1]] [0,1,2,3] [(9,30,[.an 0 12,.an 0 13,.an 0 14,.an 0 15])]]) (out := .v true [.an 1 0,.an 1 1,.an 1 2,.an 1 3,.an 2 0,.an 2 1,.an 2 2,.an 2 3,.an 3 0,.an 3 1,.an 3 2,.an 3 3,.an 4 0,.an 4 1,.an 4 2,.an 4 3]) (nc:=5) (by kernel_rfl)
  ⟨fun σ W g h hb=>dF W _ _ _ _ _ r0 K (hb.1 _ (.head _)) (pa0 (h 0 rfl)) hK n0,
  fun σ W g h hb=>dF W _ _ _ _ _ r1 K (hb.1 _ (.head _)) (pa1 (h 0 rfl)) hK n1,
  fun σ W g h hb=>dF W _ _ _ _ _ r2 K (hb.1 _ (.head _)) (pa2 (h 0 rfl)) hK n2,
  fun σ W g h hb=>dF W _ _ _ _ _ r3 K (hb.1 _ (.head _)) (pa3 (h 0 rfl)) hK n3,
  trivial⟩ fun τ W g h=>⟨_,rfl,mkpa (h 1 rfl) (h 2 rfl) (h 3 rfl) (h 4 rfl),g⟩
theorem aM (w:World) (va:Value) (m n:Int) (K:Nat) (Ha:TwoV w va m n) (hK:K<=800000) (lu:m.natAbs<B^K) (lv:n.natAbs<B^K) :
 Calls Tryz.prog 49 #[va] w (RetTwo w m n):=by
 refine A6 B5 Tryz.func49 [sTw m n] [sI m,sI n] (.cons Ha .nil) (rs:=[cl 1 45 [ag 2 0,.v true [.lit (.slice none 0 0),.lit (.bool false)]],cl 2 45 [.v true [.an 0 2,.an 0 3],.v true [.lit (.slice none 0 0),.lit (.bool false)]]]) (out := .v true [.an 1 0,.an 1 1,.an 2 0,.an 2 1]) (nc:=3) (by kernel_rfl)
  ⟨fun σ W g h hb=>Int.add_zero m ▸ F6 W _ _ m 0 K (tw0 (h 0 rfl)) (IntV.zero W) (by omega) lu (Nat.pow_pos D6),
  fun σ W g h hb=>Int.add_zero n ▸ F6 W _ _ n 0 K (tw1 (h 0 rfl)) (IntV.zero W) (by omega) lv (Nat.pow_pos D6),
  trivial⟩ fun τ W g h=>⟨_,rfl,mktw (h 1 rfl) (h 2 rfl),g⟩
theorem hI (x:Int):J8 x x=0:=by unfold J8;rw [if_neg (by omega),if_pos rfl]
theorem zcmp_nz {x y:Int} (h:x≠y):J8 x y≠0:=by intro e;unfold J8 at e;split at e<;>(try split at e)<;>omega
theorem sA (w:World) (va vb:Value) (m n x y:Int) (K:Nat) (Ha:TwoV w va m n) (Hb:TwoV w vb x y) (hK:K<=800000) (lu:m.natAbs<B^K) (lv:n.natAbs<B^K) (lx:x.natAbs<B^K) (ly:y.natAbs<B^K) :
 Calls Tryz.prog 64 #[va,vb] w (RetB w (decide (m=x/\n=y))):=by
 rcases (show (m=x/\n=y)\/(m=x/\n≠y)\/m≠x by omega) with ⟨h1,h2⟩ | ⟨h1,h2⟩ | h1
 · skip
   rw [decide_eq_true ⟨h1,h2⟩]
   refine A6 B5 Tryz.func64 [sTw m n,sTw x y] [sV (.int .i64 0),sV (.int .i64 0)] (.cons Ha (.cons Hb .nil)) (rs:=[cl 2 18 [ag 2 0,ag 2 1],cl 3 18 [.v true [.an 0 2,.an 0 3],.v true [.an 1 2,.an 1 3]]]) (out := .v false [.lit (.bool true)]) (nc:=4) (by kernel_rfl)
    ⟨fun σ W g h hb=>toV (L8 W _ _ m x K (tw0 (h 0 rfl)) (tw0 (h 1 rfl)) (by omega) lu lx) (by rw [h1,hI]),
    fun σ W g h hb=>toV (L8 W _ _ n y K (tw1 (h 0 rfl)) (tw1 (h 1 rfl)) (by omega) lv ly) (by rw [h2,hI]),
    trivial⟩ fun τ W g h=>⟨rfl,g⟩
 · skip
   rw [decide_eq_false (fun q=>h2 q.2)]
   refine A6 B5 Tryz.func64 [sTw m n,sTw x y] [sV (.int .i64 0),sZ (J8 n y),sV (.bool false)] (.cons Ha (.cons Hb .nil)) (rs:=[cl 2 18 [ag 2 0,ag 2 1],cl 3 18 [.v true [.an 0 2,.an 0 3],.v true [.an 1 2,.an 1 3]],co 4 (.binOp .eql 3 (.tmp 16) (.const (.int .i64 0)) 3) 4 [on 3,.v false [.lit (.int .i64 0)]] [0,1,2,3] []]) (out := .v false [.lit (.bool false)]) (nc:=5) (by kernel_rfl)
    ⟨fun σ W g h hb=>toV (L8 W _ _ m x K (tw0 (h 0 rfl)) (tw0 (h 1 rfl)) (by omega) lu lx) (by rw [h1,hI]),
    fun σ W g h hb=>(L8 W _ _ n y K (tw1 (h 0 rfl)) (tw1 (h 1 rfl)) (by omega) lv ly).mono fun _ _ ⟨a,g⟩=>⟨_,a,rfl,g⟩,
    fun σ W g h hb=>fun ρ o ho _ hv=>⟨_,A5 ho ((A0 hv).1.trans (h 3 rfl)) (A0 hv).2 rfl,congrArg Value.bool (beq_eq_false_iff_ne.2 (zcmp_nz h2))⟩,
    trivial⟩ fun τ W g h=>⟨rfl,g⟩
 · skip
   rw [decide_eq_false (fun q=>h1 q.1)]
   refine A6 B5 Tryz.func64 [sTw m n,sTw x y] [sZ (J8 m x),sV (.bool false)] (.cons Ha (.cons Hb .nil)) (rs:=[cl 2 18 [ag 2 0,ag 2 1],co 3 (.binOp .eql 3 (.tmp 9) (.const (.int .i64 0)) 3) 4 [on 2,.v false [.lit (.int .i64 0)]] [0,1,2] []]) (out := .v false [.lit (.bool false)]) (nc:=4) (by kernel_rfl)
    ⟨fun σ W g h hb=>(L8 W _ _ m x K (tw0 (h 0 rfl)) (tw0 (h 1 rfl)) (by omega) lu lx).mono fun _ _ ⟨a,g⟩=>⟨_,a,rfl,g⟩,
    fun σ W g h hb=>fun ρ o ho _ hv=>⟨_,A5 ho ((A0 hv).1.trans (h 2 rfl)) (A0 hv).2 rfl,congrArg Value.bool (beq_eq_false_iff_ne.2 (zcmp_nz h1))⟩,
    trivial⟩ fun τ W g h=>⟨rfl,g⟩
theorem cF (w:World) (va:Value) (m n:Int) (K:Nat) (Ha:TwoV w va m n) (hK:K<=300000) (lm:m.natAbs<B^K) (ln:n.natAbs<B^K) :
 Calls Tryz.prog 65 #[va] w (RetInts w 1 m n (m*n)):=by
 refine A6 B5 Tryz.func65 [sTw m n] [sI 1,sI (m*n)] (.cons Ha .nil) (rs:=[cl 1 10 [.v false [.lit (.int .i64 1)]],cl 2 38 [ag 2 0,.v true [.an 0 2,.an 0 3]]]) (out := .v true [.an 1 0,.an 1 1,.an 0 0,.an 0 1,.an 0 2,.an 0 3,.an 2 0,.an 2 1]) (nc:=3) (by kernel_rfl)
  ⟨fun σ W g h hb=>B8 W 1 (by omega) (by omega),
  fun σ W g h hb=>F2 W _ _ m n K (tw0 (h 0 rfl)) (tw1 (h 0 rfl)) (by omega) lm ln,
  trivial⟩ fun τ W g h=>⟨_,rfl,mkis (h 1 rfl) (tw0 (h 0 rfl)) (tw1 (h 0 rfl)) (h 2 rfl),g⟩
theorem tG {t:TypeId} {a b:Int} (ha:One3 a) (hb:One3 b):binOp .mul t (.int .i64 a) (.int .i64 b) = .pure (.int .i64 (a*b)):=by
 rcases ha with rfl | rfl | rfl<;>rcases hb with rfl | rfl | rfl<;>rfl
theorem arg3 {P:Program} {f:FuncId} {a b c d e:Value} {w:World} {R:Ending->World->Prop} (h:a=b) (h2:c=d) (k:Calls P f #[b,d,e] w R):Calls P f #[a,c,e] w R:=by subst h;subst h2;exact k
theorem rZ (w:World) (p q:Nat) (u0 u1 u2 u3 m0 m1:Value) (u v m:Int) (K:Nat) (Bp:w.heap[p]?=some (.cells #[u0,u1,u2,u3] 98 (0,0))) (Bq:w.heap[q]?=some (.cells #[m0,m1] 28 (0,0))) (Ha:TwoV w (.agg #[u0,u1,u2,u3]) u v) (Hm:IntV w (.agg #[m0,m1]) m) (hK:K<=200000) (lu:u.natAbs<B^K) (lv:v.natAbs<B^K) (lm:m.natAbs<B^K) :
 Calls Tryz.prog 110 #[.pointer (some ⟨p,0,none⟩),.pointer (some ⟨q,0,none⟩)] w (nA w (u*u-v*v*m).sign):=by
 obtain ⟨s0,x0,b0,s1,x1,b1,e,h0,h1⟩:=Ha
 cases e
 obtain ⟨s2,x2,b2,e,p2,q2⟩:=Hm
 cases e
 rw [<- zcmp_sign]
 have ne01:p≠q:=vN Bp Bq (by simp)
 exact P2 B5 Tryz.func110 [sTw u v,sI m,sI (u*u),sI (v*v),sI (v*v*m),sZ (J8 (u*u) (v*v*m))] 2 [.v false [.ptr 0 0],.v false [.ptr 1 0]] [(98,[.an 0 0,.an 0 1,.an 0 2,.an 0 3]),(28,[.an 1 0,.an 1 1])] (rs:=[cl 2 38 [ag 2 0,ag 2 0],cl 3 38 [.v true [.an 0 2,.an 0 3],.v true [.an 0 2,.an 0 3]],cl 4 38 [ag 2 3,ag 2 1],cl 5 18 [ag 2 2,ag 2 4]]) (out:=on 5) (nc:=6) (by kernel_rfl) w
  ⟨fun n=>match n with | 0=>P5 [.slice s0 x0.length x0.length,.bool b0,.slice s1 x1.length x1.length,.bool b1] | 1=>P5 [.slice s2 x2.length x2.length,.bool b2] | _=>fun _ => .bool false,fun b=>match b with | 0=>p | 1=>q | _=>0,fun _=>undef⟩
  (fun n c=>match n with
   | 0=>F4 (by simp [Value.oneCell']) c
   | 1=>F4 (by simp [Value.oneCell']) c
   | _+2=>rfl)
  (fun b q hq=>match b,q,hq with
   | 0,_,rfl=>Bp
   | 1,_,rfl=>Bq
   | _+2,_,hq=>nomatch hq)
  (fun b c hb hc hq=>match b,c,hb,hc with
   | 0,0,_,_=>rfl
   | 0,1,_,_=>absurd hq ne01
   | 1,0,_,_=>absurd hq (Ne.symm ne01)
   | 1,1,_,_=>rfl
   | _+2,_,hb,_=>absurd hb (by simp)
   | _,_+2,_,hc=>absurd hc (by simp))
  (fun jn hn=>match jn,hn with
   | 0,_=>(⟨s0,x0,b0,s1,x1,b1,rfl,h0,h1⟩:TwoV w _ u v)
   | 1,_=>(⟨s2,x2,b2,rfl,p2,q2⟩:IntV w _ m)
   | _+2,hn=>absurd hn (by omega))
  ⟨fun σ W g h hb=>F2 W _ _ u u K (tw0 (h 0 rfl)) (tw0 (h 0 rfl)) (by omega) lu lu,
  fun σ W g h hb=>F2 W _ _ v v K (tw1 (h 0 rfl)) (tw1 (h 0 rfl)) (by omega) lv lv,
  fun σ W g h hb=>F2 W _ _ (v*v) m (K+K) (h 3 rfl) (h 1 rfl) (by omega) (G3 lv lv) (D2 lm (by omega)),
  fun σ W g h hb=>(L8 W _ _ (u*u) (v*v*m) (K+K+K) (h 2 rfl) (h 4 rfl) (by omega) (D2 (G3 lu lu) (by omega)) (G3 (G3 lv lv) lm)).mono fun _ _ ⟨a,g⟩=>⟨_,a,rfl,g⟩,
  trivial⟩ _ fun τ W g h=>⟨congrArg Ending.returned (h 5 rfl),g⟩
theorem dD (w:World) (va vm:Value) (u v m:Int) (K:Nat) (Ha:TwoV w va u v) (Hm:IntV w vm m) (hK:K<=200000) (lu:u.natAbs<B^K) (lv:v.natAbs<B^K) (lm:m.natAbs<B^K) :
 Calls Tryz.prog 53 #[va,vm] w (nA w (sos u.sign (v.sign*m.sign) (u*u-v*v*m).sign)):=by
 refine A6 B5 Tryz.func53 [sTw u v,sI m] [sZ u.sign,sZ v.sign,sZ m.sign,sZ (v.sign*m.sign),sZ (sos u.sign (v.sign*m.sign) (u*u-v*v*m).sign)] (.cons Ha (.cons Hm .nil)) (rs:=[cl 2 46 [ag 2 0],cl 3 46 [.v true [.an 0 2,.an 0 3]],cl 4 46 [ag 2 1],co 5 (.binOp .mul 3 (.tmp 10) (.tmp 12) 3) 3 [on 3,on 4] [0,1,2,3,4] [],clb 6 52 [on 2,on 5,.fn 110 [.ptr 0 0,.ptr 1 0]] [0,1,2,3,4,5] [(0,98,[.an 0 0,.an 0 1,.an 0 2,.an 0 3]),(1,28,[.an 1 0,.an 1 1])]]) (out:=on 6) (nc:=7) (by kernel_rfl)
  ⟨fun σ W g h hb=>(D5 W _ u K (tw0 (h 0 rfl)) (by omega) lu).mono fun _ _ ⟨a,g⟩=>⟨_,a,rfl,g⟩,
  fun σ W g h hb=>(D5 W _ v K (tw1 (h 0 rfl)) (by omega) lv).mono fun _ _ ⟨a,g⟩=>⟨_,a,rfl,g⟩,
  fun σ W g h hb=>(D5 W _ m K (h 1 rfl) (by omega) lm).mono fun _ _ ⟨a,g⟩=>⟨_,a,rfl,g⟩,
  fun σ W g h hb=>fun ρ o ho _ hv=>⟨_,A5 ho ((A0 hv).1.trans (h 3 rfl)) ((A0 hv).2.trans (h 4 rfl)) (tG (H4 v) (H4 m)),rfl⟩,
  fun σ W g h hb=>(arg3 (h 2 rfl) (h 5 rfl) (wC W _ _ _ _ _ (H4 u) ((H4 v).mul (H4 m)) (H4 _) fun W2 g2=>rZ W2 _ _ _ _ _ _ _ _ u v m K (A1 g2 (hb.1 _ (.head _))) (A1 g2 (hb.1 _ (.tail _ (.head _)))) ((show TwoV W (.agg #[_,_,_,_]) u v from h 0 rfl).kept g2) (IntV.kept (h 1 rfl) g2) hK lu lv lm)).mono fun _ _ ⟨a,g⟩=>⟨_,a,rfl,g⟩,
  trivial⟩ fun τ W g h=>⟨congrArg Ending.returned (h 6 rfl),g⟩
theorem eW (w:World) (va vm:Value) (u v m:Int) (K:Nat) (Ha:TwoV w va u v) (Hm:IntV w vm m) (hK:K<=200000) (lu:u.natAbs<B^K) (lv:v.natAbs<B^K) (lm:m.natAbs<B^K) :
 Calls Tryz.prog 55 #[va,vm] w (RetTwo w (u*u+v*v*m) (u*v+u*v)):=by
 refine A6 B5 Tryz.func55 [sTw u v,sI m] [sI (u*v),sI (u*u),sI (v*v),sI (v*v*m),sI (u*u+v*v*m),sI (u*v+u*v)] (.cons Ha (.cons Hm .nil)) (rs:=[cl 2 38 [ag 2 0,.v true [.an 0 2,.an 0 3]],cl 3 38 [ag 2 0,ag 2 0],cl 4 38 [.v true [.an 0 2,.an 0 3],.v true [.an 0 2,.an 0 3]],cl 5 38 [ag 2 4,ag 2 1],cl 6 45 [ag 2 3,ag 2 5],cl 7 45 [ag 2 2,ag 2 2]]) (out := .v true [.an 6 0,.an 6 1,.an 7 0,.an 7 1]) (nc:=8) (by kernel_rfl)
  ⟨fun σ W g h hb=>F2 W _ _ u v K (tw0 (h 0 rfl)) (tw1 (h 0 rfl)) (by omega) lu lv,
  fun σ W g h hb=>F2 W _ _ u u K (tw0 (h 0 rfl)) (tw0 (h 0 rfl)) (by omega) lu lu,
  fun σ W g h hb=>F2 W _ _ v v K (tw1 (h 0 rfl)) (tw1 (h 0 rfl)) (by omega) lv lv,
  fun σ W g h hb=>F2 W _ _ (v*v) m (K+K) (h 4 rfl) (h 1 rfl) (by omega) (G3 lv lv) (D2 lm (by omega)),
  fun σ W g h hb=>F6 W _ _ (u*u) (v*v*m) (K+K+K) (h 3 rfl) (h 5 rfl) (by omega) (D2 (G3 lu lu) (by omega)) (G3 (G3 lv lv) lm),
  fun σ W g h hb=>F6 W _ _ (u*v) (u*v) (K+K) (h 2 rfl) (h 2 rfl) (by omega) (G3 lu lv) (G3 lu lv),
  trivial⟩ fun τ W g h=>⟨_,rfl,mktw (h 6 rfl) (h 7 rfl),g⟩
theorem wF (w:World) (va vb vm:Value) (u v x y n:Int) (K:Nat) (Ha:TwoV w va u v) (Hb:TwoV w vb x y) (Hm:IntV w vm n) (hK:K<=200000) (lu:u.natAbs<B^(K+K)) (lv:v.natAbs<B^(K+K)) (lx:x.natAbs<B^K) (ly:y.natAbs<B^K) (lm:n.natAbs<B^K) :
 Calls Tryz.prog 56 #[va,vb,vm] w (RetTwo w (u-x*n) (v-y*n)):=by
 refine A6 B5 Tryz.func56 [sTw u v,sTw x y,sI n] [sI (x*n),sI (u-x*n),sI (y*n),sI (v-y*n)] (.cons Ha (.cons Hb (.cons Hm .nil))) (rs:=[cl 3 38 [ag 2 1,ag 2 2],cl 4 102 [ag 2 0,ag 2 3],cl 5 38 [.v true [.an 1 2,.an 1 3],ag 2 2],cl 6 102 [.v true [.an 0 2,.an 0 3],ag 2 5]]) (out := .v true [.an 4 0,.an 4 1,.an 6 0,.an 6 1]) (nc:=7) (by kernel_rfl)
  ⟨fun σ W g h hb=>F2 W _ _ x n K (tw0 (h 1 rfl)) (h 2 rfl) (by omega) lx lm,
  fun σ W g h hb=>qW W _ _ u (x*n) (K+K) (tw0 (h 0 rfl)) (h 3 rfl) (by omega) lu (G3 lx lm),
  fun σ W g h hb=>F2 W _ _ y n K (tw1 (h 1 rfl)) (h 2 rfl) (by omega) ly lm,
  fun σ W g h hb=>qW W _ _ v (y*n) (K+K) (tw1 (h 0 rfl)) (h 5 rfl) (by omega) lv (G3 ly lm),
  trivial⟩ fun τ W g h=>⟨_,rfl,mktw (h 4 rfl) (h 6 rfl),g⟩
theorem rC (w:World) (va:Value) (m n:Int) (r0 r1 r2 r3:Rat) (K:Nat) (Ha:SurdV w va m n r0 r1 r2 r3) (hK:K<=300000) (n0:Bd1 K r0) (n1:Bd1 K r1) (n2:Bd1 K r2) (n3:Bd1 K r3) :
 Calls Tryz.prog 14 #[va] w (RetParts w r0 r1 r2 r3):=by
 refine A6 B5 Tryz.func14 [sSd m n r0 r1 r2 r3] [sPa r0 r1 r2 r3] (.cons Ha .nil) (rs:=[cl 1 50 [.v true [.an 0 4,.an 0 5,.an 0 6,.an 0 7,.an 0 8,.an 0 9,.an 0 10,.an 0 11,.an 0 12,.an 0 13,.an 0 14,.an 0 15,.an 0 16,.an 0 17,.an 0 18,.an 0 19]]]) (out:=ag 16 1) (nc:=2) (by kernel_rfl)
  ⟨fun σ W g h hb=>eZ W _ r0 r1 r2 r3 K (mkpa (sd1 (h 0 rfl)) (sd2 (h 0 rfl)) (sd3 (h 0 rfl)) (sd4 (h 0 rfl))) (by omega) n0 n1 n2 n3,
  trivial⟩ fun τ W g h=>⟨_,rfl,h 1 rfl,g⟩
theorem SField_any (w:World) (va:Value) (m n:Int) (r0 r1 r2 r3:Rat) (K:Nat) (Ha:SurdV w va m n r0 r1 r2 r3) (hK:K<=300000) (lm:m.natAbs<B^K) (ln:n.natAbs<B^K) :
 Calls Tryz.prog 17 #[va] w (RetInt2' w m n):=by
 refine A6 B5 Tryz.func17 [sSd m n r0 r1 r2 r3] [sTw m n] (.cons Ha .nil) (rs:=[cl 1 49 [ag 4 0]]) (out := .tup [(true,[.an 1 0,.an 1 1]),(true,[.an 1 2,.an 1 3])]) (nc:=2) (by kernel_rfl)
  ⟨fun σ W g h hb=>aM W _ m n K (sd0 (h 0 rfl)) (by omega) lm ln,
  trivial⟩ fun τ W g h=>⟨_,_,rfl,tw0 (h 1 rfl),tw1 (h 1 rfl),g⟩
theorem J3 {r:Rat} (h:r=0):r.num.sign=0:=by rw [h];rfl
theorem I1 {r:Rat} (h:r≠0):r.num.sign≠0:=by rw [Ne,Int.sign_eq_zero_iff_zero,Rat.num_eq_zero];exact h
theorem Q2 (w:World) (va:Value) (m n:Int) (r0 r1 r2 r3:Rat) (K:Nat) (Ha:SurdV w va m n r0 r1 r2 r3) (hK:K<=300000) (n0:Bd1 K r0) (n1:Bd1 K r1) (n2:Bd1 K r2) (n3:Bd1 K r3) :
 Calls Tryz.prog 77 #[va] w (RetB w (decide (r1=0/\r2=0/\r3=0))):=by
 rcases (show (r1=0/\r2=0/\r3=0)\/(r1=0/\r2=0/\r3≠0)\/(r1=0/\r2≠0)\/r1≠0 by grind) with ⟨e1,e2,e3⟩ | ⟨e1,e2,e3⟩ | ⟨e1,e2⟩ | e1
 · skip
   rw [decide_eq_true ⟨e1,e2,e3⟩]
   refine A6 B5 Tryz.func77 [sSd m n r0 r1 r2 r3] [sV (.int .i64 0),sV (.int .i64 0),sV (.int .i64 0)] (.cons Ha .nil) (rs:=[cl 1 66 [.v true [.an 0 8,.an 0 9,.an 0 10,.an 0 11]],cl 2 66 [.v true [.an 0 12,.an 0 13,.an 0 14,.an 0 15]],cl 3 66 [.v true [.an 0 16,.an 0 17,.an 0 18,.an 0 19]]]) (out := .v false [.lit (.bool true)]) (nc:=4) (by kernel_rfl)
    ⟨fun σ W g h hb=>toV (B0 W _ r1 K (sd2 (h 0 rfl)) (by omega) n1.1) (by rw [J3 e1]),
    fun σ W g h hb=>toV (B0 W _ r2 K (sd3 (h 0 rfl)) (by omega) n2.1) (by rw [J3 e2]),
    fun σ W g h hb=>toV (B0 W _ r3 K (sd4 (h 0 rfl)) (by omega) n3.1) (by rw [J3 e3]),
    trivial⟩ fun τ W g h=>⟨rfl,g⟩
 · skip
   rw [decide_eq_false (fun q=>e3 q.2.2)]
   refine A6 B5 Tryz.func77 [sSd m n r0 r1 r2 r3] [sV (.int .i64 0),sV (.int .i64 0),sZ r3.num.sign,sV (.bool false)] (.cons Ha .nil) (rs:=[cl 1 66 [.v true [.an 0 8,.an 0 9,.an 0 10,.an 0 11]],cl 2 66 [.v true [.an 0 12,.an 0 13,.an 0 14,.an 0 15]],cl 3 66 [.v true [.an 0 16,.an 0 17,.an 0 18,.an 0 19]],co 4 (.binOp .eql 3 (.tmp 19) (.const (.int .i64 0)) 3) 4 [on 3,.v false [.lit (.int .i64 0)]] [0,1,2,3] []]) (out := .v false [.lit (.bool false)]) (nc:=5) (by kernel_rfl)
    ⟨fun σ W g h hb=>toV (B0 W _ r1 K (sd2 (h 0 rfl)) (by omega) n1.1) (by rw [J3 e1]),
    fun σ W g h hb=>toV (B0 W _ r2 K (sd3 (h 0 rfl)) (by omega) n2.1) (by rw [J3 e2]),
    fun σ W g h hb=>(B0 W _ r3 K (sd4 (h 0 rfl)) (by omega) n3.1).mono fun _ _ ⟨a,g⟩=>⟨_,a,rfl,g⟩,
    fun σ W g h hb=>fun ρ o ho _ hv=>⟨_,A5 ho ((A0 hv).1.trans (h 3 rfl)) (A0 hv).2 rfl,congrArg Value.bool (beq_eq_false_iff_ne.2 (I1 e3))⟩,
    trivial⟩ fun τ W g h=>⟨rfl,g⟩
 · skip
   rw [decide_eq_false (fun q=>e2 q.2.1)]
   refine A6 B5 Tryz.func77 [sSd m n r0 r1 r2 r3] [sV (.int .i64 0),sZ r2.num.sign,sV (.bool false)] (.cons Ha .nil) (rs:=[cl 1 66 [.v true [.an 0 8,.an 0 9,.an 0 10,.an 0 11]],cl 2 66 [.v true [.an 0 12,.an 0 13,.an 0 14,.an 0 15]],co 3 (.binOp .eql 3 (.tmp 12) (.const (.int .i64 0)) 3) 4 [on 2,.v false [.lit (.int .i64 0)]] [0,1,2] []]) (out := .v false [.lit (.bool false)]) (nc:=4) (by kernel_rfl)
    ⟨fun σ W g h hb=>toV (B0 W _ r1 K (sd2 (h 0 rfl)) (by omega) n1.1) (by rw [J3 e1]),
    fun σ W g h hb=>(B0 W _ r2 K (sd3 (h 0 rfl)) (by omega) n2.1).mono fun _ _ ⟨a,g⟩=>⟨_,a,rfl,g⟩,
    fun σ W g h hb=>fun ρ o ho _ hv=>⟨_,A5 ho ((A0 hv).1.trans (h 2 rfl)) (A0 hv).2 rfl,congrArg Value.bool (beq_eq_false_iff_ne.2 (I1 e2))⟩,
    trivial⟩ fun τ W g h=>⟨rfl,g⟩
 · skip
   rw [decide_eq_false (fun q=>e1 q.1)]
   refine A6 B5 Tryz.func77 [sSd m n r0 r1 r2 r3] [sZ r1.num.sign,sV (.bool false)] (.cons Ha .nil) (rs:=[cl 1 66 [.v true [.an 0 8,.an 0 9,.an 0 10,.an 0 11]],co 2 (.binOp .eql 3 (.tmp 6) (.const (.int .i64 0)) 3) 4 [on 1,.v false [.lit (.int .i64 0)]] [0,1] []]) (out := .v false [.lit (.bool false)]) (nc:=3) (by kernel_rfl)
    ⟨fun σ W g h hb=>(B0 W _ r1 K (sd2 (h 0 rfl)) (by omega) n1.1).mono fun _ _ ⟨a,g⟩=>⟨_,a,rfl,g⟩,
    fun σ W g h hb=>fun ρ o ho _ hv=>⟨_,A5 ho ((A0 hv).1.trans (h 1 rfl)) (A0 hv).2 rfl,congrArg Value.bool (beq_eq_false_iff_ne.2 (I1 e1))⟩,
    trivial⟩ fun τ W g h=>⟨rfl,g⟩
theorem cC (w:World) (va vb:Value) (t:Rat) (m n:Int) (r0 r1 r2 r3:Rat) (K:Nat) (Ha:SurdV w va m n r0 r1 r2 r3) (hK:K<=300000) (Hb:RatV w vb t) (n0:Bd1 K r0) (n1:Bd1 K t) (hTab:Tab w) :
 Calls Tryz.prog 80 #[va,vb] w (RetSurd w m n (r0+t) r1 r2 r3):=by
 refine A6 B5 Tryz.func80 [sSd m n r0 r1 r2 r3,sQ t] [sQ (r0+t)] (.cons Ha (.cons Hb .nil)) (rs:=[cl 2 42 [.v true [.an 0 4,.an 0 5,.an 0 6,.an 0 7],ag 4 1]]) (out := .v true [.an 0 0,.an 0 1,.an 0 2,.an 0 3,.an 2 0,.an 2 1,.an 2 2,.an 2 3,.an 0 8,.an 0 9,.an 0 10,.an 0 11,.an 0 12,.an 0 13,.an 0 14,.an 0 15,.an 0 16,.an 0 17,.an 0 18,.an 0 19]) (nc:=3) (by kernel_rfl)
  ⟨fun σ W g h hb=>I0 W _ _ r0 t K (sd1 (h 0 rfl)) (h 1 rfl) hK n0.1 n0.2 n1.1 n1.2 (hTab.kept g (by simp)),
  trivial⟩ fun τ W g h=>⟨_,rfl,mksd (sd0 (h 0 rfl)) (h 2 rfl) (sd2 (h 0 rfl)) (sd3 (h 0 rfl)) (sd4 (h 0 rfl)),g⟩
theorem SurdV.zero (w:World):SurdV w (.agg #[.slice none 0 0,.bool false,.slice none 0 0,.bool false,.slice none 0 0,.bool false,.slice none 0 0,.bool false,.slice none 0 0,.bool false,.slice none 0 0,.bool false,.slice none 0 0,.bool false,.slice none 0 0,.bool false,.slice none 0 0,.bool false,.slice none 0 0,.bool false]) 0 0 0 0 0 0:=mksd (TwoV.zero w) (RatV.zero w) (RatV.zero w) (RatV.zero w) (RatV.zero w)
end Go.Proofs.YtdgdmicbbfoghaaGreatDoor
namespace Go.Proofs.YtdgdmicbbfoghaaGreatDoor
open Go.RowKit Mat
def slx (s:ByteArray):Int:=Lib.indexByte s.data.toList 47
theorem ix_spec (c:UInt8):∀ l:List UInt8,(Lib.indexByte l c = -1/\c ∉ l) \/ ∃ k:Nat,k<l.length/\Lib.indexByte l c=(k:Int)/\l[k]?=some c/\c ∉ l.take k
 | []=>Or.inl ⟨rfl,by simp⟩
 | b :: l=>by
   unfold Lib.indexByte
   by_cases h:b=c
   · subst h
     right;exact ⟨0,by simp,by simp,by simp,by simp⟩
   · have hb:(b == c)=false:=beq_eq_false_iff_ne.2 h
     rw [hb]
     rcases ix_spec c l with ⟨h1,h2⟩ | ⟨k,h1,h2,h3,h4⟩
     · left;rw [h1];exact ⟨rfl,by simp [h2,Ne.symm h]⟩
     · right
       rw [h2]
       have:((k:Int) == -1)=false:=beq_eq_false_iff_ne.2 (by omega)
       rw [this]
       exact ⟨k+1,by simp;omega,by simp,by simpa using h3,by simp [h4,Ne.symm h]⟩
theorem oN (s:ByteArray):(slx s = -1/\(47:UInt8) ∉ s.data.toList) \/ ∃ k:Nat,k<s.size/\slx s=(k:Int)/\s.data.toList[k]?=some 47/\(47:UInt8) ∉ s.data.toList.take k:=by
 rcases ix_spec 47 s.data.toList with h | ⟨k,h1,h2⟩
 · exact Or.inl h
 · exact Or.inr ⟨k,by simpa using h1,h2⟩
theorem ixb_any (w:World) (s:ByteArray) :
 Calls Tryz.prog 176 #[.string s,.int .u8 47] w (fun e w'=>e = .returned (.int .i64 (slx s))/\w=w'):=by
 go_enter Tryz.func176,Tryz.ntmps176
 go_wp2
 rw [run_callFunc_extern Tryz.func184 (by kernel_rfl) (by kernel_rfl) (by kernel_rfl) (e:=Extern.BytealgIndexByte.indexByte) (by kernel_rfl),Lib.run_indexByteString]
 simp only [Result.andThen]
 rw [Oper.upon_value]
 go_wp2
 go_ret
 exact ⟨rfl,rfl⟩
theorem ixs_any (w:World) (s:ByteArray) :
 Calls Tryz.prog 169 #[.string s,.string { data := #[47] }] w (fun e w'=>e = .returned (.int .i64 (slx s))/\w=w'):=by
 cases hs:(([47]:List UInt8) == s.toList)
 · go_enter Tryz.func169,Tryz.ntmps169
   go_wp2_with fail
   refine (ixb_any w s).mono ?_
   rintro e w' ⟨rfl,rfl⟩
   go_wp2_with fail
   go_ret
   exact ⟨rfl,rfl⟩
 · have h0:slx s=0:=by
    have:s.data.toList=[47]:=by rw [<- ByteArray.toList_eq];exact (beq_iff_eq.1 hs).symm
    unfold slx;rw [this];rfl
   rw [h0]
   clear h0
   go_enter Tryz.func169,Tryz.ntmps169
   go_wp2_with fail
   go_ret
   exact ⟨rfl,rfl⟩
theorem cutl_sl (w:World) (s:ByteArray) (k:Nat) (h:slx s=(k:Int)) (hk:k<s.size) (hs:s.size<=4611686018427387904) :
 Calls Tryz.prog 151 #[.string s,.string { data := #[47] }] w (fun e w'=>e = .returned (.tuple #[.string (s.extract 0 k),.string (s.extract (k+1) s.size),.bool true])/\w.grownBy w' none):=by
 have H:=Lib.hid h
 clear h
 go_enter Tryz.func151,Tryz.ntmps151
 go_wp2_with fail
 refine (ixs_any w s).mono ?_
 rintro e w' ⟨rfl,rfl⟩
 rw [H.out]
 go_wp2_with fail
 go_quiet (fail)
 go_wp2_with fail
 go_ret3
 exact ⟨rfl,D4 _ _ _⟩
theorem cutl_no (w:World) (s:ByteArray) (h:slx s = -1) :
 Calls Tryz.prog 151 #[.string s,.string { data := #[47] }] w (fun e w'=>e = .returned (.tuple #[.string s,.string { data := #[] },.bool false])/\w=w'):=by
 have H:=Lib.hid h
 clear h
 go_enter Tryz.func151,Tryz.ntmps151
 go_wp2_with fail
 refine (ixs_any w s).mono ?_
 rintro e w' ⟨rfl,rfl⟩
 rw [H.out]
 go_wp2_with fail
 go_ret3
 exact ⟨rfl,rfl⟩
theorem uP (w:World) (s:ByteArray) (k:Nat) (h:slx s=(k:Int)) (hk:k<s.size) (hs:s.size<=4611686018427387904) :
 Calls Tryz.prog 119 #[.string s,.string { data := #[47] }] w (fun e w'=>e = .returned (.tuple #[.string (s.extract 0 k),.string (s.extract (k+1) s.size),.bool true])/\w.grownBy w' none):=by
 have H:=Lib.hid h
 have HK:=Lib.hid hk
 have HS:=Lib.hid hs
 clear h hk hs
 go_enter Tryz.func119,Tryz.ntmps119
 go_wp2_with fail
 refine (cutl_sl w s k H.out HK.out HS.out).mono ?_
 rintro e w' ⟨rfl,g⟩
 go_wp2_with fail
 go_ret3
 exact ⟨rfl,g⟩
theorem scut_no (w:World) (s:ByteArray) (h:slx s = -1) :
 Calls Tryz.prog 119 #[.string s,.string { data := #[47] }] w (fun e w'=>e = .returned (.tuple #[.string s,.string { data := #[] },.bool false])/\w=w'):=by
 have H:=Lib.hid h
 clear h
 go_enter Tryz.func119,Tryz.ntmps119
 go_wp2_with fail
 refine (cutl_no w s H.out).mono ?_
 rintro e w' ⟨rfl,rfl⟩
 go_wp2_with fail
 go_ret3
 exact ⟨rfl,rfl⟩
def lK (l:List Nat):Bool:=l.all (fun d=>Nat.ble 48 d && Nat.ble d 57) && (l == [48] || (!l.isEmpty && l.head? != some 48))
theorem cW {l:List Nat} (h:lK l=true):S9 l:=by
 unfold lK at h
 simp only [Bool.and_eq_true,Bool.or_eq_true,List.all_eq_true] at h
 obtain ⟨h1,h2⟩:=h
 refine ⟨fun k hk=>?_, ?_⟩
 · have:=h1 _ (List.getElem_mem hk)
   simpa using this
 · rcases h2 with h2 | h2
   · left;simpa using h2
   · right;simpa using h2
theorem dec_not {l:List Nat} (h:lK l=false):¬ S9 l:=by
 intro hd
 have:lK l=true:=by
  unfold lK
  simp only [Bool.and_eq_true,Bool.or_eq_true,List.all_eq_true]
  refine ⟨fun x hx=>?_, ?_⟩
  · obtain ⟨k,hk,rfl⟩:=List.getElem_of_mem hx
    simpa using hd.1 k hk
  · rcases hd.2 with h2 | h2
    · left;simpa using h2
    · right;simpa using h2
 rw [h] at this;cases this
theorem cX (l:List Nat):lK l=true ↔ S9 l:=by
 constructor
 · exact cW
 · intro h
   cases e:lK l
   · exact absurd h (dec_not e)
   · rfl
theorem dval_lt {l:List Nat} (h:lK l=true):G7 l<10^l.length:=by
 have hd:=(cW h).1
 rw [jZ hd]
 have:=S1 10 _ (vR hd)
 rw [List.length_reverse,List.length_map] at this;exact this
theorem qG {l:List Nat} {E:Nat} (h:S9 l) (hl:l.length<=19*E):G7 l<B^E:=by
 refine Nat.lt_of_lt_of_le (dval_lt ((cX l).2 h)) ?_
 refine Nat.le_trans (Nat.pow_le_pow_right (by omega) hl) ?_
 rw [Nat.pow_mul]
 exact Nat.pow_le_pow_left (by unfold B;decide) E
theorem dval_bd {l:List Nat} (h:S9 l) (hl:l.length<=4097):G7 l<B^216:=qG h (by omega)
def gQ (l:List Nat):Bool:=l.head? == some 45
def Z7 (l:List Nat):List Nat:=if gQ l=true then l.tail else l
def zok (l:List Nat):Bool:=lK (Z7 l) && !(gQ l && Z7 l == [48])
def mU (l:List Nat):Int:=if gQ l=true then -(G7 (Z7 l):Int) else G7 (Z7 l)
def U6 (s:ByteArray):Int:=if 4097<s.size then 2 else if zok (bts s)=false then 3 else if 4096<(Z7 (bts s)).length then 2 else 0
def I3 (s:ByteArray):Int:=if U6 s=0 then mU (bts s) else 0
theorem zdig_neg {l:List Nat} (h:gQ l=true):Z7 l=l.tail:=by unfold Z7;rw [if_pos h]
theorem zdig_pos {l:List Nat} (h:gQ l=false):Z7 l=l:=by unfold Z7;rw [h];rfl
theorem Q4 (l:List Nat):zok l=true ↔ (S9 (Z7 l) /\ ¬ (gQ l=true/\G7 (Z7 l)=0)):=by
 unfold zok
 rw [Bool.and_eq_true,cX]
 constructor
 · rintro ⟨h1,h2⟩
   refine ⟨h1, ?_⟩
   rintro ⟨h3,h4⟩
   have:Z7 l=[48]:=lJ h1 (cW (by decide +kernel)) (h4.trans (by decide +kernel))
   rw [h3,this] at h2;simp at h2
 · rintro ⟨h1,h2⟩
   refine ⟨h1, ?_⟩
   cases e:gQ l
   · rfl
   · cases e2:(Z7 l == [48])
     · rfl
     · exact absurd ⟨e,by rw [beq_iff_eq.1 e2];decide +kernel⟩ h2
theorem zc_long {s:ByteArray} (h : 4097<s.size):U6 s=2/\I3 s=0:=by
 have:U6 s=2:=by unfold U6;rw [if_pos h]
 exact ⟨this,by unfold I3;rw [this];rfl⟩
theorem fB {s:ByteArray} (h:s.size<=4097) (h1:¬ zok (bts s)=true):U6 s=3/\I3 s=0:=by
 have:U6 s=3:=by unfold U6;rw [if_neg (by omega),if_pos (by simpa using h1)]
 exact ⟨this,by unfold I3;rw [this];rfl⟩
theorem zc_many {s:ByteArray} (h:s.size<=4097) (h1:zok (bts s)=true) (h2 : 4096<(Z7 (bts s)).length):U6 s=2/\I3 s=0:=by
 have:U6 s=2:=by unfold U6;rw [if_neg (by omega),if_neg (by rw [h1];simp),if_pos h2]
 exact ⟨this,by unfold I3;rw [this];rfl⟩
theorem uG {s:ByteArray} (h:s.size<=4097) (h1:zok (bts s)=true) (h2:(Z7 (bts s)).length<=4096):U6 s=0/\I3 s=mU (bts s):=by
 have:U6 s=0:=by unfold U6;rw [if_neg (by omega),if_neg (by rw [h1];simp),if_neg (by omega)]
 exact ⟨this,by unfold I3;rw [if_pos this]⟩
def pfx (s p:ByteArray):Bool:=decide (p.size<=s.size) && ((s.extract 0 p.size).toList == p.toList)
theorem pfx_dash (s:ByteArray):pfx s { data := #[45] } = gQ (bts s):=by
 have e1:(s.extract 0 1).toList=s.data.toList.take 1:=by
  obtain ⟨⟨l⟩⟩:=s
  rw [ByteArray.extract_mk,ByteArray.toList_eq]
  simp
 have e2:s.size=s.data.toList.length:=by simp only [Array.length_toList];rfl
 unfold pfx gQ bts
 show (decide (1<=s.size) && ((s.extract 0 1).toList == (⟨#[45]⟩:ByteArray).toList))=_
 rw [e1,e2,ByteArray.toList_eq]
 generalize s.data.toList=l
 cases l with
 | nil=>rfl
 | cons x t=>
   simp only [List.length_cons,List.take_succ_cons,List.take_zero,List.map_cons,List.head?_cons]
   by_cases h:x=45
   · subst h;simp
   · have:x.toNat≠45:=fun e=>h (UInt8.toNat_inj.1 e)
     have hx1:(x == 45)=false:=beq_eq_false_iff_ne.2 h
     have hx2:(x.toNat == 45)=false:=beq_eq_false_iff_ne.2 this
     simp [hx1,hx2]
theorem pre_any (w:World) (s p:ByteArray) :
 Calls Tryz.prog 180 #[.string s,.string p] w (fun e w'=>e = .returned (.bool (pfx s p))/\w=w'):=by
 by_cases h:p.size<=s.size
 · go_enter Tryz.func180,Tryz.ntmps180
   go_wp2_with fail
   go_ret
   refine ⟨?_,rfl⟩
   show Ending.returned (Value.bool ((s.extract 0 p.size).toList == p.toList))=_
   unfold pfx;simp [h]
 · go_enter Tryz.func180,Tryz.ntmps180
   go_wp2_with fail
   go_ret
   refine ⟨?_,rfl⟩
   show Ending.returned (Value.bool false)=_
   unfold pfx;simp [h]
theorem cutl_hit (w:World) (s p:ByteArray) (h:pfx s p=true) :
 Calls Tryz.prog 170 #[.string s,.string p] w (fun e w'=>e = .returned (.tuple #[.string (s.extract p.size s.size),.bool true])/\w=w'):=by
 have H:=Lib.hid h
 have hp:p.size<=s.size\/False:=Or.inl (by unfold pfx at h;simp at h;exact h.1)
 clear h
 go_enter Tryz.func170,Tryz.ntmps170
 go_wp2_with fail
 replace hp:=hp.resolve_right id
 refine (pre_any w s p).mono ?_
 rintro e w' ⟨rfl,rfl⟩
 rw [H.out]
 go_wp2_with fail
 go_ret2
 exact ⟨rfl,rfl⟩
theorem cutl_miss (w:World) (s p:ByteArray) (h:pfx s p=false) :
 Calls Tryz.prog 170 #[.string s,.string p] w (fun e w'=>e = .returned (.tuple #[.string s,.bool false])/\w=w'):=by
 have H:=Lib.hid h
 have hp:p.size<=s.size\/True:=Or.inr trivial
 clear h
 go_enter Tryz.func170,Tryz.ntmps170
 go_wp2_with fail
 refine (pre_any w s p).mono ?_
 rintro e w' ⟨rfl,rfl⟩
 rw [H.out]
 go_wp2_with fail
 go_ret2
 exact ⟨rfl,rfl⟩
theorem cut_hit (w:World) (s p:ByteArray) (h:pfx s p=true) :
 Calls Tryz.prog 152 #[.string s,.string p] w (fun e w'=>e = .returned (.tuple #[.string (s.extract p.size s.size),.bool true])/\w=w'):=by
 have H:=Lib.hid h
 have hp:p.size<=s.size\/False:=Or.inl (by unfold pfx at h;simp at h;exact h.1)
 clear h
 go_enter Tryz.func152,Tryz.ntmps152
 go_wp2_with fail
 refine (cutl_hit w s p H.out).mono ?_
 rintro e w' ⟨rfl,rfl⟩
 go_wp2_with fail
 go_ret2
 exact ⟨rfl,rfl⟩
theorem cut_miss (w:World) (s p:ByteArray) (h:pfx s p=false) :
 Calls Tryz.prog 152 #[.string s,.string p] w (fun e w'=>e = .returned (.tuple #[.string s,.bool false])/\w=w'):=by
 have H:=Lib.hid h
 have hp:p.size<=s.size\/True:=Or.inr trivial
 clear h
 go_enter Tryz.func152,Tryz.ntmps152
 go_wp2_with fail
 refine (cutl_miss w s p H.out).mono ?_
 rintro e w' ⟨rfl,rfl⟩
 go_wp2_with fail
 go_ret2
 exact ⟨rfl,rfl⟩
set_option maxHeartbeats 2000000 in
theorem long_any (w:World) (s:ByteArray) (hs:s.size<=4097) (h1 : 1<s.size) :
 Calls Tryz.prog 153 #[.string s] w (lP w s):=by
 obtain ⟨x0,ex0⟩:∃ x,(s[0]'(by omega)).toNat=x:=⟨_,rfl⟩
 have HB0:Hid (¬ s.toList=[48] /\ ¬ s.toList=[]/\(bts s).head?=some x0):=by
  refine ⟨fun h=>?_,fun h=>?_,by rw [Q0 s (by omega),ex0]⟩
  · have:=(bts_one s).2 h
    have h2:=C7 s;rw [this] at h2;simp at h2;omega
  · have:=(nT s).2 h
    have h2:=C7 s;rw [this] at h2;simp at h2;omega
 obtain ⟨bb,f9,HK⟩:∃ bb:Bool,((x0:Int) != 48)=bb/\Hid (bb=true ↔ (s.toList=[48]\/(s.toList≠[]/\(bts s).head?≠some 48))):=by
  obtain ⟨q1,q2,q3⟩:=HB0.out
  refine ⟨_,rfl, ?_⟩
  show _ ↔ _
  rw [q3]
  by_cases h:x0=48
  · subst h
    constructor
    · intro h;cases h
    · rintro (h | ⟨h,h2⟩)
      · exact absurd h q1
      · exact absurd rfl h2
  · have hne:((x0:Int) == 48)=false:=beq_eq_false_iff_ne.2 (by omega)
    rw [bne,hne]
    exact ⟨fun _=>Or.inr ⟨q2,fun e=>h (Option.some.inj e)⟩,fun _=>rfl⟩
 all_goals (
  go_enter Tryz.func153,Tryz.ntmps153
  go_wp2_with fail
  go_loopw [6] (fun i wr=>∃ k:Nat,k<=s.size/\i = .int .i64 k/\w=wr/\Hid (∀ j (h:j<s.size),j<k->48<=(s[j]'h).toNat/\(s[j]'h).toNat<=57)) (fun i _=>s.size-(intOf i).toNat)
  case atStart=>exact ⟨0,Nat.zero_le _,rfl,rfl,fun j h h0=>absurd h0 (by omega)⟩
  case round=>
   obtain ⟨k,hk,rfl,rfl,hd⟩:=hrel
   by_cases hlt:k<s.size
   · obtain ⟨x,ex⟩:∃ x,(s[k]'hlt).toNat=x:=⟨_,rfl⟩
     by_cases hx : 48<=x/\x<=57
     · have f1:decide ((x:Int)<48)=false:=decide_eq_false (by omega)
       have f2:decide ((57:Int)<(x:Int))=false:=decide_eq_false (by omega)
       go_wp2_with fail
       go_roundw
       case rel=>
        refine ⟨k+1,by omega,by go_num,by trivial,fun j h hj=>?_⟩
        rcases Nat.lt_or_ge j k with h1 | h1
        · exact hd.out j h h1
        · obtain rfl:j=k:=by omega
          rw [ex];exact hx
       case measure=>simp [intOf];omega
     · have HF:Hid (lP w s (.returned (.bool false)) w):=dec_bad k hlt (by rw [ex];exact hx)
       go_wp2_with fail
       all_goals first | (go_ret;exact HF.out) | (exfalso;omega)
   · obtain rfl:k=s.size:=by omega
     have HE:=Lib.hid (dec_end (w:=w) hd.out bb HK.out)
     clear hd
     go_wp2_with fail
     go_ret
     exact HE.out)
end Go.Proofs.YtdgdmicbbfoghaaGreatDoor
