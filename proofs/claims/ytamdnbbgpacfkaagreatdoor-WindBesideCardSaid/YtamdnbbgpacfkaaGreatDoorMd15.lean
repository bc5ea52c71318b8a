/- What the laws lean on, part 15. -/
import Derived.Below
import Derived.BigCall
import Derived.BigQuiet
import Derived.BigRegion
import Derived.Deep.AppendLies
import Derived.Deep.CutBlock
import Derived.Deep.CutRange
import Derived.Deep.DeepCutAuto
import Derived.Deep.DeepHandedRow
import Derived.Deep.LoopGhost
import Derived.Deep.MidRow
import Derived.Deep.QuietTactic
import Derived.Deep.RegionHeld3
import Derived.Deep.RegionLaw
import Derived.Deep.WholeRow
import Derived.Laws.AppendOwn
import Derived.Laws.Concat
import Derived.Laws.CopyOwn
import Derived.Laws.Externs
import Derived.Laws.IdiomStrings
import Derived.Lib.BitFns
import Derived.Lib.Bytealg
import Derived.Lib.Hide
import Derived.Lib.Slices
import Derived.Lib.Small
import Derived.Lib.Strings
import Derived.Lib.Walk
import Derived.LoopN
import Derived.OpenShut
import Derived.OrdersHeld
import Derived.OrdersIn
import Derived.Outline
import Derived.OwnWalk
import Derived.ProofKit
import Derived.RangeFuncCalls
import Derived.RangeFuncNested
import Derived.RangeFuncOwn
import Derived.Shelf.Bits.Mul64
import Derived.Shelf.Spec.TrailingZeros
import Derived.StillTailTactics
import Derived.WalkKit
import Derived.WalkLawsBesides
import Derived.WalkSpells
import Derived.Test.YtamdnbbgpacfkaaGreatDoorProg
import Derived.Test.YtamdnbbgpacfkaaGreatDoorRows
import Derived.Test.YtamdnbbgpacfkaaGreatDoorMd14
set_option linter.unusedVariables false
set_option linter.unusedSimpArgs false
set_option maxRecDepth 100000
namespace Go.Proofs.YtamdnbbgpacfkaaGreatDoor
open Go.RowKit Mat Ex PM
def sBd (b:Bool):Sp:=sC (.bool b) rfl
theorem vb {v:Value} {a b:Bool} (h:v = .bool a) (h2:v = .bool b):a=b:=by rw [h] at h2;exact Value.bool.inj h2
theorem oO {P:Program} {f:FuncId} {args:Array Value} {W:World} {b:Bool} (h:Calls P f args W (RetB W b)):Calls P f args W (Ret W (sBd b).F):=h.mono fun _ _ ⟨a,g⟩=>⟨_,a,rfl,g⟩
theorem N6 {P:Program} {ρ : Operand->Value} {o:Oper} {t:TypeId} {x:Operand} {b:Bool} {W:World} (ho:o.op = .unOp .not t x) (hx : ρ x = .bool b) :
 (execOp ρ o).run P W = .ok (.value (.bool (!b))) W:=by simp only [execOp,ho,hx];rfl
theorem bdec_iff {p:Prop} {b:Bool} (h:dec p=b):p ↔ b=true:=by
 cases b with
 | true=>exact ⟨fun _=>rfl,fun _=>Classical.byContradiction fun q=>(by rw [I1 q] at h;cases h)⟩
 | false=>exact ⟨fun q=>(by rw [O0 q] at h;cases h),fun q=>(by cases q)⟩
theorem K4 {p:Prop} (h:dec p=true):p:=(bdec_iff h).2 rfl
theorem K5 {p:Prop} (h:dec p=false):¬ p:=fun q=>by rw [O0 q] at h;cases h
theorem sF {p:Prop} [Decidable p]:decide p=dec p:=by
 by_cases h:p
 · rw [O0 h,decide_eq_true h]
 · rw [I1 h,decide_eq_false h]
theorem cU {p q:Prop} (h:p ↔ q):dec p=dec q:=by rw [show p=q from propext h]
noncomputable def B1 (x m:H3):H3:=open Classical in if plt (rp x) (rp m) then x else m
noncomputable def B3 (x M:H3):H3:=open Classical in if plt (rp M) (rp x) then x else M
noncomputable def nx (P:Prop) (u v:H3):H3:=open Classical in if P then u else v
theorem gT {x m:H3} (h:plt (rp x) (rp m)):B1 x m=x:=by unfold B1;rw [if_pos h]
theorem gU {x m:H3} (h:¬ plt (rp x) (rp m)):B1 x m=m:=by unfold B1;rw [if_neg h]
theorem gV {x m:H3} (h:plt (rp m) (rp x)):B3 x m=x:=by unfold B3;rw [if_pos h]
theorem gX {x m:H3} (h:¬ plt (rp m) (rp x)):B3 x m=m:=by unfold B3;rw [if_neg h]
theorem jX {P:Prop} {u v:H3} (h:P):nx P u v=u:=by unfold nx;rw [if_pos h]
theorem jY {P:Prop} {u v:H3} (h:¬ P):nx P u v=v:=by unfold nx;rw [if_neg h]
def HOk (E:Nat) (p:H3):Prop:=HB E p/\0<p.z
theorem B5 {E:Nat} {x m:H3} (h:HOk E x) (h':HOk E m):HOk E (B1 x m):=by unfold B1;split<;>assumption
theorem C2 {E:Nat} {x m:H3} (h:HOk E x) (h':HOk E m):HOk E (B3 x m):=by unfold B3;split<;>assumption
theorem B4 {E:Nat} {P:Prop} {x m:H3} (h:HOk E x) (h':HOk E m):HOk E (nx P x m):=by unfold nx;split<;>assumption
theorem J6 {S:Pq->Prop} {x:Pq} (h:¬ S x):tD S none x=none:=by unfold tD;rw [if_neg h]
theorem bN {S:Pq->Prop} {x:Pq} (h:S x):tD S none x=some (x,x):=by unfold tD;rw [if_pos h]
theorem O4 {S:Pq->Prop} {x m M:H3} : tD S (some (rp m,rp M)) (rp x)=some (rp (nx (S (rp x)) (B1 x m) m),rp (nx (S (rp x)) (B3 x M) M)):=by
 unfold tD nx B1 B3
 by_cases h:S (rp x)
 · rw [if_pos h,if_pos h,if_pos h]
   show some _=some _
   congr 2
   · unfold rp;split<;>rfl
   · unfold rp;split<;>rfl
 · rw [if_neg h,if_neg h,if_neg h]
theorem O9 (p:Pq):F0 p p=0:=pcmp_zero.2 rfl
theorem gM {p q:Pq} : decide (F0 p q<0)=dec (plt p q):=by
 rw [sF];exact cU (by rw [<- pcmp_lt];rcases rQ p q with h | h | h<;>omega)
theorem gZ {p q:Pq} : decide (0<F0 p q)=dec (plt q p):=by
 rw [sF];exact cU (by rw [<- pcmp_gt];rcases rQ p q with h | h | h<;>omega)
theorem sB {p q:Pq} : decide (F0 p q=0)=dec (p=q):=by
 rw [sF];exact cU pcmp_zero
theorem X1 {a b c d p:Pq} (h:InS a b p):dec (A5 a b c d p)=dec (InS c d p):=cU (and_iff_right h)
theorem I5 {P:Prop} {v:Value} {b:Bool} (h:v = .bool (!dec P)) (h2:v = .bool b):P ↔ b=false:=by
 have:=vb h h2
 cases b with
 | false=>exact ⟨fun _=>rfl,fun _=>K4 (by simpa using this)⟩
 | true=>exact ⟨fun q=>(by rw [O0 q] at this;cases this),fun q=>(by cases q)⟩
theorem lO (w:World) (va vb':Value) (a b c d:H3) (E:Nat) (Ha:HsV w va a b) (Hb:HsV w vb' c d) (hE : 1<=E/\E<=100) (ba:HB E a) (bb:HB E b) (bc:HB E c) (bd:HB E d) (za : 0<a.z) (zb : 0<b.z) (zc : 0<c.z) (zd : 0<d.z) :
 Calls Tryz.prog 55 #[va,vb'] w (Z4 w (4*E+3) (P7 (rp a) (rp b) (rp c) (rp d))):=by
 have hcz:=crw_zero za zb zc zd
 have oa:HOk E a:=⟨ba,za⟩
 have ob:HOk E b:=⟨bb,zb⟩
 have oc:HOk E c:=⟨bc,zc⟩
 have od:HOk E d:=⟨bd,zd⟩
 have bx:=ba.crp bb bc bd
 rcases (show crw a b c d=0\/(crw a b c d≠0 /\ ¬ InS (rp a) (rp b) (pat (rp a) (rp b) (A4 (rp c) (rp d) (rp a) / (A4 (rp c) (rp d) (rp a)-A4 (rp c) (rp d) (rp b)))))\/(crw a b c d≠0/\InS (rp a) (rp b) (pat (rp a) (rp b) (A4 (rp c) (rp d) (rp a) / (A4 (rp c) (rp d) (rp a)-A4 (rp c) (rp d) (rp b)))) /\ ¬ InS (rp c) (rp d) (pat (rp a) (rp b) (A4 (rp c) (rp d) (rp a) / (A4 (rp c) (rp d) (rp a)-A4 (rp c) (rp d) (rp b)))))\/(crw a b c d≠0/\InS (rp a) (rp b) (pat (rp a) (rp b) (A4 (rp c) (rp d) (rp a) / (A4 (rp c) (rp d) (rp a)-A4 (rp c) (rp d) (rp b))))/\InS (rp c) (rp d) (pat (rp a) (rp b) (A4 (rp c) (rp d) (rp a) / (A4 (rp c) (rp d) (rp a)-A4 (rp c) (rp d) (rp b))))) by
  by_cases h0:crw a b c d=0
  · exact .inl h0
  · by_cases h1:InS (rp a) (rp b) (pat (rp a) (rp b) (A4 (rp c) (rp d) (rp a) / (A4 (rp c) (rp d) (rp a)-A4 (rp c) (rp d) (rp b))))
    · by_cases h2:InS (rp c) (rp d) (pat (rp a) (rp b) (A4 (rp c) (rp d) (rp a) / (A4 (rp c) (rp d) (rp a)-A4 (rp c) (rp d) (rp b))))
      · exact .inr (.inr (.inr ⟨h0,h1,h2⟩))
      · exact .inr (.inr (.inl ⟨h0,h1,h2⟩))
    · exact .inr (.inl ⟨h0,h1⟩)) with h0 | ⟨h0,h1⟩ | ⟨h0,h1,h2⟩ | ⟨h0,h1,h2⟩
 · skip
   unfold P7
   rw [if_pos (hcz.1 h0)]
   refine M7 B6 Tryz.func55 [sHs a b,sHs c d] (sV (.bool true) :: sBd (dec (InS (rp a) (rp b) (rp a))) :: sV (.bool true) :: sBd (dec (InS (rp c) (rp d) (rp a))) :: sBd (!dec (InS (rp c) (rp d) (rp a))) :: sV (.bool false) :: sBd (!dec (A5 (rp a) (rp b) (rp c) (rp d) (rp a))) :: sV (.int .i64 0) :: sV (.int .i64 0) :: sBd (dec (InS (rp a) (rp b) (rp b))) :: sV (.bool true) :: sBd (dec (InS (rp c) (rp d) (rp b))) :: sBd (!dec (InS (rp c) (rp d) (rp b))) :: sV (.bool false) :: sBd (!dec (A5 (rp a) (rp b) (rp c) (rp d) (rp b))) :: sV (.int .i64 0) :: sV (.int .i64 0) :: sBd (dec (InS (rp a) (rp b) (rp c))) :: sV (.bool true) :: sBd (dec (InS (rp c) (rp d) (rp c))) :: sBd (!dec (InS (rp c) (rp d) (rp c))) :: sV (.bool false) :: sBd (!dec (A5 (rp a) (rp b) (rp c) (rp d) (rp c))) :: sV (.int .i64 0) :: sV (.int .i64 0) :: sBd (dec (InS (rp a) (rp b) (rp d))) :: sV (.bool true) :: sBd (dec (InS (rp c) (rp d) (rp d))) :: sBd (!dec (InS (rp c) (rp d) (rp d))) :: sV (.bool false) :: sBd (!dec (A5 (rp a) (rp b) (rp c) (rp d) (rp d))) :: sV (.int .i64 0) :: sV (.int .i64 0) :: sBd (dec (InS (rp a) (rp b) (rp d))) :: sV (.bool true) :: sBd (dec (InS (rp c) (rp d) (rp d))) :: sBd (!dec (InS (rp c) (rp d) (rp d))) :: sV (.bool false) :: sBd (!dec (A5 (rp a) (rp b) (rp c) (rp d) (rp d))) :: sZ (F0 (rp d) (rp c)) :: sBd (dec (plt (rp d) (rp c))) :: sH (B1 d c) :: sZ (F0 (rp d) (rp c)) :: sBd (dec (plt (rp c) (rp d))) :: sH (B3 d c) :: sH (nx (A5 (rp a) (rp b) (rp c) (rp d) (rp d)) (B1 d c) c) :: sH (nx (A5 (rp a) (rp b) (rp c) (rp d) (rp d)) (B3 d c) c) :: sBd (dec (InS (rp a) (rp b) (rp c))) :: sV (.bool true) :: sBd (dec (InS (rp c) (rp d) (rp c))) :: sBd (!dec (InS (rp c) (rp d) (rp c))) :: sV (.bool false) :: sBd (!dec (A5 (rp a) (rp b) (rp c) (rp d) (rp c))) :: sZ (F0 (rp c) (rp b)) :: sBd (dec (plt (rp c) (rp b))) :: sH (B1 c b) :: sZ (F0 (rp c) (rp b)) :: sBd (dec (plt (rp b) (rp c))) :: sH (B3 c b) :: sH (nx (A5 (rp a) (rp b) (rp c) (rp d) (rp c)) (B1 c b) b) :: sH (nx (A5 (rp a) (rp b) (rp c) (rp d) (rp c)) (B3 c b) b) :: sBd (dec (InS (rp a) (rp b) (rp d))) :: sV (.bool true) :: sBd (dec (InS (rp c) (rp d) (rp d))) :: sBd (!dec (InS (rp c) (rp d) (rp d))) :: sV (.bool false) :: sBd (!dec (A5 (rp a) (rp b) (rp c) (rp d) (rp d))) :: sZ (F0 (rp d) (rp (nx (A5 (rp a) (rp b) (rp c) (rp d) (rp c)) (B1 c b) b))) :: sBd (dec (plt (rp d) (rp (nx (A5 (rp a) (rp b) (rp c) (rp d) (rp c)) (B1 c b) b)))) :: sH (B1 d (nx (A5 (rp a) (rp b) (rp c) (rp d) (rp c)) (B1 c b) b)) :: sZ (F0 (rp d) (rp (nx (A5 (rp a) (rp b) (rp c) (rp d) (rp c)) (B3 c b) b))) :: sBd (dec (plt (rp (nx (A5 (rp a) (rp b) (rp c) (rp d) (rp c)) (B3 c b) b)) (rp d))) :: sH (B3 d (nx (A5 (rp a) (rp b) (rp c) (rp d) (rp c)) (B3 c b) b)) :: sH (nx (A5 (rp a) (rp b) (rp c) (rp d) (rp d)) (B1 d (nx (A5 (rp a) (rp b) (rp c) (rp d) (rp c)) (B1 c b) b)) (nx (A5 (rp a) (rp b) (rp c) (rp d) (rp c)) (B1 c b) b)) :: sH (nx (A5 (rp a) (rp b) (rp c) (rp d) (rp d)) (B3 d (nx (A5 (rp a) (rp b) (rp c) (rp d) (rp c)) (B3 c b) b)) (nx (A5 (rp a) (rp b) (rp c) (rp d) (rp c)) (B3 c b) b)) :: sBd (dec (InS (rp a) (rp b) (rp b))) :: sV (.bool true) :: sBd (dec (InS (rp c) (rp d) (rp b))) :: sBd (!dec (InS (rp c) (rp d) (rp b))) :: sV (.bool false) :: sBd (!dec (A5 (rp a) (rp b) (rp c) (rp d) (rp b))) :: sZ (F0 (rp b) (rp a)) :: sBd (dec (plt (rp b) (rp a))) :: sH (B1 b a) :: sZ (F0 (rp b) (rp a)) :: sBd (dec (plt (rp a) (rp b))) :: sH (B3 b a) :: sH (nx (A5 (rp a) (rp b) (rp c) (rp d) (rp b)) (B1 b a) a) :: sH (nx (A5 (rp a) (rp b) (rp c) (rp d) (rp b)) (B3 b a) a) :: sBd (dec (InS (rp a) (rp b) (rp c))) :: sV (.bool true) :: sBd (dec (InS (rp c) (rp d) (rp c))) :: sBd (!dec (InS (rp c) (rp d) (rp c))) :: sV (.bool false) :: sBd (!dec (A5 (rp a) (rp b) (rp c) (rp d) (rp c))) :: sZ (F0 (rp c) (rp (nx (A5 (rp a) (rp b) (rp c) (rp d) (rp b)) (B1 b a) a))) :: sBd (dec (plt (rp c) (rp (nx (A5 (rp a) (rp b) (rp c) (rp d) (rp b)) (B1 b a) a)))) :: sH (B1 c (nx (A5 (rp a) (rp b) (rp c) (rp d) (rp b)) (B1 b a) a)) :: sZ (F0 (rp c) (rp (nx (A5 (rp a) (rp b) (rp c) (rp d) (rp b)) (B3 b a) a))) :: sBd (dec (plt (rp (nx (A5 (rp a) (rp b) (rp c) (rp d) (rp b)) (B3 b a) a)) (rp c))) :: sH (B3 c (nx (A5 (rp a) (rp b) (rp c) (rp d) (rp b)) (B3 b a) a)) :: sH (nx (A5 (rp a) (rp b) (rp c) (rp d) (rp c)) (B1 c (nx (A5 (rp a) (rp b) (rp c) (rp d) (rp b)) (B1 b a) a)) (nx (A5 (rp a) (rp b) (rp c) (rp d) (rp b)) (B1 b a) a)) :: sH (nx (A5 (rp a) (rp b) (rp c) (rp d) (rp c)) (B3 c (nx (A5 (rp a) (rp b) (rp c) (rp d) (rp b)) (B3 b a) a)) (nx (A5 (rp a) (rp b) (rp c) (rp d) (rp b)) (B3 b a) a)) :: sBd (dec (InS (rp a) (rp b) (rp d))) :: sV (.bool true) :: sBd (dec (InS (rp c) (rp d) (rp d))) :: sBd (!dec (InS (rp c) (rp d) (rp d))) :: sV (.bool false) :: sBd (!dec (A5 (rp a) (rp b) (rp c) (rp d) (rp d))) :: sZ (F0 (rp d) (rp (nx (A5 (rp a) (rp b) (rp c) (rp d) (rp c)) (B1 c (nx (A5 (rp a) (rp b) (rp c) (rp d) (rp b)) (B1 b a) a)) (nx (A5 (rp a) (rp b) (rp c) (rp d) (rp b)) (B1 b a) a)))) :: sBd (dec (plt (rp d) (rp (nx (A5 (rp a) (rp b) (rp c) (rp d) (rp c)) (B1 c (nx (A5 (rp a) (rp b) (rp c) (rp d) (rp b)) (B1 b a) a)) (nx (A5 (rp a) (rp b) (rp c) (rp d) (rp b)) (B1 b a) a))))) :: sH (B1 d (nx (A5 (rp a) (rp b) (rp c) (rp d) (rp c)) (B1 c (nx (A5 (rp a) (rp b) (rp c) (rp d) (rp b)) (B1 b a) a)) (nx (A5 (rp a) (rp b) (rp c) (rp d) (rp b)) (B1 b a) a))) :: sZ (F0 (rp d) (rp (nx (A5 (rp a) (rp b) (rp c) (rp d) (rp c)) (B3 c (nx (A5 (rp a) (rp b) (rp c) (rp d) (rp b)) (B3 b a) a)) (nx (A5 (rp a) (rp b) (rp c) (rp d) (rp b)) (B3 b a) a)))) :: sBd (dec (plt (rp (nx (A5 (rp a) (rp b) (rp c) (rp d) (rp c)) (B3 c (nx (A5 (rp a) (rp b) (rp c) (rp d) (rp b)) (B3 b a) a)) (nx (A5 (rp a) (rp b) (rp c) (rp d) (rp b)) (B3 b a) a))) (rp d))) :: sH (B3 d (nx (A5 (rp a) (rp b) (rp c) (rp d) (rp c)) (B3 c (nx (A5 (rp a) (rp b) (rp c) (rp d) (rp b)) (B3 b a) a)) (nx (A5 (rp a) (rp b) (rp c) (rp d) (rp b)) (B3 b a) a))) :: sH (nx (A5 (rp a) (rp b) (rp c) (rp d) (rp d)) (B1 d (nx (A5 (rp a) (rp b) (rp c) (rp d) (rp c)) (B1 c (nx (A5 (rp a) (rp b) (rp c) (rp d) (rp b)) (B1 b a) a)) (nx (A5 (rp a) (rp b) (rp c) (rp d) (rp b)) (B1 b a) a))) (nx (A5 (rp a) (rp b) (rp c) (rp d) (rp c)) (B1 c (nx (A5 (rp a) (rp b) (rp c) (rp d) (rp b)) (B1 b a) a)) (nx (A5 (rp a) (rp b) (rp c) (rp d) (rp b)) (B1 b a) a))) :: sH (nx (A5 (rp a) (rp b) (rp c) (rp d) (rp d)) (B3 d (nx (A5 (rp a) (rp b) (rp c) (rp d) (rp c)) (B3 c (nx (A5 (rp a) (rp b) (rp c) (rp d) (rp b)) (B3 b a) a)) (nx (A5 (rp a) (rp b) (rp c) (rp d) (rp b)) (B3 b a) a))) (nx (A5 (rp a) (rp b) (rp c) (rp d) (rp c)) (B3 c (nx (A5 (rp a) (rp b) (rp c) (rp d) (rp b)) (B3 b a) a)) (nx (A5 (rp a) (rp b) (rp c) (rp d) (rp b)) (B3 b a) a))) :: sZ (F0 (rp d) (rp d)) :: sBd (dec (rp d=rp d)) :: sZ (F0 (rp (nx (A5 (rp a) (rp b) (rp c) (rp d) (rp d)) (B1 d c) c)) (rp (nx (A5 (rp a) (rp b) (rp c) (rp d) (rp d)) (B3 d c) c))) :: sBd (dec (rp (nx (A5 (rp a) (rp b) (rp c) (rp d) (rp d)) (B1 d c) c)=rp (nx (A5 (rp a) (rp b) (rp c) (rp d) (rp d)) (B3 d c) c))) :: sZ (F0 (rp (nx (A5 (rp a) (rp b) (rp c) (rp d) (rp d)) (B1 d (nx (A5 (rp a) (rp b) (rp c) (rp d) (rp c)) (B1 c b) b)) (nx (A5 (rp a) (rp b) (rp c) (rp d) (rp c)) (B1 c b) b))) (rp (nx (A5 (rp a) (rp b) (rp c) (rp d) (rp d)) (B3 d (nx (A5 (rp a) (rp b) (rp c) (rp d) (rp c)) (B3 c b) b)) (nx (A5 (rp a) (rp b) (rp c) (rp d) (rp c)) (B3 c b) b)))) :: sBd (dec (rp (nx (A5 (rp a) (rp b) (rp c) (rp d) (rp d)) (B1 d (nx (A5 (rp a) (rp b) (rp c) (rp d) (rp c)) (B1 c b) b)) (nx (A5 (rp a) (rp b) (rp c) (rp d) (rp c)) (B1 c b) b))=rp (nx (A5 (rp a) (rp b) (rp c) (rp d) (rp d)) (B3 d (nx (A5 (rp a) (rp b) (rp c) (rp d) (rp c)) (B3 c b) b)) (nx (A5 (rp a) (rp b) (rp c) (rp d) (rp c)) (B3 c b) b)))) :: sZ (F0 (rp (nx (A5 (rp a) (rp b) (rp c) (rp d) (rp d)) (B1 d (nx (A5 (rp a) (rp b) (rp c) (rp d) (rp c)) (B1 c (nx (A5 (rp a) (rp b) (rp c) (rp d) (rp b)) (B1 b a) a)) (nx (A5 (rp a) (rp b) (rp c) (rp d) (rp b)) (B1 b a) a))) (nx (A5 (rp a) (rp b) (rp c) (rp d) (rp c)) (B1 c (nx (A5 (rp a) (rp b) (rp c) (rp d) (rp b)) (B1 b a) a)) (nx (A5 (rp a) (rp b) (rp c) (rp d) (rp b)) (B1 b a) a)))) (rp (nx (A5 (rp a) (rp b) (rp c) (rp d) (rp d)) (B3 d (nx (A5 (rp a) (rp b) (rp c) (rp d) (rp c)) (B3 c (nx (A5 (rp a) (rp b) (rp c) (rp d) (rp b)) (B3 b a) a)) (nx (A5 (rp a) (rp b) (rp c) (rp d) (rp b)) (B3 b a) a))) (nx (A5 (rp a) (rp b) (rp c) (rp d) (rp c)) (B3 c (nx (A5 (rp a) (rp b) (rp c) (rp d) (rp b)) (B3 b a) a)) (nx (A5 (rp a) (rp b) (rp c) (rp d) (rp b)) (B3 b a) a))))) :: sBd (dec (rp (nx (A5 (rp a) (rp b) (rp c) (rp d) (rp d)) (B1 d (nx (A5 (rp a) (rp b) (rp c) (rp d) (rp c)) (B1 c (nx (A5 (rp a) (rp b) (rp c) (rp d) (rp b)) (B1 b a) a)) (nx (A5 (rp a) (rp b) (rp c) (rp d) (rp b)) (B1 b a) a))) (nx (A5 (rp a) (rp b) (rp c) (rp d) (rp c)) (B1 c (nx (A5 (rp a) (rp b) (rp c) (rp d) (rp b)) (B1 b a) a)) (nx (A5 (rp a) (rp b) (rp c) (rp d) (rp b)) (B1 b a) a)))=rp (nx (A5 (rp a) (rp b) (rp c) (rp d) (rp d)) (B3 d (nx (A5 (rp a) (rp b) (rp c) (rp d) (rp c)) (B3 c (nx (A5 (rp a) (rp b) (rp c) (rp d) (rp b)) (B3 b a) a)) (nx (A5 (rp a) (rp b) (rp c) (rp d) (rp b)) (B3 b a) a))) (nx (A5 (rp a) (rp b) (rp c) (rp d) (rp c)) (B3 c (nx (A5 (rp a) (rp b) (rp c) (rp d) (rp b)) (B3 b a) a)) (nx (A5 (rp a) (rp b) (rp c) (rp d) (rp b)) (B3 b a) a))))) :: []) [11] [some [[.t 52]],none,some [[.t 52]],none,some [[.t 52]],none,some [[.t 52]],none,some [[.t 52]],some [[.c 5 0,.c 5 1,.c 5 2,.c 5 3,.c 5 4,.c 5 5]],some [[.c 5 6,.c 5 7,.c 5 8,.c 5 9,.c 5 10,.c 5 11]],some [[.c 5 0,.c 5 1,.c 5 2,.c 5 3,.c 5 4,.c 5 5],[.c 5 6,.c 5 7,.c 5 8,.c 5 9,.c 5 10,.c 5 11]],some [[.t 52]],some [[.c 4 0,.c 4 1,.c 4 2,.c 4 3,.c 4 4,.c 4 5]],some [[.c 4 6,.c 4 7,.c 4 8,.c 4 9,.c 4 10,.c 4 11]],some [[.c 4 0,.c 4 1,.c 4 2,.c 4 3,.c 4 4,.c 4 5],[.c 4 6,.c 4 7,.c 4 8,.c 4 9,.c 4 10,.c 4 11]],some [[.t 52]],some [[.c 4 0,.c 4 1,.c 4 2,.c 4 3,.c 4 4,.c 4 5]],some [[.c 4 6,.c 4 7,.c 4 8,.c 4 9,.c 4 10,.c 4 11]],some [[.c 4 0,.c 4 1,.c 4 2,.c 4 3,.c 4 4,.c 4 5],[.c 4 6,.c 4 7,.c 4 8,.c 4 9,.c 4 10,.c 4 11]],some [[.t 52]],some [[.c 3 0,.c 3 1,.c 3 2,.c 3 3,.c 3 4,.c 3 5]],some [[.c 3 6,.c 3 7,.c 3 8,.c 3 9,.c 3 10,.c 3 11]],some [[.c 3 0,.c 3 1,.c 3 2,.c 3 3,.c 3 4,.c 3 5],[.c 3 6,.c 3 7,.c 3 8,.c 3 9,.c 3 10,.c 3 11]],some [[.t 52]],some [[.c 3 0,.c 3 1,.c 3 2,.c 3 3,.c 3 4,.c 3 5]],some [[.c 3 6,.c 3 7,.c 3 8,.c 3 9,.c 3 10,.c 3 11]],some [[.c 3 0,.c 3 1,.c 3 2,.c 3 3,.c 3 4,.c 3 5],[.c 3 6,.c 3 7,.c 3 8,.c 3 9,.c 3 10,.c 3 11]],some [[.t 52]],some [[.c 3 0,.c 3 1,.c 3 2,.c 3 3,.c 3 4,.c 3 5]],some [[.c 3 6,.c 3 7,.c 3 8,.c 3 9,.c 3 10,.c 3 11]],some [[.c 3 0,.c 3 1,.c 3 2,.c 3 3,.c 3 4,.c 3 5],[.c 3 6,.c 3 7,.c 3 8,.c 3 9,.c 3 10,.c 3 11]]] (.cons Ha (.cons Hb .nil)) (rs:=((cl 2 110 [ag 12 0,ag 12 1],[]) :: (cl 4 46 [ag 12 0,ag 6 0],[(3,0,true)]) :: (cl 5 46 [ag 12 1,ag 6 0],[(3,0,true)]) :: (co 6 (.unOp .not 4 (.tmp 50)) 4 [on 5] [0,1,2,3,4,5] [],[(3,0,true)]) :: (cla 7 46 [ag 12 0,ag 6 0] [0,1,2,3],[(3,0,false)]) :: (cla 9 15 [ag 6 0,ag 6 0] [0,1,2,3,8],[(8,0,false)]) :: (cla 10 15 [ag 6 0,ag 6 0] [0,1,2,3,8,9],[(8,0,false)]) :: (cla 12 46 [ag 12 0,.v true [.an 0 6,.an 0 7,.an 0 8,.an 0 9,.an 0 10,.an 0 11]] [0,1,2,3,8,11],[(11,0,true),(8,0,true)]) :: (cla 13 46 [ag 12 1,.v true [.an 0 6,.an 0 7,.an 0 8,.an 0 9,.an 0 10,.an 0 11]] [0,1,2,3,8,11,12],[(11,0,true),(8,0,true)]) :: (co 14 (.unOp .not 4 (.tmp 50)) 4 [on 13] [0,1,2,3,8,11,12,13] [],[(11,0,true),(8,0,true)]) :: (cla 15 46 [ag 12 0,.v true [.an 0 6,.an 0 7,.an 0 8,.an 0 9,.an 0 10,.an 0 11]] [0,1,2,3,8,11],[(11,0,false),(8,0,true)]) :: (cla 17 15 [.v true [.an 0 6,.an 0 7,.an 0 8,.an 0 9,.an 0 10,.an 0 11],.v true [.an 0 6,.an 0 7,.an 0 8,.an 0 9,.an 0 10,.an 0 11]] [0,1,2,3,8,11,16],[(16,0,false),(8,0,true)]) :: (cla 18 15 [.v true [.an 0 6,.an 0 7,.an 0 8,.an 0 9,.an 0 10,.an 0 11],.v true [.an 0 6,.an 0 7,.an 0 8,.an 0 9,.an 0 10,.an 0 11]] [0,1,2,3,8,11,16,17],[(16,0,false),(8,0,true)]) :: (cla 20 46 [ag 12 0,ag 6 1] [0,1,2,3,8,11,16,19],[(19,0,true),(16,0,true),(8,0,true)]) :: (cla 21 46 [ag 12 1,ag 6 1] [0,1,2,3,8,11,16,19,20],[(19,0,true),(16,0,true),(8,0,true)]) :: (co 22 (.unOp .not 4 (.tmp 50)) 4 [on 21] [0,1,2,3,8,11,16,19,20,21] [],[(19,0,true),(16,0,true),(8,0,true)]) :: (cla 23 46 [ag 12 0,ag 6 1] [0,1,2,3,8,11,16,19],[(19,0,false),(16,0,true),(8,0,true)]) :: (cla 25 15 [ag 6 1,ag 6 1] [0,1,2,3,8,11,16,19,24],[(24,0,false),(16,0,true),(8,0,true)]) :: (cla 26 15 [ag 6 1,ag 6 1] [0,1,2,3,8,11,16,19,24,25],[(24,0,false),(16,0,true),(8,0,true)]) :: (cla 28 46 [ag 12 0,.v true [.an 1 6,.an 1 7,.an 1 8,.an 1 9,.an 1 10,.an 1 11]] [0,1,2,3,8,11,16,19,24,27],[(27,0,true),(24,0,true),(16,0,true),(8,0,true)]) :: (cla 29 46 [ag 12 1,.v true [.an 1 6,.an 1 7,.an 1 8,.an 1 9,.an 1 10,.an 1 11]] [0,1,2,3,8,11,16,19,24,27,28],[(27,0,true),(24,0,true),(16,0,true),(8,0,true)]) :: (co 30 (.unOp .not 4 (.tmp 50)) 4 [on 29] [0,1,2,3,8,11,16,19,24,27,28,29] [],[(27,0,true),(24,0,true),(16,0,true),(8,0,true)]) :: (cla 31 46 [ag 12 0,.v true [.an 1 6,.an 1 7,.an 1 8,.an 1 9,.an 1 10,.an 1 11]] [0,1,2,3,8,11,16,19,24,27],[(27,0,false),(24,0,true),(16,0,true),(8,0,true)]) :: (cla 33 15 [.v true [.an 1 6,.an 1 7,.an 1 8,.an 1 9,.an 1 10,.an 1 11],.v true [.an 1 6,.an 1 7,.an 1 8,.an 1 9,.an 1 10,.an 1 11]] [0,1,2,3,8,11,16,19,24,27,32],[(32,0,false),(24,0,true),(16,0,true),(8,0,true)]) :: (cla 34 15 [.v true [.an 1 6,.an 1 7,.an 1 8,.an 1 9,.an 1 10,.an 1 11],.v true [.an 1 6,.an 1 7,.an 1 8,.an 1 9,.an 1 10,.an 1 11]] [0,1,2,3,8,11,16,19,24,27,32,33],[(32,0,false),(24,0,true),(16,0,true),(8,0,true)]) :: (cla 36 46 [ag 12 0,.v true [.an 1 6,.an 1 7,.an 1 8,.an 1 9,.an 1 10,.an 1 11]] [0,1,2,3,8,11,16,19,24,25,26,35],[(35,0,true),(24,0,false),(16,0,true),(8,0,true)]) :: (cla 37 46 [ag 12 1,.v true [.an 1 6,.an 1 7,.an 1 8,.an 1 9,.an 1 10,.an 1 11]] [0,1,2,3,8,11,16,19,24,25,26,35,36],[(35,0,true),(24,0,false),(16,0,true),(8,0,true)]) :: (co 38 (.unOp .not 4 (.tmp 50)) 4 [on 37] [0,1,2,3,8,11,16,19,24,25,26,35,36,37] [],[(35,0,true),(24,0,false),(16,0,true),(8,0,true)]) :: (cla 39 46 [ag 12 0,.v true [.an 1 6,.an 1 7,.an 1 8,.an 1 9,.an 1 10,.an 1 11]] [0,1,2,3,8,11,16,19,24,25,26,35],[(35,0,false),(24,0,false),(16,0,true),(8,0,true)]) :: (cla 41 15 [.v true [.an 1 6,.an 1 7,.an 1 8,.an 1 9,.an 1 10,.an 1 11],ag 6 1] [0,1,2,3,8,11,16,19,24,25,26,35,40],[(40,0,false),(24,0,false),(16,0,true),(8,0,true)]) :: (co 42 (.binOp .lss 3 (.tmp 69) (.const (.int .i64 0)) 3) 4 [on 41,.v false [.lit (.int .i64 0)]] [0,1,2,3,8,11,16,19,24,25,26,35,40,41] [],[(40,0,false),(24,0,false),(16,0,true),(8,0,true)]) :: (cla 44 15 [.v true [.an 1 6,.an 1 7,.an 1 8,.an 1 9,.an 1 10,.an 1 11],ag 6 1] [0,1,2,3,8,11,16,19,24,25,26,35,40,41,42,43],[(40,0,false),(24,0,false),(16,0,true),(8,0,true)]) :: (co 45 (.binOp .gtr 3 (.tmp 82) (.const (.int .i64 0)) 3) 4 [on 44,.v false [.lit (.int .i64 0)]] [0,1,2,3,8,11,16,19,24,25,26,35,40,41,42,43,44] [],[(40,0,false),(24,0,false),(16,0,true),(8,0,true)]) :: (cla 50 46 [ag 12 0,ag 6 1] [0,1,2,3,8,11,16,17,18,49],[(49,0,true),(16,0,false),(8,0,true)]) :: (cla 51 46 [ag 12 1,ag 6 1] [0,1,2,3,8,11,16,17,18,49,50],[(49,0,true),(16,0,false),(8,0,true)]) :: (co 52 (.unOp .not 4 (.tmp 50)) 4 [on 51] [0,1,2,3,8,11,16,17,18,49,50,51] [],[(49,0,true),(16,0,false),(8,0,true)]) :: (cla 53 46 [ag 12 0,ag 6 1] [0,1,2,3,8,11,16,17,18,49],[(49,0,false),(16,0,false),(8,0,true)]) :: (cla 55 15 [ag 6 1,.v true [.an 0 6,.an 0 7,.an 0 8,.an 0 9,.an 0 10,.an 0 11]] [0,1,2,3,8,11,16,17,18,49,54],[(54,0,false),(16,0,false),(8,0,true)]) :: (co 56 (.binOp .lss 3 (.tmp 69) (.const (.int .i64 0)) 3) 4 [on 55,.v false [.lit (.int .i64 0)]] [0,1,2,3,8,11,16,17,18,49,54,55] [],[(54,0,false),(16,0,false),(8,0,true)]) :: (cla 58 15 [ag 6 1,.v true [.an 0 6,.an 0 7,.an 0 8,.an 0 9,.an 0 10,.an 0 11]] [0,1,2,3,8,11,16,17,18,49,54,55,56,57],[(54,0,false),(16,0,false),(8,0,true)]) :: (co 59 (.binOp .gtr 3 (.tmp 82) (.const (.int .i64 0)) 3) 4 [on 58,.v false [.lit (.int .i64 0)]] [0,1,2,3,8,11,16,17,18,49,54,55,56,57,58] [],[(54,0,false),(16,0,false),(8,0,true)]) :: (cla 64 46 [ag 12 0,.v true [.an 1 6,.an 1 7,.an 1 8,.an 1 9,.an 1 10,.an 1 11]] [0,1,2,3,8,11,16,17,18,49,54,61,62,63],[(63,0,true),(16,0,false),(8,0,true)]) :: (cla 65 46 [ag 12 1,.v true [.an 1 6,.an 1 7,.an 1 8,.an 1 9,.an 1 10,.an 1 11]] [0,1,2,3,8,11,16,17,18,49,54,61,62,63,64],[(63,0,true),(16,0,false),(8,0,true)]) :: (co 66 (.unOp .not 4 (.tmp 50)) 4 [on 65] [0,1,2,3,8,11,16,17,18,49,54,61,62,63,64,65] [],[(63,0,true),(16,0,false),(8,0,true)]) :: (cla 67 46 [ag 12 0,.v true [.an 1 6,.an 1 7,.an 1 8,.an 1 9,.an 1 10,.an 1 11]] [0,1,2,3,8,11,16,17,18,49,54,61,62,63],[(63,0,false),(16,0,false),(8,0,true)]) :: (cla 69 15 [.v true [.an 1 6,.an 1 7,.an 1 8,.an 1 9,.an 1 10,.an 1 11],ag 6 61] [0,1,2,3,8,11,16,17,18,49,54,61,62,63,68],[(68,0,false),(16,0,false),(8,0,true)]) :: (co 70 (.binOp .lss 3 (.tmp 69) (.const (.int .i64 0)) 3) 4 [on 69,.v false [.lit (.int .i64 0)]] [0,1,2,3,8,11,16,17,18,49,54,61,62,63,68,69] [],[(68,0,false),(16,0,false),(8,0,true)]) :: (cla 72 15 [.v true [.an 1 6,.an 1 7,.an 1 8,.an 1 9,.an 1 10,.an 1 11],ag 6 62] [0,1,2,3,8,11,16,17,18,49,54,61,62,63,68,69,70,71],[(68,0,false),(16,0,false),(8,0,true)]) :: (co 73 (.binOp .gtr 3 (.tmp 82) (.const (.int .i64 0)) 3) 4 [on 72,.v false [.lit (.int .i64 0)]] [0,1,2,3,8,11,16,17,18,49,54,61,62,63,68,69,70,71,72] [],[(68,0,false),(16,0,false),(8,0,true)]) :: (cla 78 46 [ag 12 0,.v true [.an 0 6,.an 0 7,.an 0 8,.an 0 9,.an 0 10,.an 0 11]] [0,1,2,3,8,9,10,77],[(77,0,true),(8,0,false)]) :: (cla 79 46 [ag 12 1,.v true [.an 0 6,.an 0 7,.an 0 8,.an 0 9,.an 0 10,.an 0 11]] [0,1,2,3,8,9,10,77,78],[(77,0,true),(8,0,false)]) :: (co 80 (.unOp .not 4 (.tmp 50)) 4 [on 79] [0,1,2,3,8,9,10,77,78,79] [],[(77,0,true),(8,0,false)]) :: (cla 81 46 [ag 12 0,.v true [.an 0 6,.an 0 7,.an 0 8,.an 0 9,.an 0 10,.an 0 11]] [0,1,2,3,8,9,10,77],[(77,0,false),(8,0,false)]) :: (cla 83 15 [.v true [.an 0 6,.an 0 7,.an 0 8,.an 0 9,.an 0 10,.an 0 11],ag 6 0] [0,1,2,3,8,9,10,77,82],[(82,0,false),(8,0,false)]) :: (co 84 (.binOp .lss 3 (.tmp 69) (.const (.int .i64 0)) 3) 4 [on 83,.v false [.lit (.int .i64 0)]] [0,1,2,3,8,9,10,77,82,83] [],[(82,0,false),(8,0,false)]) :: (cla 86 15 [.v true [.an 0 6,.an 0 7,.an 0 8,.an 0 9,.an 0 10,.an 0 11],ag 6 0] [0,1,2,3,8,9,10,77,82,83,84,85],[(82,0,false),(8,0,false)]) :: (co 87 (.binOp .gtr 3 (.tmp 82) (.const (.int .i64 0)) 3) 4 [on 86,.v false [.lit (.int .i64 0)]] [0,1,2,3,8,9,10,77,82,83,84,85,86] [],[(82,0,false),(8,0,false)]) :: (cla 92 46 [ag 12 0,ag 6 1] [0,1,2,3,8,9,10,77,82,89,90,91],[(91,0,true),(8,0,false)]) :: (cla 93 46 [ag 12 1,ag 6 1] [0,1,2,3,8,9,10,77,82,89,90,91,92],[(91,0,true),(8,0,false)]) :: (co 94 (.unOp .not 4 (.tmp 50)) 4 [on 93] [0,1,2,3,8,9,10,77,82,89,90,91,92,93] [],[(91,0,true),(8,0,false)]) :: (cla 95 46 [ag 12 0,ag 6 1] [0,1,2,3,8,9,10,77,82,89,90,91],[(91,0,false),(8,0,false)]) :: (cla 97 15 [ag 6 1,ag 6 89] [0,1,2,3,8,9,10,77,82,89,90,91,96],[(96,0,false),(8,0,false)]) :: (co 98 (.binOp .lss 3 (.tmp 69) (.const (.int .i64 0)) 3) 4 [on 97,.v false [.lit (.int .i64 0)]] [0,1,2,3,8,9,10,77,82,89,90,91,96,97] [],[(96,0,false),(8,0,false)]) :: (cla 100 15 [ag 6 1,ag 6 90] [0,1,2,3,8,9,10,77,82,89,90,91,96,97,98,99],[(96,0,false),(8,0,false)]) :: (co 101 (.binOp .gtr 3 (.tmp 82) (.const (.int .i64 0)) 3) 4 [on 100,.v false [.lit (.int .i64 0)]] [0,1,2,3,8,9,10,77,82,89,90,91,96,97,98,99,100] [],[(96,0,false),(8,0,false)]) :: (cla 106 46 [ag 12 0,.v true [.an 1 6,.an 1 7,.an 1 8,.an 1 9,.an 1 10,.an 1 11]] [0,1,2,3,8,9,10,77,82,89,90,91,96,103,104,105],[(105,0,true),(8,0,false)]) :: (cla 107 46 [ag 12 1,.v true [.an 1 6,.an 1 7,.an 1 8,.an 1 9,.an 1 10,.an 1 11]] [0,1,2,3,8,9,10,77,82,89,90,91,96,103,104,105,106],[(105,0,true),(8,0,false)]) :: (co 108 (.unOp .not 4 (.tmp 50)) 4 [on 107] [0,1,2,3,8,9,10,77,82,89,90,91,96,103,104,105,106,107] [],[(105,0,true),(8,0,false)]) :: (cla 109 46 [ag 12 0,.v true [.an 1 6,.an 1 7,.an 1 8,.an 1 9,.an 1 10,.an 1 11]] [0,1,2,3,8,9,10,77,82,89,90,91,96,103,104,105],[(105,0,false),(8,0,false)]) :: (cla 111 15 [.v true [.an 1 6,.an 1 7,.an 1 8,.an 1 9,.an 1 10,.an 1 11],ag 6 103] [0,1,2,3,8,9,10,77,82,89,90,91,96,103,104,105,110],[(110,0,false),(8,0,false)]) :: (co 112 (.binOp .lss 3 (.tmp 69) (.const (.int .i64 0)) 3) 4 [on 111,.v false [.lit (.int .i64 0)]] [0,1,2,3,8,9,10,77,82,89,90,91,96,103,104,105,110,111] [],[(110,0,false),(8,0,false)]) :: (cla 114 15 [.v true [.an 1 6,.an 1 7,.an 1 8,.an 1 9,.an 1 10,.an 1 11],ag 6 104] [0,1,2,3,8,9,10,77,82,89,90,91,96,103,104,105,110,111,112,113],[(110,0,false),(8,0,false)]) :: (co 115 (.binOp .gtr 3 (.tmp 82) (.const (.int .i64 0)) 3) 4 [on 114,.v false [.lit (.int .i64 0)]] [0,1,2,3,8,9,10,77,82,89,90,91,96,103,104,105,110,111,112,113,114] [],[(110,0,false),(8,0,false)]) :: (cla 119 15 [.v true [.an 1 6,.an 1 7,.an 1 8,.an 1 9,.an 1 10,.an 1 11],.v true [.an 1 6,.an 1 7,.an 1 8,.an 1 9,.an 1 10,.an 1 11]] [0,1,2,3,8,11,16,19,24,27,32,33,34],[(32,0,false),(24,0,true),(16,0,true),(8,0,true)]) :: (co 120 (.binOp .eql 3 (.tmp 99) (.const (.int .i64 0)) 3) 4 [on 119,.v false [.lit (.int .i64 0)]] [0,1,2,3,8,11,16,19,24,27,32,33,34,119] [],[(32,0,false),(24,0,true),(16,0,true),(8,0,true)]) :: (cla 121 15 [ag 6 47,ag 6 48] [0,1,2,3,8,11,16,19,24,25,26,35,40,47,48],[(24,0,false),(16,0,true),(8,0,true)]) :: (co 122 (.binOp .eql 3 (.tmp 99) (.const (.int .i64 0)) 3) 4 [on 121,.v false [.lit (.int .i64 0)]] [0,1,2,3,8,11,16,19,24,25,26,35,40,47,48,121] [],[(24,0,false),(16,0,true),(8,0,true)]) :: (cla 123 15 [ag 6 75,ag 6 76] [0,1,2,3,8,11,16,17,18,49,54,61,62,63,68,75,76],[(16,0,false),(8,0,true)]) :: (co 124 (.binOp .eql 3 (.tmp 99) (.const (.int .i64 0)) 3) 4 [on 123,.v false [.lit (.int .i64 0)]] [0,1,2,3,8,11,16,17,18,49,54,61,62,63,68,75,76,123] [],[(16,0,false),(8,0,true)]) :: (cla 125 15 [ag 6 117,ag 6 118] [0,1,2,3,8,9,10,77,82,89,90,91,96,103,104,105,110,117,118],[(8,0,false)]) :: (co 126 (.binOp .eql 3 (.tmp 99) (.const (.int .i64 0)) 3) 4 [on 125,.v false [.lit (.int .i64 0)]] [0,1,2,3,8,9,10,77,82,89,90,91,96,103,104,105,110,117,118,125] [],[(8,0,false)]) :: [])) (js:=(.ghost 3 (List.range 3) [] :: .meet [(8,on 6)] (List.range 7) [(3,0,true)] :: .meet [(8,.v false [.lit (.bool true)])] [0,1,2,3,7] [(3,0,false)] :: .test 8 0 [0,1,2,3,8] [] :: .ghost 11 [0,1,2,3,8] [(8,0,true)] :: .meet [(16,on 14)] [0,1,2,3,8,11,12,13,14] [(11,0,true),(8,0,true)] :: .meet [(16,.v false [.lit (.bool true)])] [0,1,2,3,8,11,15] [(11,0,false),(8,0,true)] :: .test 16 0 [0,1,2,3,8,11,16] [(8,0,true)] :: .ghost 19 [0,1,2,3,8,11,16] [(16,0,true),(8,0,true)] :: .meet [(24,on 22)] [0,1,2,3,8,11,16,19,20,21,22] [(19,0,true),(16,0,true),(8,0,true)] :: .meet [(24,.v false [.lit (.bool true)])] [0,1,2,3,8,11,16,19,23] [(19,0,false),(16,0,true),(8,0,true)] :: .test 24 0 [0,1,2,3,8,11,16,19,24] [(16,0,true),(8,0,true)] :: .ghost 27 [0,1,2,3,8,11,16,19,24] [(24,0,true),(16,0,true),(8,0,true)] :: .meet [(32,on 30)] [0,1,2,3,8,11,16,19,24,27,28,29,30] [(27,0,true),(24,0,true),(16,0,true),(8,0,true)] :: .meet [(32,.v false [.lit (.bool true)])] [0,1,2,3,8,11,16,19,24,27,31] [(27,0,false),(24,0,true),(16,0,true),(8,0,true)] :: .test 32 0 [0,1,2,3,8,11,16,19,24,27,32] [(24,0,true),(16,0,true),(8,0,true)] :: .ghost 35 [0,1,2,3,8,11,16,19,24,25,26] [(24,0,false),(16,0,true),(8,0,true)] :: .meet [(40,on 38)] [0,1,2,3,8,11,16,19,24,25,26,35,36,37,38] [(35,0,true),(24,0,false),(16,0,true),(8,0,true)] :: .meet [(40,.v false [.lit (.bool true)])] [0,1,2,3,8,11,16,19,24,25,26,35,39] [(35,0,false),(24,0,false),(16,0,true),(8,0,true)] :: .test 40 0 [0,1,2,3,8,11,16,19,24,25,26,35,40] [(24,0,false),(16,0,true),(8,0,true)] :: .test 42 0 [0,1,2,3,8,11,16,19,24,25,26,35,40,41,42] [(40,0,false),(24,0,false),(16,0,true),(8,0,true)] :: .meet [(43,.v true [.an 1 6,.an 1 7,.an 1 8,.an 1 9,.an 1 10,.an 1 11])] [0,1,2,3,8,11,16,19,24,25,26,35,40,41,42] [(42,0,true),(40,0,false),(24,0,false),(16,0,true),(8,0,true)] :: .meet [(43,ag 6 1)] [0,1,2,3,8,11,16,19,24,25,26,35,40,41,42] [(42,0,false),(40,0,false),(24,0,false),(16,0,true),(8,0,true)] :: .test 45 0 [0,1,2,3,8,11,16,19,24,25,26,35,40,41,42,43,44,45] [(40,0,false),(24,0,false),(16,0,true),(8,0,true)] :: .meet [(46,.v true [.an 1 6,.an 1 7,.an 1 8,.an 1 9,.an 1 10,.an 1 11])] [0,1,2,3,8,11,16,19,24,25,26,35,40,41,42,43,44,45] [(45,0,true),(40,0,false),(24,0,false),(16,0,true),(8,0,true)] :: .meet [(46,ag 6 1)] [0,1,2,3,8,11,16,19,24,25,26,35,40,41,42,43,44,45] [(45,0,false),(40,0,false),(24,0,false),(16,0,true),(8,0,true)] :: .meet [(47,ag 6 1),(48,ag 6 1)] [0,1,2,3,8,11,16,19,24,25,26,35,40] [(40,0,true),(24,0,false),(16,0,true),(8,0,true)] :: .meet [(47,ag 6 43),(48,ag 6 46)] [0,1,2,3,8,11,16,19,24,25,26,35,40,41,42,43,44,45,46] [(40,0,false),(24,0,false),(16,0,true),(8,0,true)] :: .ghost 49 [0,1,2,3,8,11,16,17,18] [(16,0,false),(8,0,true)] :: .meet [(54,on 52)] [0,1,2,3,8,11,16,17,18,49,50,51,52] [(49,0,true),(16,0,false),(8,0,true)] :: .meet [(54,.v false [.lit (.bool true)])] [0,1,2,3,8,11,16,17,18,49,53] [(49,0,false),(16,0,false),(8,0,true)] :: .test 54 0 [0,1,2,3,8,11,16,17,18,49,54] [(16,0,false),(8,0,true)] :: .test 56 0 [0,1,2,3,8,11,16,17,18,49,54,55,56] [(54,0,false),(16,0,false),(8,0,true)] :: .meet [(57,ag 6 1)] [0,1,2,3,8,11,16,17,18,49,54,55,56] [(56,0,true),(54,0,false),(16,0,false),(8,0,true)] :: .meet [(57,.v true [.an 0 6,.an 0 7,.an 0 8,.an 0 9,.an 0 10,.an 0 11])] [0,1,2,3,8,11,16,17,18,49,54,55,56] [(56,0,false),(54,0,false),(16,0,false),(8,0,true)] :: .test 59 0 [0,1,2,3,8,11,16,17,18,49,54,55,56,57,58,59] [(54,0,false),(16,0,false),(8,0,true)] :: .meet [(60,ag 6 1)] [0,1,2,3,8,11,16,17,18,49,54,55,56,57,58,59] [(59,0,true),(54,0,false),(16,0,false),(8,0,true)] :: .meet [(60,.v true [.an 0 6,.an 0 7,.an 0 8,.an 0 9,.an 0 10,.an 0 11])] [0,1,2,3,8,11,16,17,18,49,54,55,56,57,58,59] [(59,0,false),(54,0,false),(16,0,false),(8,0,true)] :: .meet [(61,.v true [.an 0 6,.an 0 7,.an 0 8,.an 0 9,.an 0 10,.an 0 11]),(62,.v true [.an 0 6,.an 0 7,.an 0 8,.an 0 9,.an 0 10,.an 0 11])] [0,1,2,3,8,11,16,17,18,49,54] [(54,0,true),(16,0,false),(8,0,true)] :: .meet [(61,ag 6 57),(62,ag 6 60)] [0,1,2,3,8,11,16,17,18,49,54,55,56,57,58,59,60] [(54,0,false),(16,0,false),(8,0,true)] :: .ghost 63 [0,1,2,3,8,11,16,17,18,49,54,61,62] [(16,0,false),(8,0,true)] :: .meet [(68,on 66)] [0,1,2,3,8,11,16,17,18,49,54,61,62,63,64,65,66] [(63,0,true),(16,0,false),(8,0,true)] :: .meet [(68,.v false [.lit (.bool true)])] [0,1,2,3,8,11,16,17,18,49,54,61,62,63,67] [(63,0,false),(16,0,false),(8,0,true)] :: .test 68 0 [0,1,2,3,8,11,16,17,18,49,54,61,62,63,68] [(16,0,false),(8,0,true)] :: .test 70 0 [0,1,2,3,8,11,16,17,18,49,54,61,62,63,68,69,70] [(68,0,false),(16,0,false),(8,0,true)] :: .meet [(71,.v true [.an 1 6,.an 1 7,.an 1 8,.an 1 9,.an 1 10,.an 1 11])] [0,1,2,3,8,11,16,17,18,49,54,61,62,63,68,69,70] [(70,0,true),(68,0,false),(16,0,false),(8,0,true)] :: .meet [(71,ag 6 61)] [0,1,2,3,8,11,16,17,18,49,54,61,62,63,68,69,70] [(70,0,false),(68,0,false),(16,0,false),(8,0,true)] :: .test 73 0 [0,1,2,3,8,11,16,17,18,49,54,61,62,63,68,69,70,71,72,73] [(68,0,false),(16,0,false),(8,0,true)] :: .meet [(74,.v true [.an 1 6,.an 1 7,.an 1 8,.an 1 9,.an 1 10,.an 1 11])] [0,1,2,3,8,11,16,17,18,49,54,61,62,63,68,69,70,71,72,73] [(73,0,true),(68,0,false),(16,0,false),(8,0,true)] :: .meet [(74,ag 6 62)] [0,1,2,3,8,11,16,17,18,49,54,61,62,63,68,69,70,71,72,73] [(73,0,false),(68,0,false),(16,0,false),(8,0,true)] :: .meet [(75,ag 6 61),(76,ag 6 62)] [0,1,2,3,8,11,16,17,18,49,54,61,62,63,68] [(68,0,true),(16,0,false),(8,0,true)] :: .meet [(75,ag 6 71),(76,ag 6 74)] [0,1,2,3,8,11,16,17,18,49,54,61,62,63,68,69,70,71,72,73,74] [(68,0,false),(16,0,false),(8,0,true)] :: .ghost 77 [0,1,2,3,8,9,10] [(8,0,false)] :: .meet [(82,on 80)] [0,1,2,3,8,9,10,77,78,79,80] [(77,0,true),(8,0,false)] :: .meet [(82,.v false [.lit (.bool true)])] [0,1,2,3,8,9,10,77,81] [(77,0,false),(8,0,false)] :: .test 82 0 [0,1,2,3,8,9,10,77,82] [(8,0,false)] :: .test 84 0 [0,1,2,3,8,9,10,77,82,83,84] [(82,0,false),(8,0,false)] :: .meet [(85,.v true [.an 0 6,.an 0 7,.an 0 8,.an 0 9,.an 0 10,.an 0 11])] [0,1,2,3,8,9,10,77,82,83,84] [(84,0,true),(82,0,false),(8,0,false)] :: .meet [(85,ag 6 0)] [0,1,2,3,8,9,10,77,82,83,84] [(84,0,false),(82,0,false),(8,0,false)] :: .test 87 0 [0,1,2,3,8,9,10,77,82,83,84,85,86,87] [(82,0,false),(8,0,false)] :: .meet [(88,.v true [.an 0 6,.an 0 7,.an 0 8,.an 0 9,.an 0 10,.an 0 11])] [0,1,2,3,8,9,10,77,82,83,84,85,86,87] [(87,0,true),(82,0,false),(8,0,false)] :: .meet [(88,ag 6 0)] [0,1,2,3,8,9,10,77,82,83,84,85,86,87] [(87,0,false),(82,0,false),(8,0,false)] :: .meet [(89,ag 6 0),(90,ag 6 0)] [0,1,2,3,8,9,10,77,82] [(82,0,true),(8,0,false)] :: .meet [(89,ag 6 85),(90,ag 6 88)] [0,1,2,3,8,9,10,77,82,83,84,85,86,87,88] [(82,0,false),(8,0,false)] :: .ghost 91 [0,1,2,3,8,9,10,77,82,89,90] [(8,0,false)] :: .meet [(96,on 94)] [0,1,2,3,8,9,10,77,82,89,90,91,92,93,94] [(91,0,true),(8,0,false)] :: .meet [(96,.v false [.lit (.bool true)])] [0,1,2,3,8,9,10,77,82,89,90,91,95] [(91,0,false),(8,0,false)] :: .test 96 0 [0,1,2,3,8,9,10,77,82,89,90,91,96] [(8,0,false)] :: .test 98 0 [0,1,2,3,8,9,10,77,82,89,90,91,96,97,98] [(96,0,false),(8,0,false)] :: .meet [(99,ag 6 1)] [0,1,2,3,8,9,10,77,82,89,90,91,96,97,98] [(98,0,true),(96,0,false),(8,0,false)] :: .meet [(99,ag 6 89)] [0,1,2,3,8,9,10,77,82,89,90,91,96,97,98] [(98,0,false),(96,0,false),(8,0,false)] :: .test 101 0 [0,1,2,3,8,9,10,77,82,89,90,91,96,97,98,99,100,101] [(96,0,false),(8,0,false)] :: .meet [(102,ag 6 1)] [0,1,2,3,8,9,10,77,82,89,90,91,96,97,98,99,100,101] [(101,0,true),(96,0,false),(8,0,false)] :: .meet [(102,ag 6 90)] [0,1,2,3,8,9,10,77,82,89,90,91,96,97,98,99,100,101] [(101,0,false),(96,0,false),(8,0,false)] :: .meet [(103,ag 6 89),(104,ag 6 90)] [0,1,2,3,8,9,10,77,82,89,90,91,96] [(96,0,true),(8,0,false)] :: .meet [(103,ag 6 99),(104,ag 6 102)] [0,1,2,3,8,9,10,77,82,89,90,91,96,97,98,99,100,101,102] [(96,0,false),(8,0,false)] :: .ghost 105 [0,1,2,3,8,9,10,77,82,89,90,91,96,103,104] [(8,0,false)] :: .meet [(110,on 108)] [0,1,2,3,8,9,10,77,82,89,90,91,96,103,104,105,106,107,108] [(105,0,true),(8,0,false)] :: .meet [(110,.v false [.lit (.bool true)])] [0,1,2,3,8,9,10,77,82,89,90,91,96,103,104,105,109] [(105,0,false),(8,0,false)] :: .test 110 0 [0,1,2,3,8,9,10,77,82,89,90,91,96,103,104,105,110] [(8,0,false)] :: .test 112 0 [0,1,2,3,8,9,10,77,82,89,90,91,96,103,104,105,110,111,112] [(110,0,false),(8,0,false)] :: .meet [(113,.v true [.an 1 6,.an 1 7,.an 1 8,.an 1 9,.an 1 10,.an 1 11])] [0,1,2,3,8,9,10,77,82,89,90,91,96,103,104,105,110,111,112] [(112,0,true),(110,0,false),(8,0,false)] :: .meet [(113,ag 6 103)] [0,1,2,3,8,9,10,77,82,89,90,91,96,103,104,105,110,111,112] [(112,0,false),(110,0,false),(8,0,false)] :: .test 115 0 [0,1,2,3,8,9,10,77,82,89,90,91,96,103,104,105,110,111,112,113,114,115] [(110,0,false),(8,0,false)] :: .meet [(116,.v true [.an 1 6,.an 1 7,.an 1 8,.an 1 9,.an 1 10,.an 1 11])] [0,1,2,3,8,9,10,77,82,89,90,91,96,103,104,105,110,111,112,113,114,115] [(115,0,true),(110,0,false),(8,0,false)] :: .meet [(116,ag 6 104)] [0,1,2,3,8,9,10,77,82,89,90,91,96,103,104,105,110,111,112,113,114,115] [(115,0,false),(110,0,false),(8,0,false)] :: .meet [(117,ag 6 103),(118,ag 6 104)] [0,1,2,3,8,9,10,77,82,89,90,91,96,103,104,105,110] [(110,0,true),(8,0,false)] :: .meet [(117,ag 6 113),(118,ag 6 116)] [0,1,2,3,8,9,10,77,82,89,90,91,96,103,104,105,110,111,112,113,114,115,116] [(110,0,false),(8,0,false)] :: .test 120 0 [0,1,2,3,8,11,16,19,24,27,32,33,34,119,120] [(32,0,false),(24,0,true),(16,0,true),(8,0,true)] :: .test 122 0 [0,1,2,3,8,11,16,19,24,25,26,35,40,47,48,121,122] [(24,0,false),(16,0,true),(8,0,true)] :: .test 124 0 [0,1,2,3,8,11,16,17,18,49,54,61,62,63,68,75,76,123,124] [(16,0,false),(8,0,true)] :: .test 126 0 [0,1,2,3,8,9,10,77,82,89,90,91,96,103,104,105,110,117,118,125,126] [(8,0,false)] :: [])) (outs:=[⟨.v false [.lit (.slice none 0 0)],[0,1,2,3,8,11,16,19,24,27,32],[(32,0,true),(24,0,true),(16,0,true),(8,0,true)],[],[]⟩,⟨.v false [.row 6 0 1 2],[0,1,2,3,8,11,16,19,24,27,32,33,34,119,120],[(120,0,true),(32,0,false),(24,0,true),(16,0,true),(8,0,true)],[(6,34,[.an 1 6,.an 1 7,.an 1 8,.an 1 9,.an 1 10,.an 1 11,.an 1 6,.an 1 7,.an 1 8,.an 1 9,.an 1 10,.an 1 11])],[6]⟩,⟨.v false [.row 6 0 2 2],[0,1,2,3,8,11,16,19,24,27,32,33,34,119,120],[(120,0,false),(32,0,false),(24,0,true),(16,0,true),(8,0,true)],[(6,34,[.an 1 6,.an 1 7,.an 1 8,.an 1 9,.an 1 10,.an 1 11,.an 1 6,.an 1 7,.an 1 8,.an 1 9,.an 1 10,.an 1 11])],[6]⟩,⟨.v false [.row 5 0 1 2],[0,1,2,3,8,11,16,19,24,25,26,35,40,47,48,121,122],[(122,0,true),(24,0,false),(16,0,true),(8,0,true)],[(5,34,[.an 47 0,.an 47 1,.an 47 2,.an 47 3,.an 47 4,.an 47 5,.an 48 0,.an 48 1,.an 48 2,.an 48 3,.an 48 4,.an 48 5])],[5]⟩,⟨.v false [.row 5 0 2 2],[0,1,2,3,8,11,16,19,24,25,26,35,40,47,48,121,122],[(122,0,false),(24,0,false),(16,0,true),(8,0,true)],[(5,34,[.an 47 0,.an 47 1,.an 47 2,.an 47 3,.an 47 4,.an 47 5,.an 48 0,.an 48 1,.an 48 2,.an 48 3,.an 48 4,.an 48 5])],[5]⟩,⟨.v false [.row 4 0 1 2],[0,1,2,3,8,11,16,17,18,49,54,61,62,63,68,75,76,123,124],[(124,0,true),(16,0,false),(8,0,true)],[(4,34,[.an 75 0,.an 75 1,.an 75 2,.an 75 3,.an 75 4,.an 75 5,.an 76 0,.an 76 1,.an 76 2,.an 76 3,.an 76 4,.an 76 5])],[4]⟩,⟨.v false [.row 4 0 2 2],[0,1,2,3,8,11,16,17,18,49,54,61,62,63,68,75,76,123,124],[(124,0,false),(16,0,false),(8,0,true)],[(4,34,[.an 75 0,.an 75 1,.an 75 2,.an 75 3,.an 75 4,.an 75 5,.an 76 0,.an 76 1,.an 76 2,.an 76 3,.an 76 4,.an 76 5])],[4]⟩,⟨.v false [.row 3 0 1 2],[0,1,2,3,8,9,10,77,82,89,90,91,96,103,104,105,110,117,118,125,126],[(126,0,true),(8,0,false)],[(3,34,[.an 117 0,.an 117 1,.an 117 2,.an 117 3,.an 117 4,.an 117 5,.an 118 0,.an 118 1,.an 118 2,.an 118 3,.an 118 4,.an 118 5])],[3]⟩,⟨.v false [.row 3 0 2 2],[0,1,2,3,8,9,10,77,82,89,90,91,96,103,104,105,110,117,118,125,126],[(126,0,false),(8,0,false)],[(3,34,[.an 117 0,.an 117 1,.an 117 2,.an 117 3,.an 117 4,.an 117 5,.an 118 0,.an 118 1,.an 118 2,.an 118 3,.an 118 4,.an 118 5])],[3]⟩]) (nc:=127) (by kernel_rfl)
    ⟨fun σ W g h hp hb=>toV (P6 W _ _ a b c d E (h 0 rfl) (h 1 rfl) hE ba bb bc bd) (by rw [O0 h0]),
    fun σ W g h hp hb=>toV (C7 W _ _ a b a E (h 0 rfl) (hs1 (h 0 rfl)) (by omega) ba bb ba za zb za) (by rw [vb (h 3 rfl) (hp 3 0 true rfl)]),
    fun σ W g h hp hb=>oO (C7 W _ _ c d a E (h 1 rfl) (hs1 (h 0 rfl)) (by omega) bc bd ba zc zd za),
    fun σ W g h hp hb=>fun ρ o ho _ hv=>⟨_,N6 ho ((D3 hv).trans (h 5 rfl)),rfl⟩,
    fun σ W g h hp hb=>toV (C7 W _ _ a b a E (h 0 rfl) (hs1 (h 0 rfl)) (by omega) ba bb ba za zb za) (by rw [vb (h 3 rfl) (hp 3 0 false rfl)]),
    fun σ W g h hp hb=>toV (D2 W _ _ a a E (hs1 (h 0 rfl)) (hs1 (h 0 rfl)) (by omega) ba ba za za) (by rw [O9]),
    fun σ W g h hp hb=>toV (D2 W _ _ a a E (hs1 (h 0 rfl)) (hs1 (h 0 rfl)) (by omega) ba ba za za) (by rw [O9]),
    fun σ W g h hp hb=>toV (C7 W _ _ a b b E (h 0 rfl) (hs2 (h 0 rfl)) (by omega) ba bb bb za zb zb) (by rw [vb (h 11 rfl) (hp 11 0 true rfl)]),
    fun σ W g h hp hb=>oO (C7 W _ _ c d b E (h 1 rfl) (hs2 (h 0 rfl)) (by omega) bc bd bb zc zd zb),
    fun σ W g h hp hb=>fun ρ o ho _ hv=>⟨_,N6 ho ((D3 hv).trans (h 13 rfl)),rfl⟩,
    fun σ W g h hp hb=>toV (C7 W _ _ a b b E (h 0 rfl) (hs2 (h 0 rfl)) (by omega) ba bb bb za zb zb) (by rw [vb (h 11 rfl) (hp 11 0 false rfl)]),
    fun σ W g h hp hb=>toV (D2 W _ _ b b E (hs2 (h 0 rfl)) (hs2 (h 0 rfl)) (by omega) bb bb zb zb) (by rw [O9]),
    fun σ W g h hp hb=>toV (D2 W _ _ b b E (hs2 (h 0 rfl)) (hs2 (h 0 rfl)) (by omega) bb bb zb zb) (by rw [O9]),
    fun σ W g h hp hb=>toV (C7 W _ _ a b c E (h 0 rfl) (hs1 (h 1 rfl)) (by omega) ba bb bc za zb zc) (by rw [vb (h 19 rfl) (hp 19 0 true rfl)]),
    fun σ W g h hp hb=>oO (C7 W _ _ c d c E (h 1 rfl) (hs1 (h 1 rfl)) (by omega) bc bd bc zc zd zc),
    fun σ W g h hp hb=>fun ρ o ho _ hv=>⟨_,N6 ho ((D3 hv).trans (h 21 rfl)),rfl⟩,
    fun σ W g h hp hb=>toV (C7 W _ _ a b c E (h 0 rfl) (hs1 (h 1 rfl)) (by omega) ba bb bc za zb zc) (by rw [vb (h 19 rfl) (hp 19 0 false rfl)]),
    fun σ W g h hp hb=>toV (D2 W _ _ c c E (hs1 (h 1 rfl)) (hs1 (h 1 rfl)) (by omega) bc bc zc zc) (by rw [O9]),
    fun σ W g h hp hb=>toV (D2 W _ _ c c E (hs1 (h 1 rfl)) (hs1 (h 1 rfl)) (by omega) bc bc zc zc) (by rw [O9]),
    fun σ W g h hp hb=>toV (C7 W _ _ a b d E (h 0 rfl) (hs2 (h 1 rfl)) (by omega) ba bb bd za zb zd) (by rw [vb (h 27 rfl) (hp 27 0 true rfl)]),
    fun σ W g h hp hb=>oO (C7 W _ _ c d d E (h 1 rfl) (hs2 (h 1 rfl)) (by omega) bc bd bd zc zd zd),
    fun σ W g h hp hb=>fun ρ o ho _ hv=>⟨_,N6 ho ((D3 hv).trans (h 29 rfl)),rfl⟩,
    fun σ W g h hp hb=>toV (C7 W _ _ a b d E (h 0 rfl) (hs2 (h 1 rfl)) (by omega) ba bb bd za zb zd) (by rw [vb (h 27 rfl) (hp 27 0 false rfl)]),
    fun σ W g h hp hb=>toV (D2 W _ _ d d E (hs2 (h 1 rfl)) (hs2 (h 1 rfl)) (by omega) bd bd zd zd) (by rw [O9]),
    fun σ W g h hp hb=>toV (D2 W _ _ d d E (hs2 (h 1 rfl)) (hs2 (h 1 rfl)) (by omega) bd bd zd zd) (by rw [O9]),
    fun σ W g h hp hb=>toV (C7 W _ _ a b d E (h 0 rfl) (hs2 (h 1 rfl)) (by omega) ba bb bd za zb zd) (by rw [vb (h 35 rfl) (hp 35 0 true rfl)]),
    fun σ W g h hp hb=>oO (C7 W _ _ c d d E (h 1 rfl) (hs2 (h 1 rfl)) (by omega) bc bd bd zc zd zd),
    fun σ W g h hp hb=>fun ρ o ho _ hv=>⟨_,N6 ho ((D3 hv).trans (h 37 rfl)),rfl⟩,
    fun σ W g h hp hb=>toV (C7 W _ _ a b d E (h 0 rfl) (hs2 (h 1 rfl)) (by omega) ba bb bd za zb zd) (by rw [vb (h 35 rfl) (hp 35 0 false rfl)]),
    fun σ W g h hp hb=>toZ (D2 W _ _ d c E (hs2 (h 1 rfl)) (hs1 (h 1 rfl)) (by omega) bd oc.1 zd oc.2) rfl,
    fun σ W g h hp hb=>fun ρ o ho _ hv=>⟨_,P8 _ ho ((A0 hv).1.trans (h 41 rfl)) (A0 hv).2 gM,rfl⟩,
    fun σ W g h hp hb=>toZ (D2 W _ _ d c E (hs2 (h 1 rfl)) (hs1 (h 1 rfl)) (by omega) bd oc.1 zd oc.2) rfl,
    fun σ W g h hp hb=>fun ρ o ho _ hv=>⟨_,G6 _ ho ((A0 hv).1.trans (h 44 rfl)) (A0 hv).2 gZ,rfl⟩,
    fun σ W g h hp hb=>toV (C7 W _ _ a b c E (h 0 rfl) (hs1 (h 1 rfl)) (by omega) ba bb bc za zb zc) (by rw [vb (h 49 rfl) (hp 49 0 true rfl)]),
    fun σ W g h hp hb=>oO (C7 W _ _ c d c E (h 1 rfl) (hs1 (h 1 rfl)) (by omega) bc bd bc zc zd zc),
    fun σ W g h hp hb=>fun ρ o ho _ hv=>⟨_,N6 ho ((D3 hv).trans (h 51 rfl)),rfl⟩,
    fun σ W g h hp hb=>toV (C7 W _ _ a b c E (h 0 rfl) (hs1 (h 1 rfl)) (by omega) ba bb bc za zb zc) (by rw [vb (h 49 rfl) (hp 49 0 false rfl)]),
    fun σ W g h hp hb=>toZ (D2 W _ _ c b E (hs1 (h 1 rfl)) (hs2 (h 0 rfl)) (by omega) bc ob.1 zc ob.2) rfl,
    fun σ W g h hp hb=>fun ρ o ho _ hv=>⟨_,P8 _ ho ((A0 hv).1.trans (h 55 rfl)) (A0 hv).2 gM,rfl⟩,
    fun σ W g h hp hb=>toZ (D2 W _ _ c b E (hs1 (h 1 rfl)) (hs2 (h 0 rfl)) (by omega) bc ob.1 zc ob.2) rfl,
    fun σ W g h hp hb=>fun ρ o ho _ hv=>⟨_,G6 _ ho ((A0 hv).1.trans (h 58 rfl)) (A0 hv).2 gZ,rfl⟩,
    fun σ W g h hp hb=>toV (C7 W _ _ a b d E (h 0 rfl) (hs2 (h 1 rfl)) (by omega) ba bb bd za zb zd) (by rw [vb (h 63 rfl) (hp 63 0 true rfl)]),
    fun σ W g h hp hb=>oO (C7 W _ _ c d d E (h 1 rfl) (hs2 (h 1 rfl)) (by omega) bc bd bd zc zd zd),
    fun σ W g h hp hb=>fun ρ o ho _ hv=>⟨_,N6 ho ((D3 hv).trans (h 65 rfl)),rfl⟩,
    fun σ W g h hp hb=>toV (C7 W _ _ a b d E (h 0 rfl) (hs2 (h 1 rfl)) (by omega) ba bb bd za zb zd) (by rw [vb (h 63 rfl) (hp 63 0 false rfl)]),
    fun σ W g h hp hb=>toZ (D2 W _ _ d (nx (A5 (rp a) (rp b) (rp c) (rp d) (rp c)) (B1 c b) b) E (hs2 (h 1 rfl)) (h 61 rfl) (by omega) bd (B4 (B5 oc ob) ob).1 zd (B4 (B5 oc ob) ob).2) rfl,
    fun σ W g h hp hb=>fun ρ o ho _ hv=>⟨_,P8 _ ho ((A0 hv).1.trans (h 69 rfl)) (A0 hv).2 gM,rfl⟩,
    fun σ W g h hp hb=>toZ (D2 W _ _ d (nx (A5 (rp a) (rp b) (rp c) (rp d) (rp c)) (B3 c b) b) E (hs2 (h 1 rfl)) (h 62 rfl) (by omega) bd (B4 (C2 oc ob) ob).1 zd (B4 (C2 oc ob) ob).2) rfl,
    fun σ W g h hp hb=>fun ρ o ho _ hv=>⟨_,G6 _ ho ((A0 hv).1.trans (h 72 rfl)) (A0 hv).2 gZ,rfl⟩,
    fun σ W g h hp hb=>toV (C7 W _ _ a b b E (h 0 rfl) (hs2 (h 0 rfl)) (by omega) ba bb bb za zb zb) (by rw [vb (h 77 rfl) (hp 77 0 true rfl)]),
    fun σ W g h hp hb=>oO (C7 W _ _ c d b E (h 1 rfl) (hs2 (h 0 rfl)) (by omega) bc bd bb zc zd zb),
    fun σ W g h hp hb=>fun ρ o ho _ hv=>⟨_,N6 ho ((D3 hv).trans (h 79 rfl)),rfl⟩,
    fun σ W g h hp hb=>toV (C7 W _ _ a b b E (h 0 rfl) (hs2 (h 0 rfl)) (by omega) ba bb bb za zb zb) (by rw [vb (h 77 rfl) (hp 77 0 false rfl)]),
    fun σ W g h hp hb=>toZ (D2 W _ _ b a E (hs2 (h 0 rfl)) (hs1 (h 0 rfl)) (by omega) bb oa.1 zb oa.2) rfl,
    fun σ W g h hp hb=>fun ρ o ho _ hv=>⟨_,P8 _ ho ((A0 hv).1.trans (h 83 rfl)) (A0 hv).2 gM,rfl⟩,
    fun σ W g h hp hb=>toZ (D2 W _ _ b a E (hs2 (h 0 rfl)) (hs1 (h 0 rfl)) (by omega) bb oa.1 zb oa.2) rfl,
    fun σ W g h hp hb=>fun ρ o ho _ hv=>⟨_,G6 _ ho ((A0 hv).1.trans (h 86 rfl)) (A0 hv).2 gZ,rfl⟩,
    fun σ W g h hp hb=>toV (C7 W _ _ a b c E (h 0 rfl) (hs1 (h 1 rfl)) (by omega) ba bb bc za zb zc) (by rw [vb (h 91 rfl) (hp 91 0 true rfl)]),
    fun σ W g h hp hb=>oO (C7 W _ _ c d c E (h 1 rfl) (hs1 (h 1 rfl)) (by omega) bc bd bc zc zd zc),
    fun σ W g h hp hb=>fun ρ o ho _ hv=>⟨_,N6 ho ((D3 hv).trans (h 93 rfl)),rfl⟩,
    fun σ W g h hp hb=>toV (C7 W _ _ a b c E (h 0 rfl) (hs1 (h 1 rfl)) (by omega) ba bb bc za zb zc) (by rw [vb (h 91 rfl) (hp 91 0 false rfl)]),
    fun σ W g h hp hb=>toZ (D2 W _ _ c (nx (A5 (rp a) (rp b) (rp c) (rp d) (rp b)) (B1 b a) a) E (hs1 (h 1 rfl)) (h 89 rfl) (by omega) bc (B4 (B5 ob oa) oa).1 zc (B4 (B5 ob oa) oa).2) rfl,
    fun σ W g h hp hb=>fun ρ o ho _ hv=>⟨_,P8 _ ho ((A0 hv).1.trans (h 97 rfl)) (A0 hv).2 gM,rfl⟩,
    fun σ W g h hp hb=>toZ (D2 W _ _ c (nx (A5 (rp a) (rp b) (rp c) (rp d) (rp b)) (B3 b a) a) E (hs1 (h 1 rfl)) (h 90 rfl) (by omega) bc (B4 (C2 ob oa) oa).1 zc (B4 (C2 ob oa) oa).2) rfl,
    fun σ W g h hp hb=>fun ρ o ho _ hv=>⟨_,G6 _ ho ((A0 hv).1.trans (h 100 rfl)) (A0 hv).2 gZ,rfl⟩,
    fun σ W g h hp hb=>toV (C7 W _ _ a b d E (h 0 rfl) (hs2 (h 1 rfl)) (by omega) ba bb bd za zb zd) (by rw [vb (h 105 rfl) (hp 105 0 true rfl)]),
    fun σ W g h hp hb=>oO (C7 W _ _ c d d E (h 1 rfl) (hs2 (h 1 rfl)) (by omega) bc bd bd zc zd zd),
    fun σ W g h hp hb=>fun ρ o ho _ hv=>⟨_,N6 ho ((D3 hv).trans (h 107 rfl)),rfl⟩,
    fun σ W g h hp hb=>toV (C7 W _ _ a b d E (h 0 rfl) (hs2 (h 1 rfl)) (by omega) ba bb bd za zb zd) (by rw [vb (h 105 rfl) (hp 105 0 false rfl)]),
    fun σ W g h hp hb=>toZ (D2 W _ _ d (nx (A5 (rp a) (rp b) (rp c) (rp d) (rp c)) (B1 c (nx (A5 (rp a) (rp b) (rp c) (rp d) (rp b)) (B1 b a) a)) (nx (A5 (rp a) (rp b) (rp c) (rp d) (rp b)) (B1 b a) a)) E (hs2 (h 1 rfl)) (h 103 rfl) (by omega) bd (B4 (B5 oc (B4 (B5 ob oa) oa)) (B4 (B5 ob oa) oa)).1 zd (B4 (B5 oc (B4 (B5 ob oa) oa)) (B4 (B5 ob oa) oa)).2) rfl,
    fun σ W g h hp hb=>fun ρ o ho _ hv=>⟨_,P8 _ ho ((A0 hv).1.trans (h 111 rfl)) (A0 hv).2 gM,rfl⟩,
    fun σ W g h hp hb=>toZ (D2 W _ _ d (nx (A5 (rp a) (rp b) (rp c) (rp d) (rp c)) (B3 c (nx (A5 (rp a) (rp b) (rp c) (rp d) (rp b)) (B3 b a) a)) (nx (A5 (rp a) (rp b) (rp c) (rp d) (rp b)) (B3 b a) a)) E (hs2 (h 1 rfl)) (h 104 rfl) (by omega) bd (B4 (C2 oc (B4 (C2 ob oa) oa)) (B4 (C2 ob oa) oa)).1 zd (B4 (C2 oc (B4 (C2 ob oa) oa)) (B4 (C2 ob oa) oa)).2) rfl,
    fun σ W g h hp hb=>fun ρ o ho _ hv=>⟨_,G6 _ ho ((A0 hv).1.trans (h 114 rfl)) (A0 hv).2 gZ,rfl⟩,
    fun σ W g h hp hb=>toZ (D2 W _ _ d d E (hs2 (h 1 rfl)) (hs2 (h 1 rfl)) (by omega) od.1 od.1 od.2 od.2) rfl,
    fun σ W g h hp hb=>fun ρ o ho _ hv=>⟨_,D7 _ ho ((A0 hv).1.trans (h 119 rfl)) (A0 hv).2 sB,rfl⟩,
    fun σ W g h hp hb=>toZ (D2 W _ _ (nx (A5 (rp a) (rp b) (rp c) (rp d) (rp d)) (B1 d c) c) (nx (A5 (rp a) (rp b) (rp c) (rp d) (rp d)) (B3 d c) c) E (h 47 rfl) (h 48 rfl) (by omega) (B4 (B5 od oc) oc).1 (B4 (C2 od oc) oc).1 (B4 (B5 od oc) oc).2 (B4 (C2 od oc) oc).2) rfl,
    fun σ W g h hp hb=>fun ρ o ho _ hv=>⟨_,D7 _ ho ((A0 hv).1.trans (h 121 rfl)) (A0 hv).2 sB,rfl⟩,
    fun σ W g h hp hb=>toZ (D2 W _ _ (nx (A5 (rp a) (rp b) (rp c) (rp d) (rp d)) (B1 d (nx (A5 (rp a) (rp b) (rp c) (rp d) (rp c)) (B1 c b) b)) (nx (A5 (rp a) (rp b) (rp c) (rp d) (rp c)) (B1 c b) b)) (nx (A5 (rp a) (rp b) (rp c) (rp d) (rp d)) (B3 d (nx (A5 (rp a) (rp b) (rp c) (rp d) (rp c)) (B3 c b) b)) (nx (A5 (rp a) (rp b) (rp c) (rp d) (rp c)) (B3 c b) b)) E (h 75 rfl) (h 76 rfl) (by omega) (B4 (B5 od (B4 (B5 oc ob) ob)) (B4 (B5 oc ob) ob)).1 (B4 (C2 od (B4 (C2 oc ob) ob)) (B4 (C2 oc ob) ob)).1 (B4 (B5 od (B4 (B5 oc ob) ob)) (B4 (B5 oc ob) ob)).2 (B4 (C2 od (B4 (C2 oc ob) ob)) (B4 (C2 oc ob) ob)).2) rfl,
    fun σ W g h hp hb=>fun ρ o ho _ hv=>⟨_,D7 _ ho ((A0 hv).1.trans (h 123 rfl)) (A0 hv).2 sB,rfl⟩,
    fun σ W g h hp hb=>toZ (D2 W _ _ (nx (A5 (rp a) (rp b) (rp c) (rp d) (rp d)) (B1 d (nx (A5 (rp a) (rp b) (rp c) (rp d) (rp c)) (B1 c (nx (A5 (rp a) (rp b) (rp c) (rp d) (rp b)) (B1 b a) a)) (nx (A5 (rp a) (rp b) (rp c) (rp d) (rp b)) (B1 b a) a))) (nx (A5 (rp a) (rp b) (rp c) (rp d) (rp c)) (B1 c (nx (A5 (rp a) (rp b) (rp c) (rp d) (rp b)) (B1 b a) a)) (nx (A5 (rp a) (rp b) (rp c) (rp d) (rp b)) (B1 b a) a))) (nx (A5 (rp a) (rp b) (rp c) (rp d) (rp d)) (B3 d (nx (A5 (rp a) (rp b) (rp c) (rp d) (rp c)) (B3 c (nx (A5 (rp a) (rp b) (rp c) (rp d) (rp b)) (B3 b a) a)) (nx (A5 (rp a) (rp b) (rp c) (rp d) (rp b)) (B3 b a) a))) (nx (A5 (rp a) (rp b) (rp c) (rp d) (rp c)) (B3 c (nx (A5 (rp a) (rp b) (rp c) (rp d) (rp b)) (B3 b a) a)) (nx (A5 (rp a) (rp b) (rp c) (rp d) (rp b)) (B3 b a) a))) E (h 117 rfl) (h 118 rfl) (by omega) (B4 (B5 od (B4 (B5 oc (B4 (B5 ob oa) oa)) (B4 (B5 ob oa) oa))) (B4 (B5 oc (B4 (B5 ob oa) oa)) (B4 (B5 ob oa) oa))).1 (B4 (C2 od (B4 (C2 oc (B4 (C2 ob oa) oa)) (B4 (C2 ob oa) oa))) (B4 (C2 oc (B4 (C2 ob oa) oa)) (B4 (C2 ob oa) oa))).1 (B4 (B5 od (B4 (B5 oc (B4 (B5 ob oa) oa)) (B4 (B5 ob oa) oa))) (B4 (B5 oc (B4 (B5 ob oa) oa)) (B4 (B5 ob oa) oa))).2 (B4 (C2 od (B4 (C2 oc (B4 (C2 ob oa) oa)) (B4 (C2 ob oa) oa))) (B4 (C2 oc (B4 (C2 ob oa) oa)) (B4 (C2 ob oa) oa))).2) rfl,
    fun σ W g h hp hb=>fun ρ o ho _ hv=>⟨_,D7 _ ho ((A0 hv).1.trans (h 125 rfl)) (A0 hv).2 sB,rfl⟩,
    trivial⟩
    ⟨fun σ W g h hp=>⟨rfl,_,rfl⟩,
    fun σ W g h hp=>⟨(h 6 rfl).trans (by rw [X1 (K4 (vb (h 3 rfl) (hp 3 0 true rfl)))]),trivial⟩,
    fun σ W g h hp=>⟨by show Value.bool true = .bool (!dec (A5 (rp a) (rp b) (rp c) (rp d) (rp a)));rw [I1 (fun z:(A5 (rp a) (rp b) (rp c) (rp d) (rp a))=>K5 (vb (h 3 rfl) (hp 3 0 false rfl)) z.1)];rfl,trivial⟩,
    fun σ W g h hp=>⟨_,h 8 rfl⟩,
    fun σ W g h hp=>⟨rfl,_,rfl⟩,
    fun σ W g h hp=>⟨(h 14 rfl).trans (by rw [X1 (K4 (vb (h 11 rfl) (hp 11 0 true rfl)))]),trivial⟩,
    fun σ W g h hp=>⟨by show Value.bool true = .bool (!dec (A5 (rp a) (rp b) (rp c) (rp d) (rp b)));rw [I1 (fun z:(A5 (rp a) (rp b) (rp c) (rp d) (rp b))=>K5 (vb (h 11 rfl) (hp 11 0 false rfl)) z.1)];rfl,trivial⟩,
    fun σ W g h hp=>⟨_,h 16 rfl⟩,
    fun σ W g h hp=>⟨rfl,_,rfl⟩,
    fun σ W g h hp=>⟨(h 22 rfl).trans (by rw [X1 (K4 (vb (h 19 rfl) (hp 19 0 true rfl)))]),trivial⟩,
    fun σ W g h hp=>⟨by show Value.bool true = .bool (!dec (A5 (rp a) (rp b) (rp c) (rp d) (rp c)));rw [I1 (fun z:(A5 (rp a) (rp b) (rp c) (rp d) (rp c))=>K5 (vb (h 19 rfl) (hp 19 0 false rfl)) z.1)];rfl,trivial⟩,
    fun σ W g h hp=>⟨_,h 24 rfl⟩,
    fun σ W g h hp=>⟨rfl,_,rfl⟩,
    fun σ W g h hp=>⟨(h 30 rfl).trans (by rw [X1 (K4 (vb (h 27 rfl) (hp 27 0 true rfl)))]),trivial⟩,
    fun σ W g h hp=>⟨by show Value.bool true = .bool (!dec (A5 (rp a) (rp b) (rp c) (rp d) (rp d)));rw [I1 (fun z:(A5 (rp a) (rp b) (rp c) (rp d) (rp d))=>K5 (vb (h 27 rfl) (hp 27 0 false rfl)) z.1)];rfl,trivial⟩,
    fun σ W g h hp=>⟨_,h 32 rfl⟩,
    fun σ W g h hp=>⟨rfl,_,rfl⟩,
    fun σ W g h hp=>⟨(h 38 rfl).trans (by rw [X1 (K4 (vb (h 35 rfl) (hp 35 0 true rfl)))]),trivial⟩,
    fun σ W g h hp=>⟨by show Value.bool true = .bool (!dec (A5 (rp a) (rp b) (rp c) (rp d) (rp d)));rw [I1 (fun z:(A5 (rp a) (rp b) (rp c) (rp d) (rp d))=>K5 (vb (h 35 rfl) (hp 35 0 false rfl)) z.1)];rfl,trivial⟩,
    fun σ W g h hp=>⟨_,h 40 rfl⟩,
    fun σ W g h hp=>⟨_,h 42 rfl⟩,
    fun σ W g h hp=>⟨by show HV W _ (B1 d c);rw [gT (K4 (vb (h 42 rfl) (hp 42 0 true rfl)))];exact hs2 (h 1 rfl),trivial⟩,
    fun σ W g h hp=>⟨by show HV W _ (B1 d c);rw [gU (K5 (vb (h 42 rfl) (hp 42 0 false rfl)))];exact hs1 (h 1 rfl),trivial⟩,
    fun σ W g h hp=>⟨_,h 45 rfl⟩,
    fun σ W g h hp=>⟨by show HV W _ (B3 d c);rw [gV (K4 (vb (h 45 rfl) (hp 45 0 true rfl)))];exact hs2 (h 1 rfl),trivial⟩,
    fun σ W g h hp=>⟨by show HV W _ (B3 d c);rw [gX (K5 (vb (h 45 rfl) (hp 45 0 false rfl)))];exact hs1 (h 1 rfl),trivial⟩,
    fun σ W g h hp=>⟨by show HV W _ (nx (A5 (rp a) (rp b) (rp c) (rp d) (rp d)) (B1 d c) c);rw [jY (fun z=>absurd ((I5 (h 40 rfl) (hp 40 0 true rfl)).1 z) (by decide))];exact hs1 (h 1 rfl),by show HV W _ (nx (A5 (rp a) (rp b) (rp c) (rp d) (rp d)) (B3 d c) c);rw [jY (fun z=>absurd ((I5 (h 40 rfl) (hp 40 0 true rfl)).1 z) (by decide))];exact hs1 (h 1 rfl),trivial⟩,
    fun σ W g h hp=>⟨by show HV W _ (nx (A5 (rp a) (rp b) (rp c) (rp d) (rp d)) (B1 d c) c);rw [jX ((I5 (h 40 rfl) (hp 40 0 false rfl)).2 rfl)];exact h 43 rfl,by show HV W _ (nx (A5 (rp a) (rp b) (rp c) (rp d) (rp d)) (B3 d c) c);rw [jX ((I5 (h 40 rfl) (hp 40 0 false rfl)).2 rfl)];exact h 46 rfl,trivial⟩,
    fun σ W g h hp=>⟨rfl,_,rfl⟩,
    fun σ W g h hp=>⟨(h 52 rfl).trans (by rw [X1 (K4 (vb (h 49 rfl) (hp 49 0 true rfl)))]),trivial⟩,
    fun σ W g h hp=>⟨by show Value.bool true = .bool (!dec (A5 (rp a) (rp b) (rp c) (rp d) (rp c)));rw [I1 (fun z:(A5 (rp a) (rp b) (rp c) (rp d) (rp c))=>K5 (vb (h 49 rfl) (hp 49 0 false rfl)) z.1)];rfl,trivial⟩,
    fun σ W g h hp=>⟨_,h 54 rfl⟩,
    fun σ W g h hp=>⟨_,h 56 rfl⟩,
    fun σ W g h hp=>⟨by show HV W _ (B1 c b);rw [gT (K4 (vb (h 56 rfl) (hp 56 0 true rfl)))];exact hs1 (h 1 rfl),trivial⟩,
    fun σ W g h hp=>⟨by show HV W _ (B1 c b);rw [gU (K5 (vb (h 56 rfl) (hp 56 0 false rfl)))];exact hs2 (h 0 rfl),trivial⟩,
    fun σ W g h hp=>⟨_,h 59 rfl⟩,
    fun σ W g h hp=>⟨by show HV W _ (B3 c b);rw [gV (K4 (vb (h 59 rfl) (hp 59 0 true rfl)))];exact hs1 (h 1 rfl),trivial⟩,
    fun σ W g h hp=>⟨by show HV W _ (B3 c b);rw [gX (K5 (vb (h 59 rfl) (hp 59 0 false rfl)))];exact hs2 (h 0 rfl),trivial⟩,
    fun σ W g h hp=>⟨by show HV W _ (nx (A5 (rp a) (rp b) (rp c) (rp d) (rp c)) (B1 c b) b);rw [jY (fun z=>absurd ((I5 (h 54 rfl) (hp 54 0 true rfl)).1 z) (by decide))];exact hs2 (h 0 rfl),by show HV W _ (nx (A5 (rp a) (rp b) (rp c) (rp d) (rp c)) (B3 c b) b);rw [jY (fun z=>absurd ((I5 (h 54 rfl) (hp 54 0 true rfl)).1 z) (by decide))];exact hs2 (h 0 rfl),trivial⟩,
    fun σ W g h hp=>⟨by show HV W _ (nx (A5 (rp a) (rp b) (rp c) (rp d) (rp c)) (B1 c b) b);rw [jX ((I5 (h 54 rfl) (hp 54 0 false rfl)).2 rfl)];exact h 57 rfl,by show HV W _ (nx (A5 (rp a) (rp b) (rp c) (rp d) (rp c)) (B3 c b) b);rw [jX ((I5 (h 54 rfl) (hp 54 0 false rfl)).2 rfl)];exact h 60 rfl,trivial⟩,
    fun σ W g h hp=>⟨rfl,_,rfl⟩,
    fun σ W g h hp=>⟨(h 66 rfl).trans (by rw [X1 (K4 (vb (h 63 rfl) (hp 63 0 true rfl)))]),trivial⟩,
    fun σ W g h hp=>⟨by show Value.bool true = .bool (!dec (A5 (rp a) (rp b) (rp c) (rp d) (rp d)));rw [I1 (fun z:(A5 (rp a) (rp b) (rp c) (rp d) (rp d))=>K5 (vb (h 63 rfl) (hp 63 0 false rfl)) z.1)];rfl,trivial⟩,
    fun σ W g h hp=>⟨_,h 68 rfl⟩,
    fun σ W g h hp=>⟨_,h 70 rfl⟩,
    fun σ W g h hp=>⟨by show HV W _ (B1 d (nx (A5 (rp a) (rp b) (rp c) (rp d) (rp c)) (B1 c b) b));rw [gT (K4 (vb (h 70 rfl) (hp 70 0 true rfl)))];exact hs2 (h 1 rfl),trivial⟩,
    fun σ W g h hp=>⟨by show HV W _ (B1 d (nx (A5 (rp a) (rp b) (rp c) (rp d) (rp c)) (B1 c b) b));rw [gU (K5 (vb (h 70 rfl) (hp 70 0 false rfl)))];exact h 61 rfl,trivial⟩,
    fun σ W g h hp=>⟨_,h 73 rfl⟩,
    fun σ W g h hp=>⟨by show HV W _ (B3 d (nx (A5 (rp a) (rp b) (rp c) (rp d) (rp c)) (B3 c b) b));rw [gV (K4 (vb (h 73 rfl) (hp 73 0 true rfl)))];exact hs2 (h 1 rfl),trivial⟩,
    fun σ W g h hp=>⟨by show HV W _ (B3 d (nx (A5 (rp a) (rp b) (rp c) (rp d) (rp c)) (B3 c b) b));rw [gX (K5 (vb (h 73 rfl) (hp 73 0 false rfl)))];exact h 62 rfl,trivial⟩,
    fun σ W g h hp=>⟨by show HV W _ (nx (A5 (rp a) (rp b) (rp c) (rp d) (rp d)) (B1 d (nx (A5 (rp a) (rp b) (rp c) (rp d) (rp c)) (B1 c b) b)) (nx (A5 (rp a) (rp b) (rp c) (rp d) (rp c)) (B1 c b) b));rw [jY (fun z=>absurd ((I5 (h 68 rfl) (hp 68 0 true rfl)).1 z) (by decide))];exact h 61 rfl,by show HV W _ (nx (A5 (rp a) (rp b) (rp c) (rp d) (rp d)) (B3 d (nx (A5 (rp a) (rp b) (rp c) (rp d) (rp c)) (B3 c b) b)) (nx (A5 (rp a) (rp b) (rp c) (rp d) (rp c)) (B3 c b) b));rw [jY (fun z=>absurd ((I5 (h 68 rfl) (hp 68 0 true rfl)).1 z) (by decide))];exact h 62 rfl,trivial⟩,
    fun σ W g h hp=>⟨by show HV W _ (nx (A5 (rp a) (rp b) (rp c) (rp d) (rp d)) (B1 d (nx (A5 (rp a) (rp b) (rp c) (rp d) (rp c)) (B1 c b) b)) (nx (A5 (rp a) (rp b) (rp c) (rp d) (rp c)) (B1 c b) b));rw [jX ((I5 (h 68 rfl) (hp 68 0 false rfl)).2 rfl)];exact h 71 rfl,by show HV W _ (nx (A5 (rp a) (rp b) (rp c) (rp d) (rp d)) (B3 d (nx (A5 (rp a) (rp b) (rp c) (rp d) (rp c)) (B3 c b) b)) (nx (A5 (rp a) (rp b) (rp c) (rp d) (rp c)) (B3 c b) b));rw [jX ((I5 (h 68 rfl) (hp 68 0 false rfl)).2 rfl)];exact h 74 rfl,trivial⟩,
    fun σ W g h hp=>⟨rfl,_,rfl⟩,
    fun σ W g h hp=>⟨(h 80 rfl).trans (by rw [X1 (K4 (vb (h 77 rfl) (hp 77 0 true rfl)))]),trivial⟩,
    fun σ W g h hp=>⟨by show Value.bool true = .bool (!dec (A5 (rp a) (rp b) (rp c) (rp d) (rp b)));rw [I1 (fun z:(A5 (rp a) (rp b) (rp c) (rp d) (rp b))=>K5 (vb (h 77 rfl) (hp 77 0 false rfl)) z.1)];rfl,trivial⟩,
    fun σ W g h hp=>⟨_,h 82 rfl⟩,
    fun σ W g h hp=>⟨_,h 84 rfl⟩,
    fun σ W g h hp=>⟨by show HV W _ (B1 b a);rw [gT (K4 (vb (h 84 rfl) (hp 84 0 true rfl)))];exact hs2 (h 0 rfl),trivial⟩,
    fun σ W g h hp=>⟨by show HV W _ (B1 b a);rw [gU (K5 (vb (h 84 rfl) (hp 84 0 false rfl)))];exact hs1 (h 0 rfl),trivial⟩,
    fun σ W g h hp=>⟨_,h 87 rfl⟩,
    fun σ W g h hp=>⟨by show HV W _ (B3 b a);rw [gV (K4 (vb (h 87 rfl) (hp 87 0 true rfl)))];exact hs2 (h 0 rfl),trivial⟩,
    fun σ W g h hp=>⟨by show HV W _ (B3 b a);rw [gX (K5 (vb (h 87 rfl) (hp 87 0 false rfl)))];exact hs1 (h 0 rfl),trivial⟩,
    fun σ W g h hp=>⟨by show HV W _ (nx (A5 (rp a) (rp b) (rp c) (rp d) (rp b)) (B1 b a) a);rw [jY (fun z=>absurd ((I5 (h 82 rfl) (hp 82 0 true rfl)).1 z) (by decide))];exact hs1 (h 0 rfl),by show HV W _ (nx (A5 (rp a) (rp b) (rp c) (rp d) (rp b)) (B3 b a) a);rw [jY (fun z=>absurd ((I5 (h 82 rfl) (hp 82 0 true rfl)).1 z) (by decide))];exact hs1 (h 0 rfl),trivial⟩,
    fun σ W g h hp=>⟨by show HV W _ (nx (A5 (rp a) (rp b) (rp c) (rp d) (rp b)) (B1 b a) a);rw [jX ((I5 (h 82 rfl) (hp 82 0 false rfl)).2 rfl)];exact h 85 rfl,by show HV W _ (nx (A5 (rp a) (rp b) (rp c) (rp d) (rp b)) (B3 b a) a);rw [jX ((I5 (h 82 rfl) (hp 82 0 false rfl)).2 rfl)];exact h 88 rfl,trivial⟩,
    fun σ W g h hp=>⟨rfl,_,rfl⟩,
    fun σ W g h hp=>⟨(h 94 rfl).trans (by rw [X1 (K4 (vb (h 91 rfl) (hp 91 0 true rfl)))]),trivial⟩,
    fun σ W g h hp=>⟨by show Value.bool true = .bool (!dec (A5 (rp a) (rp b) (rp c) (rp d) (rp c)));rw [I1 (fun z:(A5 (rp a) (rp b) (rp c) (rp d) (rp c))=>K5 (vb (h 91 rfl) (hp 91 0 false rfl)) z.1)];rfl,trivial⟩,
    fun σ W g h hp=>⟨_,h 96 rfl⟩,
    fun σ W g h hp=>⟨_,h 98 rfl⟩,
    fun σ W g h hp=>⟨by show HV W _ (B1 c (nx (A5 (rp a) (rp b) (rp c) (rp d) (rp b)) (B1 b a) a));rw [gT (K4 (vb (h 98 rfl) (hp 98 0 true rfl)))];exact hs1 (h 1 rfl),trivial⟩,
    fun σ W g h hp=>⟨by show HV W _ (B1 c (nx (A5 (rp a) (rp b) (rp c) (rp d) (rp b)) (B1 b a) a));rw [gU (K5 (vb (h 98 rfl) (hp 98 0 false rfl)))];exact h 89 rfl,trivial⟩,
    fun σ W g h hp=>⟨_,h 101 rfl⟩,
    fun σ W g h hp=>⟨by show HV W _ (B3 c (nx (A5 (rp a) (rp b) (rp c) (rp d) (rp b)) (B3 b a) a));rw [gV (K4 (vb (h 101 rfl) (hp 101 0 true rfl)))];exact hs1 (h 1 rfl),trivial⟩,
    fun σ W g h hp=>⟨by show HV W _ (B3 c (nx (A5 (rp a) (rp b) (rp c) (rp d) (rp b)) (B3 b a) a));rw [gX (K5 (vb (h 101 rfl) (hp 101 0 false rfl)))];exact h 90 rfl,trivial⟩,
    fun σ W g h hp=>⟨by show HV W _ (nx (A5 (rp a) (rp b) (rp c) (rp d) (rp c)) (B1 c (nx (A5 (rp a) (rp b) (rp c) (rp d) (rp b)) (B1 b a) a)) (nx (A5 (rp a) (rp b) (rp c) (rp d) (rp b)) (B1 b a) a));rw [jY (fun z=>absurd ((I5 (h 96 rfl) (hp 96 0 true rfl)).1 z) (by decide))];exact h 89 rfl,by show HV W _ (nx (A5 (rp a) (rp b) (rp c) (rp d) (rp c)) (B3 c (nx (A5 (rp a) (rp b) (rp c) (rp d) (rp b)) (B3 b a) a)) (nx (A5 (rp a) (rp b) (rp c) (rp d) (rp b)) (B3 b a) a));rw [jY (fun z=>absurd ((I5 (h 96 rfl) (hp 96 0 true rfl)).1 z) (by decide))];exact h 90 rfl,trivial⟩,
    fun σ W g h hp=>⟨by show HV W _ (nx (A5 (rp a) (rp b) (rp c) (rp d) (rp c)) (B1 c (nx (A5 (rp a) (rp b) (rp c) (rp d) (rp b)) (B1 b a) a)) (nx (A5 (rp a) (rp b) (rp c) (rp d) (rp b)) (B1 b a) a));rw [jX ((I5 (h 96 rfl) (hp 96 0 false rfl)).2 rfl)];exact h 99 rfl,by show HV W _ (nx (A5 (rp a) (rp b) (rp c) (rp d) (rp c)) (B3 c (nx (A5 (rp a) (rp b) (rp c) (rp d) (rp b)) (B3 b a) a)) (nx (A5 (rp a) (rp b) (rp c) (rp d) (rp b)) (B3 b a) a));rw [jX ((I5 (h 96 rfl) (hp 96 0 false rfl)).2 rfl)];exact h 102 rfl,trivial⟩,
    fun σ W g h hp=>⟨rfl,_,rfl⟩,
    fun σ W g h hp=>⟨(h 108 rfl).trans (by rw [X1 (K4 (vb (h 105 rfl) (hp 105 0 true rfl)))]),trivial⟩,
    fun σ W g h hp=>⟨by show Value.bool true = .bool (!dec (A5 (rp a) (rp b) (rp c) (rp d) (rp d)));rw [I1 (fun z:(A5 (rp a) (rp b) (rp c) (rp d) (rp d))=>K5 (vb (h 105 rfl) (hp 105 0 false rfl)) z.1)];rfl,trivial⟩,
    fun σ W g h hp=>⟨_,h 110 rfl⟩,
    fun σ W g h hp=>⟨_,h 112 rfl⟩,
    fun σ W g h hp=>⟨by show HV W _ (B1 d (nx (A5 (rp a) (rp b) (rp c) (rp d) (rp c)) (B1 c (nx (A5 (rp a) (rp b) (rp c) (rp d) (rp b)) (B1 b a) a)) (nx (A5 (rp a) (rp b) (rp c) (rp d) (rp b)) (B1 b a) a)));rw [gT (K4 (vb (h 112 rfl) (hp 112 0 true rfl)))];exact hs2 (h 1 rfl),trivial⟩,
    fun σ W g h hp=>⟨by show HV W _ (B1 d (nx (A5 (rp a) (rp b) (rp c) (rp d) (rp c)) (B1 c (nx (A5 (rp a) (rp b) (rp c) (rp d) (rp b)) (B1 b a) a)) (nx (A5 (rp a) (rp b) (rp c) (rp d) (rp b)) (B1 b a) a)));rw [gU (K5 (vb (h 112 rfl) (hp 112 0 false rfl)))];exact h 103 rfl,trivial⟩,
    fun σ W g h hp=>⟨_,h 115 rfl⟩,
    fun σ W g h hp=>⟨by show HV W _ (B3 d (nx (A5 (rp a) (rp b) (rp c) (rp d) (rp c)) (B3 c (nx (A5 (rp a) (rp b) (rp c) (rp d) (rp b)) (B3 b a) a)) (nx (A5 (rp a) (rp b) (rp c) (rp d) (rp b)) (B3 b a) a)));rw [gV (K4 (vb (h 115 rfl) (hp 115 0 true rfl)))];exact hs2 (h 1 rfl),trivial⟩,
    fun σ W g h hp=>⟨by show HV W _ (B3 d (nx (A5 (rp a) (rp b) (rp c) (rp d) (rp c)) (B3 c (nx (A5 (rp a) (rp b) (rp c) (rp d) (rp b)) (B3 b a) a)) (nx (A5 (rp a) (rp b) (rp c) (rp d) (rp b)) (B3 b a) a)));rw [gX (K5 (vb (h 115 rfl) (hp 115 0 false rfl)))];exact h 104 rfl,trivial⟩,
    fun σ W g h hp=>⟨by show HV W _ (nx (A5 (rp a) (rp b) (rp c) (rp d) (rp d)) (B1 d (nx (A5 (rp a) (rp b) (rp c) (rp d) (rp c)) (B1 c (nx (A5 (rp a) (rp b) (rp c) (rp d) (rp b)) (B1 b a) a)) (nx (A5 (rp a) (rp b) (rp c) (rp d) (rp b)) (B1 b a) a))) (nx (A5 (rp a) (rp b) (rp c) (rp d) (rp c)) (B1 c (nx (A5 (rp a) (rp b) (rp c) (rp d) (rp b)) (B1 b a) a)) (nx (A5 (rp a) (rp b) (rp c) (rp d) (rp b)) (B1 b a) a)));rw [jY (fun z=>absurd ((I5 (h 110 rfl) (hp 110 0 true rfl)).1 z) (by decide))];exact h 103 rfl,by show HV W _ (nx (A5 (rp a) (rp b) (rp c) (rp d) (rp d)) (B3 d (nx (A5 (rp a) (rp b) (rp c) (rp d) (rp c)) (B3 c (nx (A5 (rp a) (rp b) (rp c) (rp d) (rp b)) (B3 b a) a)) (nx (A5 (rp a) (rp b) (rp c) (rp d) (rp b)) (B3 b a) a))) (nx (A5 (rp a) (rp b) (rp c) (rp d) (rp c)) (B3 c (nx (A5 (rp a) (rp b) (rp c) (rp d) (rp b)) (B3 b a) a)) (nx (A5 (rp a) (rp b) (rp c) (rp d) (rp b)) (B3 b a) a)));rw [jY (fun z=>absurd ((I5 (h 110 rfl) (hp 110 0 true rfl)).1 z) (by decide))];exact h 104 rfl,trivial⟩,
    fun σ W g h hp=>⟨by show HV W _ (nx (A5 (rp a) (rp b) (rp c) (rp d) (rp d)) (B1 d (nx (A5 (rp a) (rp b) (rp c) (rp d) (rp c)) (B1 c (nx (A5 (rp a) (rp b) (rp c) (rp d) (rp b)) (B1 b a) a)) (nx (A5 (rp a) (rp b) (rp c) (rp d) (rp b)) (B1 b a) a))) (nx (A5 (rp a) (rp b) (rp c) (rp d) (rp c)) (B1 c (nx (A5 (rp a) (rp b) (rp c) (rp d) (rp b)) (B1 b a) a)) (nx (A5 (rp a) (rp b) (rp c) (rp d) (rp b)) (B1 b a) a)));rw [jX ((I5 (h 110 rfl) (hp 110 0 false rfl)).2 rfl)];exact h 113 rfl,by show HV W _ (nx (A5 (rp a) (rp b) (rp c) (rp d) (rp d)) (B3 d (nx (A5 (rp a) (rp b) (rp c) (rp d) (rp c)) (B3 c (nx (A5 (rp a) (rp b) (rp c) (rp d) (rp b)) (B3 b a) a)) (nx (A5 (rp a) (rp b) (rp c) (rp d) (rp b)) (B3 b a) a))) (nx (A5 (rp a) (rp b) (rp c) (rp d) (rp c)) (B3 c (nx (A5 (rp a) (rp b) (rp c) (rp d) (rp b)) (B3 b a) a)) (nx (A5 (rp a) (rp b) (rp c) (rp d) (rp b)) (B3 b a) a)));rw [jX ((I5 (h 110 rfl) (hp 110 0 false rfl)).2 rfl)];exact h 116 rfl,trivial⟩,
    fun σ W g h hp=>⟨_,h 120 rfl⟩,
    fun σ W g h hp=>⟨_,h 122 rfl⟩,
    fun σ W g h hp=>⟨_,h 124 rfl⟩,
    fun σ W g h hp=>⟨_,h 126 rfl⟩,
    trivial⟩
    ⟨fun τ W g h hp hb=>by
     have f0:¬ (A5 (rp a) (rp b) (rp c) (rp d) (rp a)):=fun z=>absurd ((I5 (h 8 rfl) (hp 8 0 true rfl)).1 z) (by decide)
     have f1:¬ (A5 (rp a) (rp b) (rp c) (rp d) (rp b)):=fun z=>absurd ((I5 (h 16 rfl) (hp 16 0 true rfl)).1 z) (by decide)
     have f2:¬ (A5 (rp a) (rp b) (rp c) (rp d) (rp c)):=fun z=>absurd ((I5 (h 24 rfl) (hp 24 0 true rfl)).1 z) (by decide)
     have f3:¬ (A5 (rp a) (rp b) (rp c) (rp d) (rp d)):=fun z=>absurd ((I5 (h 32 rfl) (hp 32 0 true rfl)).1 z) (by decide)
     rw [show X0 (rp a) (rp b) (rp c) (rp d)=none by unfold X0;rw [J6 f0,J6 f1,J6 f2,J6 f3]]
     exact hl_nil g,
    fun τ W g h hp hb=>by
     have f0:¬ (A5 (rp a) (rp b) (rp c) (rp d) (rp a)):=fun z=>absurd ((I5 (h 8 rfl) (hp 8 0 true rfl)).1 z) (by decide)
     have f1:¬ (A5 (rp a) (rp b) (rp c) (rp d) (rp b)):=fun z=>absurd ((I5 (h 16 rfl) (hp 16 0 true rfl)).1 z) (by decide)
     have f2:¬ (A5 (rp a) (rp b) (rp c) (rp d) (rp c)):=fun z=>absurd ((I5 (h 24 rfl) (hp 24 0 true rfl)).1 z) (by decide)
     have f3:(A5 (rp a) (rp b) (rp c) (rp d) (rp d)):=(I5 (h 32 rfl) (hp 32 0 false rfl)).2 rfl
     have ed:X0 (rp a) (rp b) (rp c) (rp d)=some (rp d,rp d):=by unfold X0;rw [J6 f0,J6 f1,J6 f2,bN f3]
     rw [ed]
     have e:rp d=rp d:=K4 (vb (h 120 rfl) (hp 120 0 true rfl))
     show Z4 w (4*E+3) (btw (rp d) (rp d)) _ _
     rw [<- e,fJ]
     exact mM (hb.2 _ rfl) g (hb.1.1 _ (.head _)) rfl (by omega) rfl rfl rfl rfl rfl rfl (hs2 (h 1 rfl)) rfl (od.1.mono (by omega)) od.2,
    fun τ W g h hp hb=>by
     have f0:¬ (A5 (rp a) (rp b) (rp c) (rp d) (rp a)):=fun z=>absurd ((I5 (h 8 rfl) (hp 8 0 true rfl)).1 z) (by decide)
     have f1:¬ (A5 (rp a) (rp b) (rp c) (rp d) (rp b)):=fun z=>absurd ((I5 (h 16 rfl) (hp 16 0 true rfl)).1 z) (by decide)
     have f2:¬ (A5 (rp a) (rp b) (rp c) (rp d) (rp c)):=fun z=>absurd ((I5 (h 24 rfl) (hp 24 0 true rfl)).1 z) (by decide)
     have f3:(A5 (rp a) (rp b) (rp c) (rp d) (rp d)):=(I5 (h 32 rfl) (hp 32 0 false rfl)).2 rfl
     have ed:X0 (rp a) (rp b) (rp c) (rp d)=some (rp d,rp d):=by unfold X0;rw [J6 f0,J6 f1,J6 f2,bN f3]
     rw [ed]
     have e:rp d≠rp d:=K5 (vb (h 120 rfl) (hp 120 0 false rfl))
     show Z4 w (4*E+3) (btw (rp d) (rp d)) _ _
     rw [btw_f e]
     exact rX (hb.2 _ rfl) g (hb.1.1 _ (.head _)) (hs2 (h 1 rfl)) (hs2 (h 1 rfl)) rfl rfl (od.1.mono (by omega)) (od.1.mono (by omega)) od.2 od.2,
    fun τ W g h hp hb=>by
     have f0:¬ (A5 (rp a) (rp b) (rp c) (rp d) (rp a)):=fun z=>absurd ((I5 (h 8 rfl) (hp 8 0 true rfl)).1 z) (by decide)
     have f1:¬ (A5 (rp a) (rp b) (rp c) (rp d) (rp b)):=fun z=>absurd ((I5 (h 16 rfl) (hp 16 0 true rfl)).1 z) (by decide)
     have f2:(A5 (rp a) (rp b) (rp c) (rp d) (rp c)):=(I5 (h 24 rfl) (hp 24 0 false rfl)).2 rfl
     have ed:X0 (rp a) (rp b) (rp c) (rp d)=some (rp (nx (A5 (rp a) (rp b) (rp c) (rp d) (rp d)) (B1 d c) c),rp (nx (A5 (rp a) (rp b) (rp c) (rp d) (rp d)) (B3 d c) c)):=by unfold X0;rw [J6 f0,J6 f1,bN f2,O4]
     rw [ed]
     have e:rp (nx (A5 (rp a) (rp b) (rp c) (rp d) (rp d)) (B1 d c) c)=rp (nx (A5 (rp a) (rp b) (rp c) (rp d) (rp d)) (B3 d c) c):=K4 (vb (h 122 rfl) (hp 122 0 true rfl))
     show Z4 w (4*E+3) (btw (rp (nx (A5 (rp a) (rp b) (rp c) (rp d) (rp d)) (B1 d c) c)) (rp (nx (A5 (rp a) (rp b) (rp c) (rp d) (rp d)) (B3 d c) c))) _ _
     rw [<- e,fJ]
     exact mM (hb.2 _ rfl) g (hb.1.1 _ (.head _)) rfl (by omega) rfl rfl rfl rfl rfl rfl (h 47 rfl) rfl ((B4 (B5 od oc) oc).1.mono (by omega)) (B4 (B5 od oc) oc).2,
    fun τ W g h hp hb=>by
     have f0:¬ (A5 (rp a) (rp b) (rp c) (rp d) (rp a)):=fun z=>absurd ((I5 (h 8 rfl) (hp 8 0 true rfl)).1 z) (by decide)
     have f1:¬ (A5 (rp a) (rp b) (rp c) (rp d) (rp b)):=fun z=>absurd ((I5 (h 16 rfl) (hp 16 0 true rfl)).1 z) (by decide)
     have f2:(A5 (rp a) (rp b) (rp c) (rp d) (rp c)):=(I5 (h 24 rfl) (hp 24 0 false rfl)).2 rfl
     have ed:X0 (rp a) (rp b) (rp c) (rp d)=some (rp (nx (A5 (rp a) (rp b) (rp c) (rp d) (rp d)) (B1 d c) c),rp (nx (A5 (rp a) (rp b) (rp c) (rp d) (rp d)) (B3 d c) c)):=by unfold X0;rw [J6 f0,J6 f1,bN f2,O4]
     rw [ed]
     have e:rp (nx (A5 (rp a) (rp b) (rp c) (rp d) (rp d)) (B1 d c) c)≠rp (nx (A5 (rp a) (rp b) (rp c) (rp d) (rp d)) (B3 d c) c):=K5 (vb (h 122 rfl) (hp 122 0 false rfl))
     show Z4 w (4*E+3) (btw (rp (nx (A5 (rp a) (rp b) (rp c) (rp d) (rp d)) (B1 d c) c)) (rp (nx (A5 (rp a) (rp b) (rp c) (rp d) (rp d)) (B3 d c) c))) _ _
     rw [btw_f e]
     exact rX (hb.2 _ rfl) g (hb.1.1 _ (.head _)) (h 47 rfl) (h 48 rfl) rfl rfl ((B4 (B5 od oc) oc).1.mono (by omega)) ((B4 (C2 od oc) oc).1.mono (by omega)) (B4 (B5 od oc) oc).2 (B4 (C2 od oc) oc).2,
    fun τ W g h hp hb=>by
     have f0:¬ (A5 (rp a) (rp b) (rp c) (rp d) (rp a)):=fun z=>absurd ((I5 (h 8 rfl) (hp 8 0 true rfl)).1 z) (by decide)
     have f1:(A5 (rp a) (rp b) (rp c) (rp d) (rp b)):=(I5 (h 16 rfl) (hp 16 0 false rfl)).2 rfl
     have ed:X0 (rp a) (rp b) (rp c) (rp d)=some (rp (nx (A5 (rp a) (rp b) (rp c) (rp d) (rp d)) (B1 d (nx (A5 (rp a) (rp b) (rp c) (rp d) (rp c)) (B1 c b) b)) (nx (A5 (rp a) (rp b) (rp c) (rp d) (rp c)) (B1 c b) b)),rp (nx (A5 (rp a) (rp b) (rp c) (rp d) (rp d)) (B3 d (nx (A5 (rp a) (rp b) (rp c) (rp d) (rp c)) (B3 c b) b)) (nx (A5 (rp a) (rp b) (rp c) (rp d) (rp c)) (B3 c b) b))):=by unfold X0;rw [J6 f0,bN f1,O4,O4]
     rw [ed]
     have e:rp (nx (A5 (rp a) (rp b) (rp c) (rp d) (rp d)) (B1 d (nx (A5 (rp a) (rp b) (rp c) (rp d) (rp c)) (B1 c b) b)) (nx (A5 (rp a) (rp b) (rp c) (rp d) (rp c)) (B1 c b) b))=rp (nx (A5 (rp a) (rp b) (rp c) (rp d) (rp d)) (B3 d (nx (A5 (rp a) (rp b) (rp c) (rp d) (rp c)) (B3 c b) b)) (nx (A5 (rp a) (rp b) (rp c) (rp d) (rp c)) (B3 c b) b)):=K4 (vb (h 124 rfl) (hp 124 0 true rfl))
     show Z4 w (4*E+3) (btw (rp (nx (A5 (rp a) (rp b) (rp c) (rp d) (rp d)) (B1 d (nx (A5 (rp a) (rp b) (rp c) (rp d) (rp c)) (B1 c b) b)) (nx (A5 (rp a) (rp b) (rp c) (rp d) (rp c)) (B1 c b) b))) (rp (nx (A5 (rp a) (rp b) (rp c) (rp d) (rp d)) (B3 d (nx (A5 (rp a) (rp b) (rp c) (rp d) (rp c)) (B3 c b) b)) (nx (A5 (rp a) (rp b) (rp c) (rp d) (rp c)) (B3 c b) b)))) _ _
     rw [<- e,fJ]
     exact mM (hb.2 _ rfl) g (hb.1.1 _ (.head _)) rfl (by omega) rfl rfl rfl rfl rfl rfl (h 75 rfl) rfl ((B4 (B5 od (B4 (B5 oc ob) ob)) (B4 (B5 oc ob) ob)).1.mono (by omega)) (B4 (B5 od (B4 (B5 oc ob) ob)) (B4 (B5 oc ob) ob)).2,
    fun τ W g h hp hb=>by
     have f0:¬ (A5 (rp a) (rp b) (rp c) (rp d) (rp a)):=fun z=>absurd ((I5 (h 8 rfl) (hp 8 0 true rfl)).1 z) (by decide)
     have f1:(A5 (rp a) (rp b) (rp c) (rp d) (rp b)):=(I5 (h 16 rfl) (hp 16 0 false rfl)).2 rfl
     have ed:X0 (rp a) (rp b) (rp c) (rp d)=some (rp (nx (A5 (rp a) (rp b) (rp c) (rp d) (rp d)) (B1 d (nx (A5 (rp a) (rp b) (rp c) (rp d) (rp c)) (B1 c b) b)) (nx (A5 (rp a) (rp b) (rp c) (rp d) (rp c)) (B1 c b) b)),rp (nx (A5 (rp a) (rp b) (rp c) (rp d) (rp d)) (B3 d (nx (A5 (rp a) (rp b) (rp c) (rp d) (rp c)) (B3 c b) b)) (nx (A5 (rp a) (rp b) (rp c) (rp d) (rp c)) (B3 c b) b))):=by unfold X0;rw [J6 f0,bN f1,O4,O4]
     rw [ed]
     have e:rp (nx (A5 (rp a) (rp b) (rp c) (rp d) (rp d)) (B1 d (nx (A5 (rp a) (rp b) (rp c) (rp d) (rp c)) (B1 c b) b)) (nx (A5 (rp a) (rp b) (rp c) (rp d) (rp c)) (B1 c b) b))≠rp (nx (A5 (rp a) (rp b) (rp c) (rp d) (rp d)) (B3 d (nx (A5 (rp a) (rp b) (rp c) (rp d) (rp c)) (B3 c b) b)) (nx (A5 (rp a) (rp b) (rp c) (rp d) (rp c)) (B3 c b) b)):=K5 (vb (h 124 rfl) (hp 124 0 false rfl))
     show Z4 w (4*E+3) (btw (rp (nx (A5 (rp a) (rp b) (rp c) (rp d) (rp d)) (B1 d (nx (A5 (rp a) (rp b) (rp c) (rp d) (rp c)) (B1 c b) b)) (nx (A5 (rp a) (rp b) (rp c) (rp d) (rp c)) (B1 c b) b))) (rp (nx (A5 (rp a) (rp b) (rp c) (rp d) (rp d)) (B3 d (nx (A5 (rp a) (rp b) (rp c) (rp d) (rp c)) (B3 c b) b)) (nx (A5 (rp a) (rp b) (rp c) (rp d) (rp c)) (B3 c b) b)))) _ _
     rw [btw_f e]
     exact rX (hb.2 _ rfl) g (hb.1.1 _ (.head _)) (h 75 rfl) (h 76 rfl) rfl rfl ((B4 (B5 od (B4 (B5 oc ob) ob)) (B4 (B5 oc ob) ob)).1.mono (by omega)) ((B4 (C2 od (B4 (C2 oc ob) ob)) (B4 (C2 oc ob) ob)).1.mono (by omega)) (B4 (B5 od (B4 (B5 oc ob) ob)) (B4 (B5 oc ob) ob)).2 (B4 (C2 od (B4 (C2 oc ob) ob)) (B4 (C2 oc ob) ob)).2,
    fun τ W g h hp hb=>by
     have f0:(A5 (rp a) (rp b) (rp c) (rp d) (rp a)):=(I5 (h 8 rfl) (hp 8 0 false rfl)).2 rfl
     have ed:X0 (rp a) (rp b) (rp c) (rp d)=some (rp (nx (A5 (rp a) (rp b) (rp c) (rp d) (rp d)) (B1 d (nx (A5 (rp a) (rp b) (rp c) (rp d) (rp c)) (B1 c (nx (A5 (rp a) (rp b) (rp c) (rp d) (rp b)) (B1 b a) a)) (nx (A5 (rp a) (rp b) (rp c) (rp d) (rp b)) (B1 b a) a))) (nx (A5 (rp a) (rp b) (rp c) (rp d) (rp c)) (B1 c (nx (A5 (rp a) (rp b) (rp c) (rp d) (rp b)) (B1 b a) a)) (nx (A5 (rp a) (rp b) (rp c) (rp d) (rp b)) (B1 b a) a))),rp (nx (A5 (rp a) (rp b) (rp c) (rp d) (rp d)) (B3 d (nx (A5 (rp a) (rp b) (rp c) (rp d) (rp c)) (B3 c (nx (A5 (rp a) (rp b) (rp c) (rp d) (rp b)) (B3 b a) a)) (nx (A5 (rp a) (rp b) (rp c) (rp d) (rp b)) (B3 b a) a))) (nx (A5 (rp a) (rp b) (rp c) (rp d) (rp c)) (B3 c (nx (A5 (rp a) (rp b) (rp c) (rp d) (rp b)) (B3 b a) a)) (nx (A5 (rp a) (rp b) (rp c) (rp d) (rp b)) (B3 b a) a)))):=by unfold X0;rw [bN f0,O4,O4,O4]
     rw [ed]
     have e:rp (nx (A5 (rp a) (rp b) (rp c) (rp d) (rp d)) (B1 d (nx (A5 (rp a) (rp b) (rp c) (rp d) (rp c)) (B1 c (nx (A5 (rp a) (rp b) (rp c) (rp d) (rp b)) (B1 b a) a)) (nx (A5 (rp a) (rp b) (rp c) (rp d) (rp b)) (B1 b a) a))) (nx (A5 (rp a) (rp b) (rp c) (rp d) (rp c)) (B1 c (nx (A5 (rp a) (rp b) (rp c) (rp d) (rp b)) (B1 b a) a)) (nx (A5 (rp a) (rp b) (rp c) (rp d) (rp b)) (B1 b a) a)))=rp (nx (A5 (rp a) (rp b) (rp c) (rp d) (rp d)) (B3 d (nx (A5 (rp a) (rp b) (rp c) (rp d) (rp c)) (B3 c (nx (A5 (rp a) (rp b) (rp c) (rp d) (rp b)) (B3 b a) a)) (nx (A5 (rp a) (rp b) (rp c) (rp d) (rp b)) (B3 b a) a))) (nx (A5 (rp a) (rp b) (rp c) (rp d) (rp c)) (B3 c (nx (A5 (rp a) (rp b) (rp c) (rp d) (rp b)) (B3 b a) a)) (nx (A5 (rp a) (rp b) (rp c) (rp d) (rp b)) (B3 b a) a))):=K4 (vb (h 126 rfl) (hp 126 0 true rfl))
     show Z4 w (4*E+3) (btw (rp (nx (A5 (rp a) (rp b) (rp c) (rp d) (rp d)) (B1 d (nx (A5 (rp a) (rp b) (rp c) (rp d) (rp c)) (B1 c (nx (A5 (rp a) (rp b) (rp c) (rp d) (rp b)) (B1 b a) a)) (nx (A5 (rp a) (rp b) (rp c) (rp d) (rp b)) (B1 b a) a))) (nx (A5 (rp a) (rp b) (rp c) (rp d) (rp c)) (B1 c (nx (A5 (rp a) (rp b) (rp c) (rp d) (rp b)) (B1 b a) a)) (nx (A5 (rp a) (rp b) (rp c) (rp d) (rp b)) (B1 b a) a)))) (rp (nx (A5 (rp a) (rp b) (rp c) (rp d) (rp d)) (B3 d (nx (A5 (rp a) (rp b) (rp c) (rp d) (rp c)) (B3 c (nx (A5 (rp a) (rp b) (rp c) (rp d) (rp b)) (B3 b a) a)) (nx (A5 (rp a) (rp b) (rp c) (rp d) (rp b)) (B3 b a) a))) (nx (A5 (rp a) (rp b) (rp c) (rp d) (rp c)) (B3 c (nx (A5 (rp a) (rp b) (rp c) (rp d) (rp b)) (B3 b a) a)) (nx (A5 (rp a) (rp b) (rp c) (rp d) (rp b)) (B3 b a) a))))) _ _
     rw [<- e,fJ]
     exact mM (hb.2 _ rfl) g (hb.1.1 _ (.head _)) rfl (by omega) rfl rfl rfl rfl rfl rfl (h 117 rfl) rfl ((B4 (B5 od (B4 (B5 oc (B4 (B5 ob oa) oa)) (B4 (B5 ob oa) oa))) (B4 (B5 oc (B4 (B5 ob oa) oa)) (B4 (B5 ob oa) oa))).1.mono (by omega)) (B4 (B5 od (B4 (B5 oc (B4 (B5 ob oa) oa)) (B4 (B5 ob oa) oa))) (B4 (B5 oc (B4 (B5 ob oa) oa)) (B4 (B5 ob oa) oa))).2,
    fun τ W g h hp hb=>by
     have f0:(A5 (rp a) (rp b) (rp c) (rp d) (rp a)):=(I5 (h 8 rfl) (hp 8 0 false rfl)).2 rfl
     have ed:X0 (rp a) (rp b) (rp c) (rp d)=some (rp (nx (A5 (rp a) (rp b) (rp c) (rp d) (rp d)) (B1 d (nx (A5 (rp a) (rp b) (rp c) (rp d) (rp c)) (B1 c (nx (A5 (rp a) (rp b) (rp c) (rp d) (rp b)) (B1 b a) a)) (nx (A5 (rp a) (rp b) (rp c) (rp d) (rp b)) (B1 b a) a))) (nx (A5 (rp a) (rp b) (rp c) (rp d) (rp c)) (B1 c (nx (A5 (rp a) (rp b) (rp c) (rp d) (rp b)) (B1 b a) a)) (nx (A5 (rp a) (rp b) (rp c) (rp d) (rp b)) (B1 b a) a))),rp (nx (A5 (rp a) (rp b) (rp c) (rp d) (rp d)) (B3 d (nx (A5 (rp a) (rp b) (rp c) (rp d) (rp c)) (B3 c (nx (A5 (rp a) (rp b) (rp c) (rp d) (rp b)) (B3 b a) a)) (nx (A5 (rp a) (rp b) (rp c) (rp d) (rp b)) (B3 b a) a))) (nx (A5 (rp a) (rp b) (rp c) (rp d) (rp c)) (B3 c (nx (A5 (rp a) (rp b) (rp c) (rp d) (rp b)) (B3 b a) a)) (nx (A5 (rp a) (rp b) (rp c) (rp d) (rp b)) (B3 b a) a)))):=by unfold X0;rw [bN f0,O4,O4,O4]
     rw [ed]
     have e:rp (nx (A5 (rp a) (rp b) (rp c) (rp d) (rp d)) (B1 d (nx (A5 (rp a) (rp b) (rp c) (rp d) (rp c)) (B1 c (nx (A5 (rp a) (rp b) (rp c) (rp d) (rp b)) (B1 b a) a)) (nx (A5 (rp a) (rp b) (rp c) (rp d) (rp b)) (B1 b a) a))) (nx (A5 (rp a) (rp b) (rp c) (rp d) (rp c)) (B1 c (nx (A5 (rp a) (rp b) (rp c) (rp d) (rp b)) (B1 b a) a)) (nx (A5 (rp a) (rp b) (rp c) (rp d) (rp b)) (B1 b a) a)))≠rp (nx (A5 (rp a) (rp b) (rp c) (rp d) (rp d)) (B3 d (nx (A5 (rp a) (rp b) (rp c) (rp d) (rp c)) (B3 c (nx (A5 (rp a) (rp b) (rp c) (rp d) (rp b)) (B3 b a) a)) (nx (A5 (rp a) (rp b) (rp c) (rp d) (rp b)) (B3 b a) a))) (nx (A5 (rp a) (rp b) (rp c) (rp d) (rp c)) (B3 c (nx (A5 (rp a) (rp b) (rp c) (rp d) (rp b)) (B3 b a) a)) (nx (A5 (rp a) (rp b) (rp c) (rp d) (rp b)) (B3 b a) a))):=K5 (vb (h 126 rfl) (hp 126 0 false rfl))
     show Z4 w (4*E+3) (btw (rp (nx (A5 (rp a) (rp b) (rp c) (rp d) (rp d)) (B1 d (nx (A5 (rp a) (rp b) (rp c) (rp d) (rp c)) (B1 c (nx (A5 (rp a) (rp b) (rp c) (rp d) (rp b)) (B1 b a) a)) (nx (A5 (rp a) (rp b) (rp c) (rp d) (rp b)) (B1 b a) a))) (nx (A5 (rp a) (rp b) (rp c) (rp d) (rp c)) (B1 c (nx (A5 (rp a) (rp b) (rp c) (rp d) (rp b)) (B1 b a) a)) (nx (A5 (rp a) (rp b) (rp c) (rp d) (rp b)) (B1 b a) a)))) (rp (nx (A5 (rp a) (rp b) (rp c) (rp d) (rp d)) (B3 d (nx (A5 (rp a) (rp b) (rp c) (rp d) (rp c)) (B3 c (nx (A5 (rp a) (rp b) (rp c) (rp d) (rp b)) (B3 b a) a)) (nx (A5 (rp a) (rp b) (rp c) (rp d) (rp b)) (B3 b a) a))) (nx (A5 (rp a) (rp b) (rp c) (rp d) (rp c)) (B3 c (nx (A5 (rp a) (rp b) (rp c) (rp d) (rp b)) (B3 b a) a)) (nx (A5 (rp a) (rp b) (rp c) (rp d) (rp b)) (B3 b a) a))))) _ _
     rw [btw_f e]
     exact rX (hb.2 _ rfl) g (hb.1.1 _ (.head _)) (h 117 rfl) (h 118 rfl) rfl rfl ((B4 (B5 od (B4 (B5 oc (B4 (B5 ob oa) oa)) (B4 (B5 ob oa) oa))) (B4 (B5 oc (B4 (B5 ob oa) oa)) (B4 (B5 ob oa) oa))).1.mono (by omega)) ((B4 (C2 od (B4 (C2 oc (B4 (C2 ob oa) oa)) (B4 (C2 ob oa) oa))) (B4 (C2 oc (B4 (C2 ob oa) oa)) (B4 (C2 ob oa) oa))).1.mono (by omega)) (B4 (B5 od (B4 (B5 oc (B4 (B5 ob oa) oa)) (B4 (B5 ob oa) oa))) (B4 (B5 oc (B4 (B5 ob oa) oa)) (B4 (B5 ob oa) oa))).2 (B4 (C2 od (B4 (C2 oc (B4 (C2 ob oa) oa)) (B4 (C2 ob oa) oa))) (B4 (C2 oc (B4 (C2 ob oa) oa)) (B4 (C2 ob oa) oa))).2,
    trivial⟩
 · skip
   have hn:=fun q=>h0 (hcz.2 q)
   have ex:=crp_is za zb zc zd h0
   have zx:=sG h0
   unfold P7
   rw [if_neg hn]
   rw [if_neg (fun q=>h1 q.1)]
   refine S1 B6 Tryz.func55 [sHs a b,sHs c d] [sV (.bool false),sH (crp a b c d),sV (.bool false)] (.cons Ha (.cons Hb .nil)) (rs:=[cl 2 110 [ag 12 0,ag 12 1],cl 3 111 [ag 12 0,ag 12 1],cl 4 46 [ag 12 0,ag 6 3]]) (out := .v false [.lit (.slice none 0 0)]) (nc:=5) (nd:=[]) (own:=[]) (by kernel_rfl)
    ⟨fun σ W g h hb=>toV (P6 W _ _ a b c d E (h 0 rfl) (h 1 rfl) hE ba bb bc bd) (by rw [I1 h0]),
    fun σ W g h hb=>U2 W _ _ a b c d E (h 0 rfl) (h 1 rfl) hE ba bb bc bd,
    fun σ W g h hb=>toV (C7 W _ _ a b (crp a b c d) (4*E+3) (h 0 rfl) (h 3 rfl) (by omega) (ba.mono (by omega)) (bb.mono (by omega)) bx za zb zx) (by rw [ex,I1 h1]),
    trivial⟩ fun τ W g h hb ho=>hl_nil g
 · skip
   have hn:=fun q=>h0 (hcz.2 q)
   have ex:=crp_is za zb zc zd h0
   have zx:=sG h0
   unfold P7
   rw [if_neg hn]
   rw [if_neg (fun q=>h2 q.2)]
   refine S1 B6 Tryz.func55 [sHs a b,sHs c d] [sV (.bool false),sH (crp a b c d),sV (.bool true),sV (.bool false)] (.cons Ha (.cons Hb .nil)) (rs:=[cl 2 110 [ag 12 0,ag 12 1],cl 3 111 [ag 12 0,ag 12 1],cl 4 46 [ag 12 0,ag 6 3],cl 5 46 [ag 12 1,ag 6 3]]) (out := .v false [.lit (.slice none 0 0)]) (nc:=6) (nd:=[]) (own:=[]) (by kernel_rfl)
    ⟨fun σ W g h hb=>toV (P6 W _ _ a b c d E (h 0 rfl) (h 1 rfl) hE ba bb bc bd) (by rw [I1 h0]),
    fun σ W g h hb=>U2 W _ _ a b c d E (h 0 rfl) (h 1 rfl) hE ba bb bc bd,
    fun σ W g h hb=>toV (C7 W _ _ a b (crp a b c d) (4*E+3) (h 0 rfl) (h 3 rfl) (by omega) (ba.mono (by omega)) (bb.mono (by omega)) bx za zb zx) (by rw [ex,O0 h1]),
    fun σ W g h hb=>toV (C7 W _ _ c d (crp a b c d) (4*E+3) (h 1 rfl) (h 3 rfl) (by omega) (bc.mono (by omega)) (bd.mono (by omega)) bx zc zd zx) (by rw [ex,I1 h2]),
    trivial⟩ fun τ W g h hb ho=>hl_nil g
 · skip
   have hn:=fun q=>h0 (hcz.2 q)
   have ex:=crp_is za zb zc zd h0
   have zx:=sG h0
   unfold P7
   rw [if_neg hn]
   rw [if_pos ⟨h1,h2⟩]
   refine S1 B6 Tryz.func55 [sHs a b,sHs c d] [sV (.bool false),sH (crp a b c d),sV (.bool true),sV (.bool true)] (.cons Ha (.cons Hb .nil)) (rs:=[cl 2 110 [ag 12 0,ag 12 1],cl 3 111 [ag 12 0,ag 12 1],cl 4 46 [ag 12 0,ag 6 3],cl 5 46 [ag 12 1,ag 6 3]]) (out := .v false [.row 3 0 1 1]) (nc:=6) (nd:=[(3,34,[.an 3 0,.an 3 1,.an 3 2,.an 3 3,.an 3 4,.an 3 5])]) (own:=[3]) (by kernel_rfl)
    ⟨fun σ W g h hb=>toV (P6 W _ _ a b c d E (h 0 rfl) (h 1 rfl) hE ba bb bc bd) (by rw [I1 h0]),
    fun σ W g h hb=>U2 W _ _ a b c d E (h 0 rfl) (h 1 rfl) hE ba bb bc bd,
    fun σ W g h hb=>toV (C7 W _ _ a b (crp a b c d) (4*E+3) (h 0 rfl) (h 3 rfl) (by omega) (ba.mono (by omega)) (bb.mono (by omega)) bx za zb zx) (by rw [ex,O0 h1]),
    fun σ W g h hb=>toV (C7 W _ _ c d (crp a b c d) (4*E+3) (h 1 rfl) (h 3 rfl) (by omega) (bc.mono (by omega)) (bd.mono (by omega)) bx zc zd zx) (by rw [ex,O0 h2]),
    trivial⟩ fun τ W g h hb ho=>mM (ho _ rfl) g (hb.1 _ (.head _)) rfl (Nat.le_refl _) rfl rfl rfl rfl rfl rfl (h 3 rfl) ex bx zx
end Go.Proofs.YtamdnbbgpacfkaaGreatDoor
