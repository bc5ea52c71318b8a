/- SurdRing: whatever three numbers, sums and products keep the rules of a ring: the law returns true and leaves its arguments. No condition. -/
import Derived.Below
import Derived.BigCall
import Derived.BigQuiet
import Derived.BigRegion
import Derived.ChangeOld
import Derived.Deep.AppendLies
import Derived.Deep.CutBlock
import Derived.Deep.CutRange
import Derived.Deep.DeepCutAuto
import Derived.Deep.DeepHandedRow
import Derived.Deep.LoopGhost
import Derived.Deep.MidRow
import Derived.Deep.QuietTactic
import Derived.Deep.RegionHeld3
import Derived.Deep.RegionLaw
import Derived.Deep.Slices
import Derived.Deep.Strs
import Derived.Deep.WholeRow
import Derived.Laws.AppendOwn
import Derived.Laws.Concat
import Derived.Laws.CopyOwn
import Derived.Laws.CopyRow
import Derived.Laws.Externs
import Derived.Laws.IdiomStrings
import Derived.Lib.BitFns
import Derived.Lib.Bytealg
import Derived.Lib.Hide
import Derived.Lib.LaidTab
import Derived.Lib.Slices
import Derived.Lib.Small
import Derived.Lib.Strings
import Derived.Lib.Walk
import Derived.LoopN
import Derived.Maps.AppendAt
import Derived.OpenShut
import Derived.OrdersHeld
import Derived.OrdersIn
import Derived.Outline
import Derived.OwnWalk
import Derived.ProofKit
import Derived.RangeFuncCalls
import Derived.RangeFuncNested
import Derived.Shelf.Bits.Mul64
import Derived.Shelf.Spec.TrailingZeros
import Derived.StillTailTactics
import Derived.WalkKit
import Derived.WalkLawsBesides
import Derived.WalkSpells
import Derived.WideKeyArgs
import Derived.Test.YtpideiliiofpaaaGreatDoorCards
import Derived.Test.YtpideiliiofpaaaGreatDoorProg
import Derived.Test.YtpideiliiofpaaaGreatDoorRows
import Derived.Test.YtpideiliiofpaaaGreatDoorTie
import Derived.Test.YtpideiliiofpaaaGreatDoorMt22
set_option linter.unusedVariables false
set_option linter.unusedSimpArgs false
set_option maxRecDepth 100000
namespace Go.Proofs.YtpideiliiofpaaaGreatDoor
open Go.RowKit Mat Ex
set_option maxHeartbeats 4000000 in
theorem SRing_main (w:World) (va vb vc:Value) (m n:Nat) (M2 N2 M3 N3:Int) (l l2 l3:List ByteArray) (Ha:NmV w.heap.size w va m n l) (Hb:NmV w.heap.size w vb M2 N2 l2) (Hc:NmV w.heap.size w vc M3 N3 l3) (hm:(-9223372036854775808<=(m:Int)/\(m:Int)<=9223372036854775807)) (hn:(-9223372036854775808<=(n:Int)/\(n:Int)<=9223372036854775807)) (hTab:Tab w) (k1:mOK m n l) (k2:mOK m n l2) (k3:mOK m n l3) :
 Calls Tryz.prog 7 #[va,vb,vc] w (fun e w'=>e = .returned (.bool true)/\w.grownBy w' none):=by
 have lm:m<B^2:=by have:=Dn hm.1 hm.2;rwa [Int.natAbs_natCast] at this
 have ln:n<B^2:=by have:=Dn hn.1 hn.2;rwa [Int.natAbs_natCast] at this
 obtain ⟨a3_0,ea3_0⟩:∃ x,pv l 0=x:=⟨_,rfl⟩
 have ba3_0:Bd1 2 a3_0:=ea3_0 ▸ Dl k1.2.2.2 0
 obtain ⟨a3_1,ea3_1⟩:∃ x,pv l 1=x:=⟨_,rfl⟩
 have ba3_1:Bd1 2 a3_1:=ea3_1 ▸ Dl k1.2.2.2 1
 obtain ⟨a3_2,ea3_2⟩:∃ x,pv l 2=x:=⟨_,rfl⟩
 have ba3_2:Bd1 2 a3_2:=ea3_2 ▸ Dl k1.2.2.2 2
 obtain ⟨a3_3,ea3_3⟩:∃ x,pv l 3=x:=⟨_,rfl⟩
 have ba3_3:Bd1 2 a3_3:=ea3_3 ▸ Dl k1.2.2.2 3
 obtain ⟨a5_0,ea5_0⟩:∃ x,pv l2 0=x:=⟨_,rfl⟩
 have ba5_0:Bd1 2 a5_0:=ea5_0 ▸ Dl k2.2.2.2 0
 obtain ⟨a5_1,ea5_1⟩:∃ x,pv l2 1=x:=⟨_,rfl⟩
 have ba5_1:Bd1 2 a5_1:=ea5_1 ▸ Dl k2.2.2.2 1
 obtain ⟨a5_2,ea5_2⟩:∃ x,pv l2 2=x:=⟨_,rfl⟩
 have ba5_2:Bd1 2 a5_2:=ea5_2 ▸ Dl k2.2.2.2 2
 obtain ⟨a5_3,ea5_3⟩:∃ x,pv l2 3=x:=⟨_,rfl⟩
 have ba5_3:Bd1 2 a5_3:=ea5_3 ▸ Dl k2.2.2.2 3
 obtain ⟨a7_0,ea7_0⟩:∃ x,pv l3 0=x:=⟨_,rfl⟩
 have ba7_0:Bd1 2 a7_0:=ea7_0 ▸ Dl k3.2.2.2 0
 obtain ⟨a7_1,ea7_1⟩:∃ x,pv l3 1=x:=⟨_,rfl⟩
 have ba7_1:Bd1 2 a7_1:=ea7_1 ▸ Dl k3.2.2.2 1
 obtain ⟨a7_2,ea7_2⟩:∃ x,pv l3 2=x:=⟨_,rfl⟩
 have ba7_2:Bd1 2 a7_2:=ea7_2 ▸ Dl k3.2.2.2 2
 obtain ⟨a7_3,ea7_3⟩:∃ x,pv l3 3=x:=⟨_,rfl⟩
 have ba7_3:Bd1 2 a7_3:=ea7_3 ▸ Dl k3.2.2.2 3
 obtain ⟨s9_0,e9_0⟩:∃ x,a3_0+a5_0=x:=⟨_,rfl⟩
 have bs9_0:Bd1 (2*2+1) s9_0:=e9_0 ▸ (Ap (ba3_0.mono (by omega):Bd1 2 _) (ba5_0.mono (by omega):Bd1 2 _)).mono (by omega)
 obtain ⟨s9_1,e9_1⟩:∃ x,a3_1+a5_1=x:=⟨_,rfl⟩
 have bs9_1:Bd1 (2*2+1) s9_1:=e9_1 ▸ (Ap (ba3_1.mono (by omega):Bd1 2 _) (ba5_1.mono (by omega):Bd1 2 _)).mono (by omega)
 obtain ⟨s9_2,e9_2⟩:∃ x,a3_2+a5_2=x:=⟨_,rfl⟩
 have bs9_2:Bd1 (2*2+1) s9_2:=e9_2 ▸ (Ap (ba3_2.mono (by omega):Bd1 2 _) (ba5_2.mono (by omega):Bd1 2 _)).mono (by omega)
 obtain ⟨s9_3,e9_3⟩:∃ x,a3_3+a5_3=x:=⟨_,rfl⟩
 have bs9_3:Bd1 (2*2+1) s9_3:=e9_3 ▸ (Ap (ba3_3.mono (by omega):Bd1 2 _) (ba5_3.mono (by omega):Bd1 2 _)).mono (by omega)
 obtain ⟨s10_0,e10_0⟩:∃ x,a5_0+a7_0=x:=⟨_,rfl⟩
 have bs10_0:Bd1 (2*2+1) s10_0:=e10_0 ▸ (Ap (ba5_0.mono (by omega):Bd1 2 _) (ba7_0.mono (by omega):Bd1 2 _)).mono (by omega)
 obtain ⟨s10_1,e10_1⟩:∃ x,a5_1+a7_1=x:=⟨_,rfl⟩
 have bs10_1:Bd1 (2*2+1) s10_1:=e10_1 ▸ (Ap (ba5_1.mono (by omega):Bd1 2 _) (ba7_1.mono (by omega):Bd1 2 _)).mono (by omega)
 obtain ⟨s10_2,e10_2⟩:∃ x,a5_2+a7_2=x:=⟨_,rfl⟩
 have bs10_2:Bd1 (2*2+1) s10_2:=e10_2 ▸ (Ap (ba5_2.mono (by omega):Bd1 2 _) (ba7_2.mono (by omega):Bd1 2 _)).mono (by omega)
 obtain ⟨s10_3,e10_3⟩:∃ x,a5_3+a7_3=x:=⟨_,rfl⟩
 have bs10_3:Bd1 (2*2+1) s10_3:=e10_3 ▸ (Ap (ba5_3.mono (by omega):Bd1 2 _) (ba7_3.mono (by omega):Bd1 2 _)).mono (by omega)
 obtain ⟨s11_0,e11_0⟩:∃ x,s9_0+a7_0=x:=⟨_,rfl⟩
 have bs11_0:Bd1 (2*5+1) s11_0:=e11_0 ▸ (Ap (bs9_0.mono (by omega):Bd1 5 _) (ba7_0.mono (by omega):Bd1 5 _)).mono (by omega)
 obtain ⟨s11_1,e11_1⟩:∃ x,s9_1+a7_1=x:=⟨_,rfl⟩
 have bs11_1:Bd1 (2*5+1) s11_1:=e11_1 ▸ (Ap (bs9_1.mono (by omega):Bd1 5 _) (ba7_1.mono (by omega):Bd1 5 _)).mono (by omega)
 obtain ⟨s11_2,e11_2⟩:∃ x,s9_2+a7_2=x:=⟨_,rfl⟩
 have bs11_2:Bd1 (2*5+1) s11_2:=e11_2 ▸ (Ap (bs9_2.mono (by omega):Bd1 5 _) (ba7_2.mono (by omega):Bd1 5 _)).mono (by omega)
 obtain ⟨s11_3,e11_3⟩:∃ x,s9_3+a7_3=x:=⟨_,rfl⟩
 have bs11_3:Bd1 (2*5+1) s11_3:=e11_3 ▸ (Ap (bs9_3.mono (by omega):Bd1 5 _) (ba7_3.mono (by omega):Bd1 5 _)).mono (by omega)
 obtain ⟨s12_0,e12_0⟩:∃ x,a3_0+s10_0=x:=⟨_,rfl⟩
 have bs12_0:Bd1 (2*5+1) s12_0:=e12_0 ▸ (Ap (ba3_0.mono (by omega):Bd1 5 _) (bs10_0.mono (by omega):Bd1 5 _)).mono (by omega)
 obtain ⟨s12_1,e12_1⟩:∃ x,a3_1+s10_1=x:=⟨_,rfl⟩
 have bs12_1:Bd1 (2*5+1) s12_1:=e12_1 ▸ (Ap (ba3_1.mono (by omega):Bd1 5 _) (bs10_1.mono (by omega):Bd1 5 _)).mono (by omega)
 obtain ⟨s12_2,e12_2⟩:∃ x,a3_2+s10_2=x:=⟨_,rfl⟩
 have bs12_2:Bd1 (2*5+1) s12_2:=e12_2 ▸ (Ap (ba3_2.mono (by omega):Bd1 5 _) (bs10_2.mono (by omega):Bd1 5 _)).mono (by omega)
 obtain ⟨s12_3,e12_3⟩:∃ x,a3_3+s10_3=x:=⟨_,rfl⟩
 have bs12_3:Bd1 (2*5+1) s12_3:=e12_3 ▸ (Ap (ba3_3.mono (by omega):Bd1 5 _) (bs10_3.mono (by omega):Bd1 5 _)).mono (by omega)
 have mb13:=K3 (K:=2) (m:=m) (n:=n) (by omega) (wB 2 lm) (wB 2 ln) (ba3_0.mono (by omega)) (ba3_1.mono (by omega)) (ba3_2.mono (by omega)) (ba3_3.mono (by omega)) (ba7_0.mono (by omega)) (ba7_1.mono (by omega)) (ba7_2.mono (by omega)) (ba7_3.mono (by omega))
 obtain ⟨s13_0,e13_0⟩:∃ x,a3_0*a7_0+((m:Int):Rat)*(a3_1*a7_1)+((n:Int):Rat)*(a3_2*a7_2)+((m:Int):Rat)*((n:Int):Rat)*(a3_3*a7_3)=x:=⟨_,rfl⟩
 have bs13_0:Bd1 (16*2+5) s13_0:=e13_0 ▸ mb13.1
 obtain ⟨s13_1,e13_1⟩:∃ x,a3_0*a7_1+a3_1*a7_0+((n:Int):Rat)*(a3_2*a7_3+a3_3*a7_2)=x:=⟨_,rfl⟩
 have bs13_1:Bd1 (16*2+5) s13_1:=e13_1 ▸ mb13.2.1
 obtain ⟨s13_2,e13_2⟩:∃ x,a3_0*a7_2+a3_2*a7_0+((m:Int):Rat)*(a3_1*a7_3+a3_3*a7_1)=x:=⟨_,rfl⟩
 have bs13_2:Bd1 (16*2+5) s13_2:=e13_2 ▸ mb13.2.2.1
 obtain ⟨s13_3,e13_3⟩:∃ x,a3_0*a7_3+a3_3*a7_0+a3_1*a7_2+a3_2*a7_1=x:=⟨_,rfl⟩
 have bs13_3:Bd1 (16*2+5) s13_3:=e13_3 ▸ mb13.2.2.2
 have mb14:=K3 (K:=2) (m:=m) (n:=n) (by omega) (wB 2 lm) (wB 2 ln) (ba5_0.mono (by omega)) (ba5_1.mono (by omega)) (ba5_2.mono (by omega)) (ba5_3.mono (by omega)) (ba7_0.mono (by omega)) (ba7_1.mono (by omega)) (ba7_2.mono (by omega)) (ba7_3.mono (by omega))
 obtain ⟨s14_0,e14_0⟩:∃ x,a5_0*a7_0+((m:Int):Rat)*(a5_1*a7_1)+((n:Int):Rat)*(a5_2*a7_2)+((m:Int):Rat)*((n:Int):Rat)*(a5_3*a7_3)=x:=⟨_,rfl⟩
 have bs14_0:Bd1 (16*2+5) s14_0:=e14_0 ▸ mb14.1
 obtain ⟨s14_1,e14_1⟩:∃ x,a5_0*a7_1+a5_1*a7_0+((n:Int):Rat)*(a5_2*a7_3+a5_3*a7_2)=x:=⟨_,rfl⟩
 have bs14_1:Bd1 (16*2+5) s14_1:=e14_1 ▸ mb14.2.1
 obtain ⟨s14_2,e14_2⟩:∃ x,a5_0*a7_2+a5_2*a7_0+((m:Int):Rat)*(a5_1*a7_3+a5_3*a7_1)=x:=⟨_,rfl⟩
 have bs14_2:Bd1 (16*2+5) s14_2:=e14_2 ▸ mb14.2.2.1
 obtain ⟨s14_3,e14_3⟩:∃ x,a5_0*a7_3+a5_3*a7_0+a5_1*a7_2+a5_2*a7_1=x:=⟨_,rfl⟩
 have bs14_3:Bd1 (16*2+5) s14_3:=e14_3 ▸ mb14.2.2.2
 have mb15:=K3 (K:=5) (m:=m) (n:=n) (by omega) (wB 5 lm) (wB 5 ln) (bs9_0.mono (by omega)) (bs9_1.mono (by omega)) (bs9_2.mono (by omega)) (bs9_3.mono (by omega)) (ba7_0.mono (by omega)) (ba7_1.mono (by omega)) (ba7_2.mono (by omega)) (ba7_3.mono (by omega))
 obtain ⟨s15_0,e15_0⟩:∃ x,s9_0*a7_0+((m:Int):Rat)*(s9_1*a7_1)+((n:Int):Rat)*(s9_2*a7_2)+((m:Int):Rat)*((n:Int):Rat)*(s9_3*a7_3)=x:=⟨_,rfl⟩
 have bs15_0:Bd1 (16*5+5) s15_0:=e15_0 ▸ mb15.1
 obtain ⟨s15_1,e15_1⟩:∃ x,s9_0*a7_1+s9_1*a7_0+((n:Int):Rat)*(s9_2*a7_3+s9_3*a7_2)=x:=⟨_,rfl⟩
 have bs15_1:Bd1 (16*5+5) s15_1:=e15_1 ▸ mb15.2.1
 obtain ⟨s15_2,e15_2⟩:∃ x,s9_0*a7_2+s9_2*a7_0+((m:Int):Rat)*(s9_1*a7_3+s9_3*a7_1)=x:=⟨_,rfl⟩
 have bs15_2:Bd1 (16*5+5) s15_2:=e15_2 ▸ mb15.2.2.1
 obtain ⟨s15_3,e15_3⟩:∃ x,s9_0*a7_3+s9_3*a7_0+s9_1*a7_2+s9_2*a7_1=x:=⟨_,rfl⟩
 have bs15_3:Bd1 (16*5+5) s15_3:=e15_3 ▸ mb15.2.2.2
 obtain ⟨s16_0,e16_0⟩:∃ x,s13_0+s14_0=x:=⟨_,rfl⟩
 have bs16_0:Bd1 (2*37+1) s16_0:=e16_0 ▸ (Ap (bs13_0.mono (by omega):Bd1 37 _) (bs14_0.mono (by omega):Bd1 37 _)).mono (by omega)
 obtain ⟨s16_1,e16_1⟩:∃ x,s13_1+s14_1=x:=⟨_,rfl⟩
 have bs16_1:Bd1 (2*37+1) s16_1:=e16_1 ▸ (Ap (bs13_1.mono (by omega):Bd1 37 _) (bs14_1.mono (by omega):Bd1 37 _)).mono (by omega)
 obtain ⟨s16_2,e16_2⟩:∃ x,s13_2+s14_2=x:=⟨_,rfl⟩
 have bs16_2:Bd1 (2*37+1) s16_2:=e16_2 ▸ (Ap (bs13_2.mono (by omega):Bd1 37 _) (bs14_2.mono (by omega):Bd1 37 _)).mono (by omega)
 obtain ⟨s16_3,e16_3⟩:∃ x,s13_3+s14_3=x:=⟨_,rfl⟩
 have bs16_3:Bd1 (2*37+1) s16_3:=e16_3 ▸ (Ap (bs13_3.mono (by omega):Bd1 37 _) (bs14_3.mono (by omega):Bd1 37 _)).mono (by omega)
 have mb17:=K3 (K:=2) (m:=m) (n:=n) (by omega) (wB 2 lm) (wB 2 ln) (ba7_0.mono (by omega)) (ba7_1.mono (by omega)) (ba7_2.mono (by omega)) (ba7_3.mono (by omega)) (ba3_0.mono (by omega)) (ba3_1.mono (by omega)) (ba3_2.mono (by omega)) (ba3_3.mono (by omega))
 obtain ⟨s17_0,e17_0⟩:∃ x,a7_0*a3_0+((m:Int):Rat)*(a7_1*a3_1)+((n:Int):Rat)*(a7_2*a3_2)+((m:Int):Rat)*((n:Int):Rat)*(a7_3*a3_3)=x:=⟨_,rfl⟩
 have bs17_0:Bd1 (16*2+5) s17_0:=e17_0 ▸ mb17.1
 obtain ⟨s17_1,e17_1⟩:∃ x,a7_0*a3_1+a7_1*a3_0+((n:Int):Rat)*(a7_2*a3_3+a7_3*a3_2)=x:=⟨_,rfl⟩
 have bs17_1:Bd1 (16*2+5) s17_1:=e17_1 ▸ mb17.2.1
 obtain ⟨s17_2,e17_2⟩:∃ x,a7_0*a3_2+a7_2*a3_0+((m:Int):Rat)*(a7_1*a3_3+a7_3*a3_1)=x:=⟨_,rfl⟩
 have bs17_2:Bd1 (16*2+5) s17_2:=e17_2 ▸ mb17.2.2.1
 obtain ⟨s17_3,e17_3⟩:∃ x,a7_0*a3_3+a7_3*a3_0+a7_1*a3_2+a7_2*a3_1=x:=⟨_,rfl⟩
 have bs17_3:Bd1 (16*2+5) s17_3:=e17_3 ▸ mb17.2.2.2
 have q18_0:s11_0=s12_0:=by grind
 have q18_1:s11_1=s12_1:=by grind
 have q18_2:s11_2=s12_2:=by grind
 have q18_3:s11_3=s12_3:=by grind
 have q19_0:s15_0=s16_0:=by grind
 have q19_1:s15_1=s16_1:=by grind
 have q19_2:s15_2=s16_2:=by grind
 have q19_3:s15_3=s16_3:=by grind
 have q20_0:s13_0=s17_0:=by grind
 have q20_1:s13_1=s17_1:=by grind
 have q20_2:s13_2=s17_2:=by grind
 have q20_3:s13_3=s17_3:=by grind
 refine Af Aq Tryz.func7 [sNm w.heap.size m n l,sNm w.heap.size M2 N2 l2,sNm w.heap.size M3 N3 l3] [sMd m n a3_0 a3_1 a3_2 a3_3,sNm w.heap.size m n l2,sMd m n a5_0 a5_1 a5_2 a5_3,sNm w.heap.size m n l3,sMd m n a7_0 a7_1 a7_2 a7_3,sV (.bool true),Jl m n s9_0 s9_1 s9_2 s9_3 0,Jl m n s10_0 s10_1 s10_2 s10_3 0,Jl m n s11_0 s11_1 s11_2 s11_3 0,Jl m n s12_0 s12_1 s12_2 s12_3 0,Jl m n s13_0 s13_1 s13_2 s13_3 0,Jl m n s14_0 s14_1 s14_2 s14_3 0,Jl m n s15_0 s15_1 s15_2 s15_3 0,Jl m n s16_0 s16_1 s16_2 s16_3 0,Jl m n s17_0 s17_1 s17_2 s17_3 0,sVV (.int .i64 0) (.int .i64 0),sVV (.int .i64 0) (.int .i64 0),sVV (.int .i64 0) (.int .i64 0)] (.cons Ha (.cons Hb (.cons Hc .nil))) (rs:=[cl 3 21 [ag 3 0],cl 4 22 [ag 3 0,ag 3 1],cl 5 21 [ag 3 4],cl 6 22 [ag 3 0,ag 3 2],cl 7 21 [ag 3 6],cl 8 14 [],cl 9 23 [ag 20 3,ag 20 5],cl 10 23 [ag 20 5,ag 20 7],cl 11 23 [ag 20 9,ag 20 7],cl 12 23 [ag 20 3,ag 20 10],cl 13 25 [ag 20 3,ag 20 7],cl 14 25 [ag 20 5,ag 20 7],cl 15 25 [ag 20 9,ag 20 7],cl 16 23 [ag 20 13,ag 20 14],cl 17 25 [ag 20 7,ag 20 3],cl 18 26 [ag 20 11,ag 20 12],cl 19 26 [ag 20 15,ag 20 16],cl 20 26 [ag 20 13,ag 20 17]]) (out := .v false [.lit (.bool true)]) (nc:=21) (by kernel_rfl)
  ⟨fun σ W g h hb=>Jk (Dh W _ m n l ((h 0 rfl).wide g.size) hm hn (hTab.kept g (by simp)) k1 ea3_0 ea3_1 ea3_2 ea3_3),
  fun σ W g h hb=>(Cy w.heap.size W _ _ m n M2 N2 l l2 (h 0 rfl) (h 1 rfl)).mono fun _ _ ⟨v,e,h1,g1,h2⟩=>⟨v,e,h1,g1,fun q hq => .inr ⟨1,rfl,h2 q hq⟩⟩,
  fun σ W g h hb=>Jk (Dh W _ m n l2 ((h 4 rfl).wide g.size) hm hn (hTab.kept g (by simp)) k2 ea5_0 ea5_1 ea5_2 ea5_3),
  fun σ W g h hb=>(Cy w.heap.size W _ _ m n M3 N3 l l3 (h 0 rfl) (h 2 rfl)).mono fun _ _ ⟨v,e,h1,g1,h2⟩=>⟨v,e,h1,g1,fun q hq => .inr ⟨2,rfl,h2 q hq⟩⟩,
  fun σ W g h hb=>Jk (Dh W _ m n l3 ((h 6 rfl).wide g.size) hm hn (hTab.kept g (by simp)) k3 ea7_0 ea7_1 ea7_2 ea7_3),
  fun σ W g h hb=>toV (Bt W (hTab.kept g (by simp))) rfl,
  fun σ W g h hb=>Fx (Jb W _ _ m n m n a3_0 a3_1 a3_2 a3_3 a5_0 a5_1 a5_2 a5_3 2 (md1 (h 3 rfl)) (md1 (h 5 rfl)) (by omega) (wB 2 lm) (wB 2 ln) (wB 2 lm) (wB 2 ln) ⟨ba3_0.mono (by omega),ba5_0.mono (by omega)⟩ ⟨ba3_1.mono (by omega),ba5_1.mono (by omega)⟩ ⟨ba3_2.mono (by omega),ba5_2.mono (by omega)⟩ ⟨ba3_3.mono (by omega),ba5_3.mono (by omega)⟩ ⟨rfl,rfl⟩ (hTab.kept g (by simp)) e9_0 e9_1 e9_2 e9_3),
  fun σ W g h hb=>Fx (Jb W _ _ m n m n a5_0 a5_1 a5_2 a5_3 a7_0 a7_1 a7_2 a7_3 2 (md1 (h 5 rfl)) (md1 (h 7 rfl)) (by omega) (wB 2 lm) (wB 2 ln) (wB 2 lm) (wB 2 ln) ⟨ba5_0.mono (by omega),ba7_0.mono (by omega)⟩ ⟨ba5_1.mono (by omega),ba7_1.mono (by omega)⟩ ⟨ba5_2.mono (by omega),ba7_2.mono (by omega)⟩ ⟨ba5_3.mono (by omega),ba7_3.mono (by omega)⟩ ⟨rfl,rfl⟩ (hTab.kept g (by simp)) e10_0 e10_1 e10_2 e10_3),
  fun σ W g h hb=>Fx (Jb W _ _ m n m n s9_0 s9_1 s9_2 s9_3 a7_0 a7_1 a7_2 a7_3 5 (sdE (h 9 rfl)) (md1 (h 7 rfl)) (by omega) (wB 5 lm) (wB 5 ln) (wB 5 lm) (wB 5 ln) ⟨bs9_0.mono (by omega),ba7_0.mono (by omega)⟩ ⟨bs9_1.mono (by omega),ba7_1.mono (by omega)⟩ ⟨bs9_2.mono (by omega),ba7_2.mono (by omega)⟩ ⟨bs9_3.mono (by omega),ba7_3.mono (by omega)⟩ ⟨rfl,rfl⟩ (hTab.kept g (by simp)) e11_0 e11_1 e11_2 e11_3),
  fun σ W g h hb=>Fx (Jb W _ _ m n m n a3_0 a3_1 a3_2 a3_3 s10_0 s10_1 s10_2 s10_3 5 (md1 (h 3 rfl)) (sdE (h 10 rfl)) (by omega) (wB 5 lm) (wB 5 ln) (wB 5 lm) (wB 5 ln) ⟨ba3_0.mono (by omega),bs10_0.mono (by omega)⟩ ⟨ba3_1.mono (by omega),bs10_1.mono (by omega)⟩ ⟨ba3_2.mono (by omega),bs10_2.mono (by omega)⟩ ⟨ba3_3.mono (by omega),bs10_3.mono (by omega)⟩ ⟨rfl,rfl⟩ (hTab.kept g (by simp)) e12_0 e12_1 e12_2 e12_3),
  fun σ W g h hb=>Fx (I9 W _ _ m n m n a3_0 a3_1 a3_2 a3_3 a7_0 a7_1 a7_2 a7_3 2 (md1 (h 3 rfl)) (md1 (h 7 rfl)) (by omega) (wB 2 lm) (wB 2 ln) (wB 2 lm) (wB 2 ln) ⟨ba3_0.mono (by omega),ba7_0.mono (by omega)⟩ ⟨ba3_1.mono (by omega),ba7_1.mono (by omega)⟩ ⟨ba3_2.mono (by omega),ba7_2.mono (by omega)⟩ ⟨ba3_3.mono (by omega),ba7_3.mono (by omega)⟩ ⟨rfl,rfl⟩ (hTab.kept g (by simp)) e13_0 e13_1 e13_2 e13_3),
  fun σ W g h hb=>Fx (I9 W _ _ m n m n a5_0 a5_1 a5_2 a5_3 a7_0 a7_1 a7_2 a7_3 2 (md1 (h 5 rfl)) (md1 (h 7 rfl)) (by omega) (wB 2 lm) (wB 2 ln) (wB 2 lm) (wB 2 ln) ⟨ba5_0.mono (by omega),ba7_0.mono (by omega)⟩ ⟨ba5_1.mono (by omega),ba7_1.mono (by omega)⟩ ⟨ba5_2.mono (by omega),ba7_2.mono (by omega)⟩ ⟨ba5_3.mono (by omega),ba7_3.mono (by omega)⟩ ⟨rfl,rfl⟩ (hTab.kept g (by simp)) e14_0 e14_1 e14_2 e14_3),
  fun σ W g h hb=>Fx (I9 W _ _ m n m n s9_0 s9_1 s9_2 s9_3 a7_0 a7_1 a7_2 a7_3 5 (sdE (h 9 rfl)) (md1 (h 7 rfl)) (by omega) (wB 5 lm) (wB 5 ln) (wB 5 lm) (wB 5 ln) ⟨bs9_0.mono (by omega),ba7_0.mono (by omega)⟩ ⟨bs9_1.mono (by omega),ba7_1.mono (by omega)⟩ ⟨bs9_2.mono (by omega),ba7_2.mono (by omega)⟩ ⟨bs9_3.mono (by omega),ba7_3.mono (by omega)⟩ ⟨rfl,rfl⟩ (hTab.kept g (by simp)) e15_0 e15_1 e15_2 e15_3),
  fun σ W g h hb=>Fx (Jb W _ _ m n m n s13_0 s13_1 s13_2 s13_3 s14_0 s14_1 s14_2 s14_3 37 (sdE (h 13 rfl)) (sdE (h 14 rfl)) (by omega) (wB 37 lm) (wB 37 ln) (wB 37 lm) (wB 37 ln) ⟨bs13_0.mono (by omega),bs14_0.mono (by omega)⟩ ⟨bs13_1.mono (by omega),bs14_1.mono (by omega)⟩ ⟨bs13_2.mono (by omega),bs14_2.mono (by omega)⟩ ⟨bs13_3.mono (by omega),bs14_3.mono (by omega)⟩ ⟨rfl,rfl⟩ (hTab.kept g (by simp)) e16_0 e16_1 e16_2 e16_3),
  fun σ W g h hb=>Fx (I9 W _ _ m n m n a7_0 a7_1 a7_2 a7_3 a3_0 a3_1 a3_2 a3_3 2 (md1 (h 7 rfl)) (md1 (h 3 rfl)) (by omega) (wB 2 lm) (wB 2 ln) (wB 2 lm) (wB 2 ln) ⟨ba7_0.mono (by omega),ba3_0.mono (by omega)⟩ ⟨ba7_1.mono (by omega),ba3_1.mono (by omega)⟩ ⟨ba7_2.mono (by omega),ba3_2.mono (by omega)⟩ ⟨ba7_3.mono (by omega),ba3_3.mono (by omega)⟩ ⟨rfl,rfl⟩ (hTab.kept g (by simp)) e17_0 e17_1 e17_2 e17_3),
  fun σ W g h hb=>toVV (Wo W _ _ m n s11_0 s11_1 s11_2 s11_3 s12_0 s12_1 s12_2 s12_3 100 (sdE (h 11 rfl)) (sdE (h 12 rfl)) (by omega) (wN 100 lm) (wN 100 ln) ⟨bs11_0.mono (by omega),bs12_0.mono (by omega)⟩ ⟨bs11_1.mono (by omega),bs12_1.mono (by omega)⟩ ⟨bs11_2.mono (by omega),bs12_2.mono (by omega)⟩ ⟨bs11_3.mono (by omega),bs12_3.mono (by omega)⟩ (hTab.kept g (by simp)) ⟨q18_0,q18_1,q18_2,q18_3⟩) rfl rfl,
  fun σ W g h hb=>toVV (Wo W _ _ m n s15_0 s15_1 s15_2 s15_3 s16_0 s16_1 s16_2 s16_3 100 (sdE (h 15 rfl)) (sdE (h 16 rfl)) (by omega) (wN 100 lm) (wN 100 ln) ⟨bs15_0.mono (by omega),bs16_0.mono (by omega)⟩ ⟨bs15_1.mono (by omega),bs16_1.mono (by omega)⟩ ⟨bs15_2.mono (by omega),bs16_2.mono (by omega)⟩ ⟨bs15_3.mono (by omega),bs16_3.mono (by omega)⟩ (hTab.kept g (by simp)) ⟨q19_0,q19_1,q19_2,q19_3⟩) rfl rfl,
  fun σ W g h hb=>toVV (Wo W _ _ m n s13_0 s13_1 s13_2 s13_3 s17_0 s17_1 s17_2 s17_3 100 (sdE (h 13 rfl)) (sdE (h 17 rfl)) (by omega) (wN 100 lm) (wN 100 ln) ⟨bs13_0.mono (by omega),bs17_0.mono (by omega)⟩ ⟨bs13_1.mono (by omega),bs17_1.mono (by omega)⟩ ⟨bs13_2.mono (by omega),bs17_2.mono (by omega)⟩ ⟨bs13_3.mono (by omega),bs17_3.mono (by omega)⟩ (hTab.kept g (by simp)) ⟨q20_0,q20_1,q20_2,q20_3⟩) rfl rfl,
  trivial⟩ fun τ W g h=>⟨rfl,g⟩
theorem SRing_no0 (w:World) (va vb vc:Value) (M N:Int) (M2 N2 M3 N3:Int) (l l2 l3:List ByteArray) (Ha:NmV w.heap.size w va M N l) (Hb:NmV w.heap.size w vb M2 N2 l2) (Hc:NmV w.heap.size w vc M3 N3 l3) (hm:(-9223372036854775808<=M/\M<=9223372036854775807)) (hn:(-9223372036854775808<=N/\N<=9223372036854775807)) (hTab:Tab w) (k1:¬ mOK M N l) :
 Calls Tryz.prog 7 #[va,vb,vc] w (fun e w'=>e = .returned (.bool true)/\w.grownBy w' none):=by
 refine Af Aq Tryz.func7 [sNm w.heap.size M N l,sNm w.heap.size M2 N2 l2,sNm w.heap.size M3 N3 l3] [sMn,sNm w.heap.size M N l2,sMg,sNm w.heap.size M N l3,sMg,sV (.bool true),sV (.bool true)] (.cons Ha (.cons Hb (.cons Hc .nil))) (rs:=[cl 3 21 [ag 3 0],cl 4 22 [ag 3 0,ag 3 1],cl 5 21 [ag 3 4],cl 6 22 [ag 3 0,ag 3 2],cl 7 21 [ag 3 6],cl 8 14 [],cl 9 14 []]) (out := .v false [.lit (.bool true)]) (nc:=10) (by kernel_rfl)
  ⟨fun σ W g h hb=>toMn (Eg W _ M N l ((h 0 rfl).wide g.size) hm hn (hTab.kept g (by simp)) k1),
  fun σ W g h hb=>(Cy w.heap.size W _ _ M N M2 N2 l l2 (h 0 rfl) (h 1 rfl)).mono fun _ _ ⟨v,e,h1,g1,h2⟩=>⟨v,e,h1,g1,fun q hq => .inr ⟨1,rfl,h2 q hq⟩⟩,
  fun σ W g h hb=>Gc W _ M N l2 ((h 4 rfl).wide g.size) hm hn (hTab.kept g (by simp)),
  fun σ W g h hb=>(Cy w.heap.size W _ _ M N M3 N3 l l3 (h 0 rfl) (h 2 rfl)).mono fun _ _ ⟨v,e,h1,g1,h2⟩=>⟨v,e,h1,g1,fun q hq => .inr ⟨2,rfl,h2 q hq⟩⟩,
  fun σ W g h hb=>Gc W _ M N l3 ((h 6 rfl).wide g.size) hm hn (hTab.kept g (by simp)),
  fun σ W g h hb=>toV (Bt W (hTab.kept g (by simp))) rfl,
  fun σ W g h hb=>toV (Bt W (hTab.kept g (by simp))) rfl,
  trivial⟩ fun τ W g h=>⟨rfl,g⟩
theorem SRing_no1 (w:World) (va vb vc:Value) (M N:Int) (M2 N2 M3 N3:Int) (l l2 l3:List ByteArray) (Ha:NmV w.heap.size w va M N l) (Hb:NmV w.heap.size w vb M2 N2 l2) (Hc:NmV w.heap.size w vc M3 N3 l3) (hm:(-9223372036854775808<=M/\M<=9223372036854775807)) (hn:(-9223372036854775808<=N/\N<=9223372036854775807)) (hTab:Tab w) (k1:mOK M N l) (k2:¬ mOK M N l2) :
 Calls Tryz.prog 7 #[va,vb,vc] w (fun e w'=>e = .returned (.bool true)/\w.grownBy w' none):=by
 refine Af Aq Tryz.func7 [sNm w.heap.size M N l,sNm w.heap.size M2 N2 l2,sNm w.heap.size M3 N3 l3] [sMd M N (pv l 0) (pv l 1) (pv l 2) (pv l 3),sNm w.heap.size M N l2,sMn,sNm w.heap.size M N l3,sMg,sV (.bool true),sV (.bool true)] (.cons Ha (.cons Hb (.cons Hc .nil))) (rs:=[cl 3 21 [ag 3 0],cl 4 22 [ag 3 0,ag 3 1],cl 5 21 [ag 3 4],cl 6 22 [ag 3 0,ag 3 2],cl 7 21 [ag 3 6],cl 8 14 [],cl 9 14 []]) (out := .v false [.lit (.bool true)]) (nc:=10) (by kernel_rfl)
  ⟨fun σ W g h hb=>Jk (Ej W _ M N l ((h 0 rfl).wide g.size) hm hn (hTab.kept g (by simp)) k1),
  fun σ W g h hb=>(Cy w.heap.size W _ _ M N M2 N2 l l2 (h 0 rfl) (h 1 rfl)).mono fun _ _ ⟨v,e,h1,g1,h2⟩=>⟨v,e,h1,g1,fun q hq => .inr ⟨1,rfl,h2 q hq⟩⟩,
  fun σ W g h hb=>toMn (Eg W _ M N l2 ((h 4 rfl).wide g.size) hm hn (hTab.kept g (by simp)) k2),
  fun σ W g h hb=>(Cy w.heap.size W _ _ M N M3 N3 l l3 (h 0 rfl) (h 2 rfl)).mono fun _ _ ⟨v,e,h1,g1,h2⟩=>⟨v,e,h1,g1,fun q hq => .inr ⟨2,rfl,h2 q hq⟩⟩,
  fun σ W g h hb=>Gc W _ M N l3 ((h 6 rfl).wide g.size) hm hn (hTab.kept g (by simp)),
  fun σ W g h hb=>toV (Bt W (hTab.kept g (by simp))) rfl,
  fun σ W g h hb=>toV (Bt W (hTab.kept g (by simp))) rfl,
  trivial⟩ fun τ W g h=>⟨rfl,g⟩
theorem SRing_no2 (w:World) (va vb vc:Value) (M N:Int) (M2 N2 M3 N3:Int) (l l2 l3:List ByteArray) (Ha:NmV w.heap.size w va M N l) (Hb:NmV w.heap.size w vb M2 N2 l2) (Hc:NmV w.heap.size w vc M3 N3 l3) (hm:(-9223372036854775808<=M/\M<=9223372036854775807)) (hn:(-9223372036854775808<=N/\N<=9223372036854775807)) (hTab:Tab w) (k1:mOK M N l) (k2:mOK M N l2) (k3:¬ mOK M N l3) :
 Calls Tryz.prog 7 #[va,vb,vc] w (fun e w'=>e = .returned (.bool true)/\w.grownBy w' none):=by
 refine Af Aq Tryz.func7 [sNm w.heap.size M N l,sNm w.heap.size M2 N2 l2,sNm w.heap.size M3 N3 l3] [sMd M N (pv l 0) (pv l 1) (pv l 2) (pv l 3),sNm w.heap.size M N l2,sMd M N (pv l2 0) (pv l2 1) (pv l2 2) (pv l2 3),sNm w.heap.size M N l3,sMn,sV (.bool true),sV (.bool true)] (.cons Ha (.cons Hb (.cons Hc .nil))) (rs:=[cl 3 21 [ag 3 0],cl 4 22 [ag 3 0,ag 3 1],cl 5 21 [ag 3 4],cl 6 22 [ag 3 0,ag 3 2],cl 7 21 [ag 3 6],cl 8 14 [],cl 9 14 []]) (out := .v false [.lit (.bool true)]) (nc:=10) (by kernel_rfl)
  ⟨fun σ W g h hb=>Jk (Ej W _ M N l ((h 0 rfl).wide g.size) hm hn (hTab.kept g (by simp)) k1),
  fun σ W g h hb=>(Cy w.heap.size W _ _ M N M2 N2 l l2 (h 0 rfl) (h 1 rfl)).mono fun _ _ ⟨v,e,h1,g1,h2⟩=>⟨v,e,h1,g1,fun q hq => .inr ⟨1,rfl,h2 q hq⟩⟩,
  fun σ W g h hb=>Jk (Ej W _ M N l2 ((h 4 rfl).wide g.size) hm hn (hTab.kept g (by simp)) k2),
  fun σ W g h hb=>(Cy w.heap.size W _ _ M N M3 N3 l l3 (h 0 rfl) (h 2 rfl)).mono fun _ _ ⟨v,e,h1,g1,h2⟩=>⟨v,e,h1,g1,fun q hq => .inr ⟨2,rfl,h2 q hq⟩⟩,
  fun σ W g h hb=>toMn (Eg W _ M N l3 ((h 6 rfl).wide g.size) hm hn (hTab.kept g (by simp)) k3),
  fun σ W g h hb=>toV (Bt W (hTab.kept g (by simp))) rfl,
  fun σ W g h hb=>toV (Bt W (hTab.kept g (by simp))) rfl,
  trivial⟩ fun τ W g h=>⟨rfl,g⟩
theorem Tb (w:World) (va vb vc:Value) (M N:Int) (M2 N2 M3 N3:Int) (l l2 l3:List ByteArray) (Ha:NmV w.heap.size w va M N l) (Hb:NmV w.heap.size w vb M2 N2 l2) (Hc:NmV w.heap.size w vc M3 N3 l3) (hm:(-9223372036854775808<=M/\M<=9223372036854775807)) (hn:(-9223372036854775808<=N/\N<=9223372036854775807)) (hTab:Tab w) :
 Calls Tryz.prog 7 #[va,vb,vc] w (fun e w'=>e = .returned (.bool true)/\w.grownBy w' none):=by
 by_cases k1:mOK M N l
 rotate_left
 · exact SRing_no0 w va vb vc M N M2 N2 M3 N3 l l2 l3 Ha Hb Hc hm hn hTab k1
 by_cases k2:mOK M N l2
 rotate_left
 · exact SRing_no1 w va vb vc M N M2 N2 M3 N3 l l2 l3 Ha Hb Hc hm hn hTab k1 k2
 by_cases k3:mOK M N l3
 rotate_left
 · exact SRing_no2 w va vb vc M N M2 N2 M3 N3 l l2 l3 Ha Hb Hc hm hn hTab k1 k2 k3
 obtain ⟨m,rfl⟩:=Int.eq_ofNat_of_zero_le k1.1
 obtain ⟨n,rfl⟩:=Int.eq_ofNat_of_zero_le k1.2.1
 exact SRing_main w va vb vc m n M2 N2 M3 N3 l l2 l3 Ha Hb Hc hm hn hTab k1 k2 k3
end Go.Proofs.YtpideiliiofpaaaGreatDoor
namespace Go.Proofs.YtpideiliiofpaaaGreatDoor.SurdRing
open Go.ChangeShapes Go.WideShapes Go.ChangeAt Go.RowKit Go.ChangeMaps
theorem contract (H:Type) (enc:TypeId × Value->H) (W:World) (base:Nat) (args:Array Value) (ds gs:List (DataW H)) (before:List MemPlace)
 (hval:∀ (j:Nat) t v,Tryz.f7.params[j]?=some t->args[j]?=some v->Value.okWide Tryz.prog W .any base t v)
 (hW:DataW.Whole enc Tryz.prog Tryz.f7.params.toList Rows.surdRingSpec.vars false W args.toList ds gs before) (hL:laidMetH Tryz.prog Rows.surdRingRow.laid W) :
 Calls Tryz.prog 7 args W fun e W'=>∃ v,e = .returned v/\Rows.surdRingSpec.post enc Tryz.prog Tryz.f7 false true false false W args v W':=by
 have hW':=hW
 obtain ⟨p,q,hA0,hV,rfl,hfz,hnd⟩:=hW
 have hA:DataW.TrodAll enc Tryz.prog W 0 (fun _=>true) true Tryz.f7.params.toList args.toList ds p:=hA0
 rw [Tryz.params7] at hA hval
 obtain ⟨v0,vs0,d0,ds0,p0,q0,hargs0,rfl,rfl,h0,r0⟩:=trodAll_cons hA
 obtain ⟨v1,vs1,d1,ds1,p1,q1,hargs1,rfl,rfl,h1,r1⟩:=trodAll_cons r0
 obtain ⟨v2,vs2,d2,ds2,p2,q2,hargs2,rfl,rfl,h2,r2⟩:=trodAll_cons r1
 obtain ⟨rfl,rfl,rfl⟩:=trodAll_nil r2
 obtain rfl:args = #[v0,v1,v2]:=by cases args;simp_all
 obtain ⟨rfl,rfl⟩:=trodVars_none hV
 simp only [List.append_nil] at hW' hfz
 have hlt:∀ p ∈ p0++(p1++p2),p.block<W.heap.size:=fun p hp=>by
  have:=DataW.TrodAll.lt hA p (by simpa using hp)
  exact this
 have hv0:=hval 0 51 v0 rfl rfl
 obtain ⟨x0,y0,l0,N0,a0,b0⟩:=Hl hv0 h0
 have hv1:=hval 1 51 v1 rfl rfl
 obtain ⟨x1,y1,l1,N1,a1,b1⟩:=Hl hv1 h1
 have hv2:=hval 2 51 v2 rfl rfl
 obtain ⟨x2,y2,l2,N2,a2,b2⟩:=Hl hv2 h2
 clear hA0
 refine (Tb W v0 v1 v2 x0 y0 x1 y1 x2 y2 l0 l1 l2 N0 N1 N2 a0 b0 (tab_of hL)).mono fun e W' ⟨he,hg⟩=>?_
 subst he
 have hs0:∀ sp:Nat->Bool,(∀ p ∈ p0,sp p.block=true)->DataW.Trod enc Tryz.prog W' 0 sp true 51 (v0) d0 p0:=fun sp hsp=>
  Go.WideElems.Trod_stays (by kernel_rfl) (by kernel_rfl) (of_decide_eq_true (by kernel_rfl)) h0 (fun p hp=>Fe hg (hlt p (by simp [hp]))) hsp
 have hs1:∀ sp:Nat->Bool,(∀ p ∈ p1,sp p.block=true)->DataW.Trod enc Tryz.prog W' 0 sp true 51 (v1) d1 p1:=fun sp hsp=>
  Go.WideElems.Trod_stays (by kernel_rfl) (by kernel_rfl) (of_decide_eq_true (by kernel_rfl)) h1 (fun p hp=>Fe hg (hlt p (by simp [hp]))) hsp
 have hs2:∀ sp:Nat->Bool,(∀ p ∈ p2,sp p.block=true)->DataW.Trod enc Tryz.prog W' 0 sp true 51 (v2) d2 p2:=fun sp hsp=>
  Go.WideElems.Trod_stays (by kernel_rfl) (by kernel_rfl) (of_decide_eq_true (by kernel_rfl)) h2 (fun p hp=>Fe hg (hlt p (by simp [hp]))) hsp
 exact ⟨_,rfl,Ph hW' hlt (fun _ _ _=>trodAll_cons_mk (shut_bool Tryz.underlying4 _) trodAll_mk0) (fun sp hsp=>by
  have:=trodAll_cons_mk (hs0 sp (fun p hp=>hsp p (by simp [hp]))) (trodAll_cons_mk (hs1 sp (fun p hp=>hsp p (by simp [hp]))) (trodAll_cons_mk (hs2 sp (fun p hp=>hsp p (by simp [hp]))) (trodAll_mk0)))
  rw [List.append_nil] at this
  exact this) (fun _=>rfl) hg (ok_one (by kernel_rfl) rfl (okWide_bool_mk Tryz.underlying4 _))⟩
theorem laid_met (os:Os):laidMet Tryz.prog Rows.surdRingRow.laid ((F7 os).forCall (fun _ _=>0) ⟨#[], #[.agg #[.int .i64 0,.int .i64 0,.slice none 0 0],.agg #[.int .i64 0,.int .i64 0,.slice none 0 0],.agg #[.int .i64 0,.int .i64 0,.slice none 0 0]],[]⟩).memory:=
 laidMet_of_run' 80 (by kernel_rfl) (by kernel_rfl)
theorem reads (os:Os) {H:Type} (enc:TypeId × Value->H):∃ places,DataW.whole enc Tryz.prog ((F7 os).forCall (fun _ _=>0) ⟨#[], #[.agg #[.int .i64 0,.int .i64 0,.slice none 0 0],.agg #[.int .i64 0,.int .i64 0,.slice none 0 0],.agg #[.int .i64 0,.int .i64 0,.slice none 0 0]],[]⟩).memory Tryz.f7.params.toList Rows.surdRingSpec.vars false #[Value.agg #[.int .i64 0,.int .i64 0,.slice none 0 0],Value.agg #[.int .i64 0,.int .i64 0,.slice none 0 0],Value.agg #[.int .i64 0,.int .i64 0,.slice none 0 0]].toList 8=some ([.agg [.lit (.int .i64 0),.lit (.int .i64 0),.nil],.agg [.lit (.int .i64 0),.lit (.int .i64 0),.nil],.agg [.lit (.int .i64 0),.lit (.int .i64 0),.nil]],[],places):=
 ⟨[],by kernel_rfl⟩
theorem lifted (os:Os) (started:os.Started) (H:Type) (enc:TypeId × Value->H) (F:Stop.Interp) :
 ReturnsInHanded {} Tryz.checked os 7 .any ((OpenSpec.ofChange Rows.surdRingSpec).preRow enc Tryz.prog Tryz.f7 Rows.surdRingRow.domain false Rows.surdRingRow.laid) (((OpenSpec.ofChange Rows.surdRingSpec).at F).post enc Tryz.prog Tryz.f7 false true false false):=by
 obtain ⟨places,hx⟩:=reads os enc
 refine returnsInHanded_of_row (C:=Tryz.checked) (s:=OpenSpec.ofChange Rows.surdRingSpec) law_own started (by kernel_rfl) Tryz.func7
  (witness_row_at (enc:=enc) (C:=Tryz.checked) false (F7 os) #[.agg #[.int .i64 0,.int .i64 0,.slice none 0 0],.agg #[.int .i64 0,.int .i64 0,.slice none 0 0],.agg #[.int .i64 0,.int .i64 0,.slice none 0 0]] rfl (by kernel_rfl) (by kernel_rfl) (by kernel_rfl)
   (OpenSpec.preRow_of_cond 8 hx (by kernel_rfl) (fun k hk=>by cases hk) (by kernel_rfl) (laid_met os))) ?_
 intro W base args ds gs before hval hW _ _ _ hL _ _
 exact contract H enc W base args ds gs before hval hW hL
theorem said:Rows.SurdRingSaid:=
 OpenClaim.holds_of_cond 7 Tryz.f7 rfl rfl rfl rfl rfl rfl rfl ⟨rfl,rfl,rfl,rfl,rfl⟩ rfl rfl rfl rfl rfl (by kernel_rfl) Tryz.func7 (by kernel_rfl)
  (of_decide_eq_true (by kernel_rfl)) (by unfold Func.isWrapper;first | (rw [if_pos (by decide +kernel)];kernel_rfl) | (rw [if_neg (by decide +kernel)];exact ⟨rfl,rfl⟩))
  (fun os started H enc _ F=>by rw [OpenClaim.pre_eq_preRow];exact lifted os started H enc F)
theorem plain (f : FuncId) (fn : Func) (hf : Tryz.pinned.checked.prog.funcNamed "pellicle/pelliclelaw04.SurdRing" = some f) (hfn : Tryz.pinned.checked.prog.funcs[f]? = some fn) :
 false=Tryz.pinned.checked.prog.looks [] /\ ∀ (j:Nat) t,fn.params[j]?=some t->Tryz.pinned.checked.prog.wantsStandIn t=false:=by
 obtain rfl : f = 7 := Option.some.inj ((show Tryz.prog.funcNamed "pellicle/pelliclelaw04.SurdRing" = some 7 by kernel_rfl).symm.trans hf) |>.symm
 obtain rfl:fn=Tryz.f7:=(Option.some.inj (Tryz.func7.symm.trans hfn)).symm
 refine ⟨by kernel_rfl,fun j t ht=>?_⟩
 rw [Tryz.params7] at ht
 have ht2:=Array.mem_of_getElem? ht
 simp at ht2
 first | (rcases ht2 with rfl | rfl | rfl) | (rcases ht2 with rfl | rfl) | subst ht2
 all_goals exact (show Tryz.prog.wantsStandIn _=false by kernel_rfl)
theorem card:Rows.SurdRingCardSaid:=
 Claim7.holds_tied_plain_at .later [] _ _ _ _ said (fun _ h=>by cases h) (by kernel_rfl) (fun _ h=>by cases h) surdRing_row_tie rfl ⟨rfl,rfl⟩ (by kernel_rfl) rfl plain (by kernel_rfl)
end Go.Proofs.YtpideiliiofpaaaGreatDoor.SurdRing
