/- What the laws lean on, part 12. -/
import Derived.Below
import Derived.BigCall
import Derived.BigQuiet
import Derived.BigRegion
import Derived.Deep.AppendLies
import Derived.Deep.CutBlock
import Derived.Deep.CutRange
import Derived.Deep.DeepCutAuto
import Derived.Deep.DeepHandedRow
import Derived.Deep.LoopGhost
import Derived.Deep.MidRow
import Derived.Deep.QuietTactic
import Derived.Deep.RegionHeld3
import Derived.Deep.RegionLaw
import Derived.Deep.WholeRow
import Derived.Laws.AppendOwn
import Derived.Laws.Concat
import Derived.Laws.CopyOwn
import Derived.Laws.Externs
import Derived.Laws.IdiomStrings
import Derived.Lib.BitFns
import Derived.Lib.Bytealg
import Derived.Lib.Hide
import Derived.Lib.Slices
import Derived.Lib.Small
import Derived.Lib.Strings
import Derived.Lib.Walk
import Derived.LoopIn
import Derived.LoopN
import Derived.LoopNIn
import Derived.Maps.AppendAt
import Derived.OpenShut
import Derived.OrdersHeld
import Derived.OrdersIn
import Derived.Outline
import Derived.OwnWalk
import Derived.OwnWalkIn
import Derived.ProofKit
import Derived.RangeFuncBound
import Derived.RangeFuncCalls
import Derived.RangeFuncLeaves
import Derived.RangeFuncNested
import Derived.RangeFuncOwn
import Derived.Shelf.Abstract
import Derived.Shelf.Bits.Mul64
import Derived.Shelf.RegionOpen
import Derived.Shelf.Spec.TrailingZeros
import Derived.StillTailTactics
import Derived.TacticsInMore
import Derived.WalkKit
import Derived.WalkLawsBesides
import Derived.WalkSpells
import Derived.Test.YtninnifpgpjfhaaGreatDoorProg
import Derived.Test.YtninnifpgpjfhaaGreatDoorRows
import Derived.Test.YtninnifpgpjfhaaGreatDoorMc11
set_option linter.unusedVariables false
set_option linter.unusedSimpArgs false
set_option maxRecDepth 100000
namespace Go.Proofs.YtninnifpgpjfhaaGreatDoor
open Go.RowKit Mat Ex PM
def RetRR (w:World) (n m:Int) (e:Ending) (w':World):Prop:=∃ v u,e = .returned (.tuple #[v,u])/\RIntV w' v n/\RIntV w' u m/\w.grownBy w' none
def und (d:Int):Int:=1+(IntKind.u64.wrap d)%60
theorem und_pos (d:Int) : 0<und d/\und d<=60:=by unfold und;omega
theorem wrap_at (d:Int) : 0<=IntKind.u64.wrap d/\IntKind.u64.wrap d<18446744073709551616:=by
 simp [IntKind.wrap,IntKind.signed,IntKind.bits];omega
theorem C1 {ρ : Operand->Value} {x:Operand} {u:Value} (h:[x].map ρ=[u]) : ρ x=u:=by simpa using h
theorem conv_int {P:Program} {ρ : Operand->Value} {o:Oper} {t t':TypeId} {x:Operand} {k k0 k1:IntKind} {d:Int} {W:World} (ho:o.op = .convert t t' x) (hx : ρ x = .int k0 d) (h0:P.underlying t=some (.int k1)) (h1:P.underlying t'=some (.int k)):(execOp ρ o).run P W = .ok (.value (.int k (k.wrap d))) W:=by
 simp only [execOp,ho,hx,convert,Sem.run_bind,run_underlying h0 W,run_underlying h1 W,Result.andThen_ok,Conv.intToInt,Sem.run_pure]
theorem conv_ui {ρ : Operand->Value} {o:Oper} {x:Operand} {d:Int} {W:World} (ho:o.op = .convert 3 73 x) (hx : ρ x = .int .i64 d):(execOp ρ o).run Tryz.prog W = .ok (.value (.int .u64 (IntKind.u64.wrap d))) W:=
 conv_int (k1 := .i64) ho hx (by kernel_rfl) (by kernel_rfl)
theorem conv_iu {ρ : Operand->Value} {o:Oper} {x:Operand} {d:Int} {W:World} (ho:o.op = .convert 73 3 x) (hx : ρ x = .int .u64 d) (h0 : 0<=d) (h1:d<=1000):(execOp ρ o).run Tryz.prog W = .ok (.value (.int .i64 d)) W:=by
 rw [conv_int (k1 := .u64) (k := .i64) ho hx (by kernel_rfl) (by kernel_rfl),show IntKind.i64.wrap d=d by simp [IntKind.wrap,IntKind.signed,IntKind.bits];omega]
theorem rem_told {P:Program} {ρ : Operand->Value} {o:Oper} {t t':TypeId} {x y:Operand} {d k:Int} {W:World} (ho:o.op = .binOp .rem t x y t') (hx : ρ x = .int .u64 (IntKind.u64.wrap d)) (hy : ρ y = .int .u64 k) (hk : 0<k:=by omega):(execOp ρ o).run P W = .ok (.value (.int .u64 (IntKind.u64.wrap d%k))) W:=by
 have h0:=wrap_at d
 have hm:(IntKind.u64.wrap d).tmod k=IntKind.u64.wrap d%k:=Int.tmod_eq_emod_of_nonneg h0.1
 have hg:eqGuard .rem t x y (.int .u64 (IntKind.u64.wrap d)) (.int .u64 k)=pure ():=by unfold eqGuard;rfl
 have hb:binOp .rem t (.int .u64 (IntKind.u64.wrap d)) (.int .u64 k)=pure (.int .u64 (IntKind.u64.wrap d%k)):=by
  rw [<- hm]
  show Op.intDiv .rem .u64 _ k=_
  unfold Op.intDiv
  rw [if_neg (by omega)]
 simp only [execOp,ho,hx,hy,hg,hb,Sem.run_bind,Sem.run_pure,Result.andThen_ok]
theorem add_100 {t:TypeId} {x y:Int} (h0 : 0<=x+y) (h1:x+y<=1000):binOp .add t (.int .i64 x) (.int .i64 y) = .pure (.int .i64 (x+y)):=by
 show Sem.pure (Value.int .i64 (IntKind.i64.wrap (x+y)))=_
 rw [show IntKind.i64.wrap (x+y)=x+y by simp [IntKind.wrap,IntKind.signed,IntKind.bits];omega]
theorem und_b (d:Int) : -9223372036854775808<=und d/\und d<=9223372036854775807:=by have:=und_pos d;omega
theorem rHOf_any (w:World) (x y:Int) (h1 : -9223372036854775808<=x) (h2:x<=9223372036854775807) (h3 : -9223372036854775808<=y) (h4:y<=9223372036854775807) :
 Calls Tryz.prog 48 #[.int .i64 x,.int .i64 y] w (RetH w ⟨x,y,1⟩):=by
 refine A5 B1 Tryz.func48 [sZ x,sZ y] [sR x,sR y,sR 1] (.cons rfl (.cons rfl .nil)) (rs:=[cl 2 28 [on 0],cl 3 28 [on 1],cl 4 28 [.v false [.lit (.int .i64 1)]]]) (out := .v true [.an 2 0,.an 2 1,.an 3 0,.an 3 1,.an 4 0,.an 4 1]) (nc:=5) (by kernel_rfl)
  ⟨fun σ W g h hb=>arg1 (h 0 rfl) (cB W x h1 h2),
  fun σ W g h hb=>arg1 (h 1 rfl) (cB W y h3 h4),
  fun σ W g h hb=>cB W 1 (by omega) (by omega),
  trivial⟩ fun τ W g h=>⟨_,rfl,mkh (h 2 rfl) (h 3 rfl) (h 4 rfl),g⟩
theorem E6 (w:World) (va vb:Value) (x y:Int) (E:Nat) (Ha:RIntV w va x) (Hb:RIntV w vb y) (hE:E<=1000000) (l1:x.natAbs<D^E) (l2:y.natAbs<D^E) :
 Calls Tryz.prog 58 #[va,vb] w (F2 w (x*y)):=by
 refine A5 B1 Tryz.func58 [sR x,sR y] [sR (x*y)] (.cons Ha (.cons Hb .nil)) (rs:=[cl 2 61 [ag 2 0,ag 2 1]]) (out:=ag 2 2) (nc:=3) (by kernel_rfl)
  ⟨fun σ W g h hb=>M3 W _ _ _ _ (h 0 rfl) (h 1 rfl) (dp6 l1 hE) (dp6 l2 hE),
  trivial⟩ fun τ W g h=>⟨_,rfl,h 2 rfl,g⟩
theorem kO (w:World) (va vb:Value) (x y:Int) (E:Nat) (Ha:RIntV w va x) (Hb:RIntV w vb y) (hE:E<=1000000) (l1:x.natAbs<D^E) (l2:y.natAbs<D^E) :
 Calls Tryz.prog 90 #[va,vb] w (F2 w (x-y)):=by
 refine A5 B1 Tryz.func90 [sR x,sR y] [sR (x-y)] (.cons Ha (.cons Hb .nil)) (rs:=[cl 2 126 [ag 2 0,ag 2 1]]) (out:=ag 2 2) (nc:=3) (by kernel_rfl)
  ⟨fun σ W g h hb=>rZSub_any W _ _ _ _ (h 0 rfl) (h 1 rfl) (dp6 l1 hE) (dp6 l2 hE),
  trivial⟩ fun τ W g h=>⟨_,rfl,h 2 rfl,g⟩
theorem rHadd_any (w:World) (va vb:Value) (x y:Int) (E:Nat) (Ha:RIntV w va x) (Hb:RIntV w vb y) (hE:E<=1000000) (l1:x.natAbs<D^E) (l2:y.natAbs<D^E) :
 Calls Tryz.prog 103 #[va,vb] w (F2 w (x+y)):=by
 refine A5 B1 Tryz.func103 [sR x,sR y] [sR (x+y)] (.cons Ha (.cons Hb .nil)) (rs:=[cl 2 60 [ag 2 0,ag 2 1]]) (out:=ag 2 2) (nc:=3) (by kernel_rfl)
  ⟨fun σ W g h hb=>Z4 W _ _ _ _ (h 0 rfl) (h 1 rfl) (dp6 l1 hE) (dp6 l2 hE),
  trivial⟩ fun τ W g h=>⟨_,rfl,h 2 rfl,g⟩
theorem U3 (w:World) (va vb:Value) (a b:H3) (E:Nat) (Ha:HV w va a) (Hb:HV w vb b) (hE:E<=10000) (ba:HB E a) (bb:HB E b) :
 Calls Tryz.prog 89 #[va,vb] w (RetRR w (hlx a b) (hly a b)):=by
 refine A5 B1 Tryz.func89 [sH a,sH b] [sR (b.x*a.z),sR (a.x*b.z),sR (hlx a b),sR (b.y*a.z),sR (a.y*b.z),sR (hly a b)] (.cons Ha (.cons Hb .nil)) (rs:=[cl 2 58 [ag 2 1,.v true [.an 0 4,.an 0 5]],cl 3 58 [ag 2 0,.v true [.an 1 4,.an 1 5]],cl 4 90 [ag 2 2,ag 2 3],cl 5 58 [.v true [.an 1 2,.an 1 3],.v true [.an 0 4,.an 0 5]],cl 6 58 [.v true [.an 0 2,.an 0 3],.v true [.an 1 4,.an 1 5]],cl 7 90 [ag 2 5,ag 2 6]]) (out := .tup [(true,[.an 4 0,.an 4 1]),(true,[.an 7 0,.an 7 1])]) (nc:=8) (by kernel_rfl)
  ⟨fun σ W g h hb=>E6 W _ _ _ _ E (h31 (h 1 rfl)) (h33 (h 0 rfl)) (by omega) bb.1 ba.2.2,
  fun σ W g h hb=>E6 W _ _ _ _ E (h31 (h 0 rfl)) (h33 (h 1 rfl)) (by omega) ba.1 bb.2.2,
  fun σ W g h hb=>kO W _ _ _ _ (E+E) (h 2 rfl) (h 3 rfl) (by omega) (C5 bb.1 ba.2.2) (C5 ba.1 bb.2.2),
  fun σ W g h hb=>E6 W _ _ _ _ E (h32 (h 1 rfl)) (h33 (h 0 rfl)) (by omega) bb.2.1 ba.2.2,
  fun σ W g h hb=>E6 W _ _ _ _ E (h32 (h 0 rfl)) (h33 (h 1 rfl)) (by omega) ba.2.1 bb.2.2,
  fun σ W g h hb=>kO W _ _ _ _ (E+E) (h 5 rfl) (h 6 rfl) (by omega) (C5 bb.2.1 ba.2.2) (C5 ba.2.1 bb.2.2),
  trivial⟩ fun τ W g h=>⟨_,_,rfl,h 4 rfl,h 7 rfl,g⟩
theorem M6 (w:World) (va vb:Value) (a b:H3) (E:Nat) (Ha:HV w va a) (Hb:HV w vb b) (hE:E<=10000) (ba:HB E a) (bb:HB E b) (za : 0<a.z) (zb : 0<b.z) :
 Calls Tryz.prog 20 #[va,vb] w (fun e w'=>e = .returned (.int .i64 (F0 (rp a) (rp b)))/\w.grownBy w' none):=by
 by_cases h1:G3 (rp a).1 (rp b).1=0
 · skip
   unfold F0
   rw [if_pos h1]
   refine A5 B1 Tryz.func20 [sH a,sH b] [sR (a.x*b.z),sR (b.x*a.z),sZ (G3 (rp a).1 (rp b).1),sV (.bool false),sR (a.y*b.z),sR (b.y*a.z),sZ (G3 (rp a).2 (rp b).2)] (.cons Ha (.cons Hb .nil)) (rs:=[cl 2 58 [ag 2 0,.v true [.an 1 4,.an 1 5]],cl 3 58 [ag 2 1,.v true [.an 0 4,.an 0 5]],cl 4 42 [ag 2 2,ag 2 3],co 5 (.binOp .neq 3 (.tmp 17) (.const (.int .i64 0)) 3) 4 [on 4,.v false [.lit (.int .i64 0)]] [0,1,2,3,4] [],cl 6 58 [.v true [.an 0 2,.an 0 3],.v true [.an 1 4,.an 1 5]],cl 7 58 [.v true [.an 1 2,.an 1 3],.v true [.an 0 4,.an 0 5]],cl 8 42 [ag 2 6,ag 2 7]]) (out:=on 8) (nc:=9) (by kernel_rfl)
    ⟨fun σ W g h hb=>E6 W _ _ _ _ E (h31 (h 0 rfl)) (h33 (h 1 rfl)) (by omega) ba.1 bb.2.2,
    fun σ W g h hb=>E6 W _ _ _ _ E (h31 (h 1 rfl)) (h33 (h 0 rfl)) (by omega) bb.1 ba.2.2,
    fun σ W g h hb=>toZ (Z3 W _ _ _ _ (h 2 rfl) (h 3 rfl) (dp6 (C5 ba.1 bb.2.2) (by omega)) (dp6 (C5 bb.1 ba.2.2) (by omega))) (hcmp za zb).1,
    fun σ W g h hb=>fun ρ o ho _ hv=>⟨_,N2 false ho ((A0 hv).1.trans (h 4 rfl)) (A0 hv).2 (decide_eq_true h1),rfl⟩,
    fun σ W g h hb=>E6 W _ _ _ _ E (h32 (h 0 rfl)) (h33 (h 1 rfl)) (by omega) ba.2.1 bb.2.2,
    fun σ W g h hb=>E6 W _ _ _ _ E (h32 (h 1 rfl)) (h33 (h 0 rfl)) (by omega) bb.2.1 ba.2.2,
    fun σ W g h hb=>toZ (Z3 W _ _ _ _ (h 6 rfl) (h 7 rfl) (dp6 (C5 ba.2.1 bb.2.2) (by omega)) (dp6 (C5 bb.2.1 ba.2.2) (by omega))) (hcmp za zb).2,
    trivial⟩ fun τ W g h=>⟨congrArg Ending.returned (h 8 rfl),g⟩
 · skip
   unfold F0
   rw [if_neg h1]
   refine A5 B1 Tryz.func20 [sH a,sH b] [sR (a.x*b.z),sR (b.x*a.z),sZ (G3 (rp a).1 (rp b).1),sV (.bool true)] (.cons Ha (.cons Hb .nil)) (rs:=[cl 2 58 [ag 2 0,.v true [.an 1 4,.an 1 5]],cl 3 58 [ag 2 1,.v true [.an 0 4,.an 0 5]],cl 4 42 [ag 2 2,ag 2 3],co 5 (.binOp .neq 3 (.tmp 17) (.const (.int .i64 0)) 3) 4 [on 4,.v false [.lit (.int .i64 0)]] [0,1,2,3,4] []]) (out:=on 4) (nc:=6) (by kernel_rfl)
    ⟨fun σ W g h hb=>E6 W _ _ _ _ E (h31 (h 0 rfl)) (h33 (h 1 rfl)) (by omega) ba.1 bb.2.2,
    fun σ W g h hb=>E6 W _ _ _ _ E (h31 (h 1 rfl)) (h33 (h 0 rfl)) (by omega) bb.1 ba.2.2,
    fun σ W g h hb=>toZ (Z3 W _ _ _ _ (h 2 rfl) (h 3 rfl) (dp6 (C5 ba.1 bb.2.2) (by omega)) (dp6 (C5 bb.1 ba.2.2) (by omega))) (hcmp za zb).1,
    fun σ W g h hb=>fun ρ o ho _ hv=>⟨_,N2 true ho ((A0 hv).1.trans (h 4 rfl)) (A0 hv).2 (decide_eq_false h1),rfl⟩,
    trivial⟩ fun τ W g h=>⟨congrArg Ending.returned (h 4 rfl),g⟩
theorem eF (w:World) (va vb vc:Value) (a b c:H3) (E:Nat) (Ha:HV w va a) (Hb:HV w vb b) (Hc:HV w vc c) (hE:E<=10000) (ba:HB E a) (bb:HB E b) (bc:HB E c) :
 Calls Tryz.prog 62 #[va,vb,vc] w (RetRF w (hdt a b c) (hdn a b c)):=by
 have l1:=ba.less bb
 have l2:=ba.less bc
 refine A5 B1 Tryz.func62 [sH a,sH b,sH c] [sRR (hlx a b) (hly a b),sRR (hlx a c) (hly a c),sR (hlx a b*hlx a c),sR (hly a b*hly a c),sR (hdt a b c),sR (a.z*a.z),sR (b.z*c.z),sR (hdn a b c)] (.cons Ha (.cons Hb (.cons Hc .nil))) (rs:=[cl 3 89 [ag 6 0,ag 6 1],cl 4 89 [ag 6 0,ag 6 2],cl 5 58 [ag 2 3,ag 2 4],cl 6 58 [.v true [.an 3 2,.an 3 3],.v true [.an 4 2,.an 4 3]],cl 7 103 [ag 2 5,ag 2 6],cl 8 58 [.v true [.an 0 4,.an 0 5],.v true [.an 0 4,.an 0 5]],cl 9 58 [.v true [.an 1 4,.an 1 5],.v true [.an 2 4,.an 2 5]],cl 10 58 [ag 2 8,ag 2 9]]) (out := .v true [.an 7 0,.an 7 1,.an 10 0,.an 10 1]) (nc:=11) (by kernel_rfl)
  ⟨fun σ W g h hb=>toRR (U3 W _ _ a b E (h 0 rfl) (h 1 rfl) hE ba bb),
  fun σ W g h hb=>toRR (U3 W _ _ a c E (h 0 rfl) (h 2 rfl) hE ba bc),
  fun σ W g h hb=>E6 W _ _ _ _ (E+E+1) (rr1 (h 3 rfl)) (rr1 (h 4 rfl)) (by omega) l1.1 l2.1,
  fun σ W g h hb=>E6 W _ _ _ _ (E+E+1) (rr2 (h 3 rfl)) (rr2 (h 4 rfl)) (by omega) l1.2 l2.2,
  fun σ W g h hb=>rHadd_any W _ _ _ _ (E+E+1+(E+E+1)) (h 5 rfl) (h 6 rfl) (by omega) (C5 l1.1 l2.1) (C5 l1.2 l2.2),
  fun σ W g h hb=>E6 W _ _ _ _ E (h33 (h 0 rfl)) (h33 (h 0 rfl)) (by omega) ba.2.2 ba.2.2,
  fun σ W g h hb=>E6 W _ _ _ _ E (h33 (h 1 rfl)) (h33 (h 2 rfl)) (by omega) bb.2.2 bc.2.2,
  fun σ W g h hb=>E6 W _ _ _ _ (E+E) (h 8 rfl) (h 9 rfl) (by omega) (C5 ba.2.2 ba.2.2) (C5 bb.2.2 bc.2.2),
  trivial⟩ fun τ W g h=>⟨_,rfl,mkrf (h 7 rfl) (h 10 rfl),g⟩
theorem M5 (w:World) (va vb vc:Value) (a b c:H3) (E:Nat) (Ha:HV w va a) (Hb:HV w vb b) (Hc:HV w vc c) (hE:E<=10000) (ba:HB E a) (bb:HB E b) (bc:HB E c) (za : 0<a.z) (zb : 0<b.z) (zc : 0<c.z) :
 Calls Tryz.prog 54 #[va,vb,vc] w (fun e w'=>e = .returned (.int .i64 (rsg (B5 (rp a) (rp b) (rp c))))/\w.grownBy w' none):=by
 have l1:=ba.less bb
 have l2:=ba.less bc
 refine A5 B1 Tryz.func54 [sH a,sH b,sH c] [sRR (hlx a b) (hly a b),sRR (hlx a c) (hly a c),sR (hlx a b*hly a c),sR (hly a b*hlx a c),sZ (rsg (B5 (rp a) (rp b) (rp c)))] (.cons Ha (.cons Hb (.cons Hc .nil))) (rs:=[cl 3 89 [ag 6 0,ag 6 1],cl 4 89 [ag 6 0,ag 6 2],cl 5 58 [ag 2 3,.v true [.an 4 2,.an 4 3]],cl 6 58 [.v true [.an 3 2,.an 3 3],ag 2 4],cl 7 42 [ag 2 5,ag 2 6]]) (out:=on 7) (nc:=8) (by kernel_rfl)
  ⟨fun σ W g h hb=>toRR (U3 W _ _ a b E (h 0 rfl) (h 1 rfl) hE ba bb),
  fun σ W g h hb=>toRR (U3 W _ _ a c E (h 0 rfl) (h 2 rfl) hE ba bc),
  fun σ W g h hb=>E6 W _ _ _ _ (E+E+1) (rr1 (h 3 rfl)) (rr2 (h 4 rfl)) (by omega) l1.1 l2.2,
  fun σ W g h hb=>E6 W _ _ _ _ (E+E+1) (rr2 (h 3 rfl)) (rr1 (h 4 rfl)) (by omega) l1.2 l2.1,
  fun σ W g h hb=>toZ (Z3 W _ _ _ _ (h 5 rfl) (h 6 rfl) (dp6 (C5 l1.1 l2.2) (by omega)) (dp6 (C5 l1.2 l2.1) (by omega))) (by rw [<- hcr_sign za zb zc, <- cW];rfl),
  trivial⟩ fun τ W g h=>⟨congrArg Ending.returned (h 7 rfl),g⟩
theorem rsg_le {r:Rat} : rsg r<=0 ↔ r<=0:=by
 have h1:=@rsg_pos r
 rcases dB r with e | e | e
 · have:=rsg_nz.1 e;constructor<;>intro _<;>first | omega | grind
 · have:=rsg_zero.1 e;constructor<;>intro _<;>first | omega | grind
 · have:=h1.1 e;constructor<;>intro _<;>first | omega | grind
theorem L5 (w:World) (va vb:Value) (a b c:H3) (E:Nat) (Ha:HsV w va a b) (Hb:HV w vb c) (hE:E<=10000) (ba:HB E a) (bb:HB E b) (bc:HB E c) (za : 0<a.z) (zb : 0<b.z) (zc : 0<c.z) :
 Calls Tryz.prog 24 #[va,vb] w (RetB w (dec (InS (rp a) (rp b) (rp c)))):=by
 rcases (show B5 (rp a) (rp b) (rp c)≠0\/(B5 (rp a) (rp b) (rp c)=0 /\ ¬ jZ (rp c) (rp a) (rp b)<=0)\/(B5 (rp a) (rp b) (rp c)=0/\jZ (rp c) (rp a) (rp b)<=0) by grind) with h1 | ⟨h1,h2⟩ | ⟨h1,h2⟩
 · skip
   rw [X5 (fun q=>h1 (ins_doc.1 q).1)]
   refine A5 B1 Tryz.func24 [sHs a b,sH c] [sZ (rsg (B5 (rp a) (rp b) (rp c))),sV (.bool false)] (.cons Ha (.cons Hb .nil)) (rs:=[cl 2 54 [ag 6 0,.v true [.an 0 6,.an 0 7,.an 0 8,.an 0 9,.an 0 10,.an 0 11],ag 6 1],co 3 (.binOp .eql 3 (.tmp 10) (.const (.int .i64 0)) 3) 4 [on 2,.v false [.lit (.int .i64 0)]] [0,1,2] []]) (out := .v false [.lit (.bool false)]) (nc:=4) (by kernel_rfl)
    ⟨fun σ W g h hb=>toZ (M5 W _ _ _ a b c E (hs1 (h 0 rfl)) (hs2 (h 0 rfl)) (h 1 rfl) hE ba bb bc za zb zc) rfl,
    fun σ W g h hb=>fun ρ o ho _ hv=>⟨_,E7 false ho ((A0 hv).1.trans (h 2 rfl)) (A0 hv).2 (decide_eq_false (fun q=>h1 (rsg_zero.1 q))),rfl⟩,
    trivial⟩ fun τ W g h=>⟨rfl,g⟩
 · skip
   rw [X5 (fun q=>h2 (ins_doc.1 q).2)]
   refine A5 B1 Tryz.func24 [sHs a b,sH c] [sZ (rsg (B5 (rp a) (rp b) (rp c))),sV (.bool true),sRF (hdt c a b) (hdn c a b),sV (.bool false)] (.cons Ha (.cons Hb .nil)) (rs:=[cl 2 54 [ag 6 0,.v true [.an 0 6,.an 0 7,.an 0 8,.an 0 9,.an 0 10,.an 0 11],ag 6 1],co 3 (.binOp .eql 3 (.tmp 10) (.const (.int .i64 0)) 3) 4 [on 2,.v false [.lit (.int .i64 0)]] [0,1,2] [],cl 4 62 [ag 6 1,ag 6 0,.v true [.an 0 6,.an 0 7,.an 0 8,.an 0 9,.an 0 10,.an 0 11]],co 5 (.binOp .leq 3 (.tmp 20) (.const (.int .i64 0)) 3) 4 [on 4,.v false [.lit (.int .i64 0)]] [0,1,2,3,4] []]) (out := .v false [.lit (.bool false)]) (nc:=6) (by kernel_rfl)
    ⟨fun σ W g h hb=>toZ (M5 W _ _ _ a b c E (hs1 (h 0 rfl)) (hs2 (h 0 rfl)) (h 1 rfl) hE ba bb bc za zb zc) rfl,
    fun σ W g h hb=>fun ρ o ho _ hv=>⟨_,E7 true ho ((A0 hv).1.trans (h 2 rfl)) (A0 hv).2 (decide_eq_true (rsg_zero.2 h1)),rfl⟩,
    fun σ W g h hb=>eF W _ _ _ c a b E (h 1 rfl) (hs1 (h 0 rfl)) (hs2 (h 0 rfl)) hE bc ba bb,
    fun σ W g h hb=>fun ρ o ho _ hv=>⟨_,O7 false ho ((A0 hv).1.trans (rs1 (rn (h 4 rfl)))) (A0 hv).2 (decide_eq_false (by rw [hdt_sign zc za zb];exact fun q=>h2 (rsg_le.1 q))),rfl⟩,
    trivial⟩ fun τ W g h=>⟨rfl,g⟩
 · skip
   rw [iQ (ins_doc.2 ⟨h1,h2⟩)]
   refine A5 B1 Tryz.func24 [sHs a b,sH c] [sZ (rsg (B5 (rp a) (rp b) (rp c))),sV (.bool true),sRF (hdt c a b) (hdn c a b),sV (.bool true)] (.cons Ha (.cons Hb .nil)) (rs:=[cl 2 54 [ag 6 0,.v true [.an 0 6,.an 0 7,.an 0 8,.an 0 9,.an 0 10,.an 0 11],ag 6 1],co 3 (.binOp .eql 3 (.tmp 10) (.const (.int .i64 0)) 3) 4 [on 2,.v false [.lit (.int .i64 0)]] [0,1,2] [],cl 4 62 [ag 6 1,ag 6 0,.v true [.an 0 6,.an 0 7,.an 0 8,.an 0 9,.an 0 10,.an 0 11]],co 5 (.binOp .leq 3 (.tmp 20) (.const (.int .i64 0)) 3) 4 [on 4,.v false [.lit (.int .i64 0)]] [0,1,2,3,4] []]) (out := .v false [.lit (.bool true)]) (nc:=6) (by kernel_rfl)
    ⟨fun σ W g h hb=>toZ (M5 W _ _ _ a b c E (hs1 (h 0 rfl)) (hs2 (h 0 rfl)) (h 1 rfl) hE ba bb bc za zb zc) rfl,
    fun σ W g h hb=>fun ρ o ho _ hv=>⟨_,E7 true ho ((A0 hv).1.trans (h 2 rfl)) (A0 hv).2 (decide_eq_true (rsg_zero.2 h1)),rfl⟩,
    fun σ W g h hb=>eF W _ _ _ c a b E (h 1 rfl) (hs1 (h 0 rfl)) (hs2 (h 0 rfl)) hE bc ba bb,
    fun σ W g h hb=>fun ρ o ho _ hv=>⟨_,O7 true ho ((A0 hv).1.trans (rs1 (rn (h 4 rfl)))) (A0 hv).2 (decide_eq_true (by rw [hdt_sign zc za zb];exact rsg_le.2 h2)),rfl⟩,
    trivial⟩ fun τ W g h=>⟨rfl,g⟩
theorem hz4 {a b c d:H3} (za : 0<a.z) (zb : 0<b.z) (zc : 0<c.z) (zd : 0<d.z):(a.z:Rat)*b.z*c.z*d.z≠0:=by
 have h1:=hz za;have h2:=hz zb;have h3:=hz zc;have h4:=hz zd
 intro e
 rcases Rat.mul_eq_zero.1 e with e | e
 · rcases Rat.mul_eq_zero.1 e with e | e
   · rcases Rat.mul_eq_zero.1 e with e | e
     · exact h1 e
     · exact h2 e
   · exact h3 e
 · exact h4 e
theorem lat_h {x y d:Int} (h1 : -9223372036854775808<=x) (h2:x<=9223372036854775807) (h3 : -9223372036854775808<=y) (h4:y<=9223372036854775807):HB 5 ⟨x,y,und d⟩:=
 ⟨dint h1 h2,dint h3 h4,dint (und_b d).1 (und_b d).2⟩
theorem arg2 {P:Program} {f:FuncId} {a b c d:Value} {w:World} {R:Ending->World->Prop} (h:a=b) (h2:c=d) (k:Calls P f #[b,d] w R):Calls P f #[a,c] w R:=by subst h;subst h2;exact k
abbrev Dt3:=Int × Int × Int
def DAt (w:World) (b o:Nat) (d:Dt3):Prop:=w.cell? ⟨b,o,none⟩=some (.int .i64 d.1)/\w.cell? ⟨b,o+1,none⟩=some (.int .i64 d.2.1)/\w.cell? ⟨b,o+2,none⟩=some (.int .i64 d.2.2)
theorem P3 {w w':World} {b o:Nat} (h:w'.heap[b]?=w.heap[b]?):w'.cell? ⟨b,o,none⟩=w.cell? ⟨b,o,none⟩:=by unfold World.cell?;rw [h]
theorem aJ {w:World} {b o:Nat} {v:Value} (h:w.cell? ⟨b,o,none⟩=some v):b<w.heap.size:=by
 unfold World.cell? at h
 cases hb:w.heap[b]? with
 | none=>simp [hb] at h
 | some x=>exact (Array.getElem?_eq_some_iff.1 hb).1
theorem DAt.same {w w':World} {b o:Nat} {d:Dt3} (h:DAt w b o d) (hb:w'.heap[b]?=w.heap[b]?):DAt w' b o d:=⟨(P3 hb).trans h.1,(P3 hb).trans h.2.1,(P3 hb).trans h.2.2⟩
def DtsV (base:Nat) (w:World) (v:Value) (l:List Dt3):Prop:=∃ s n c,v = .slice s n c/\l.length=n/\n<=c/\(l=[] \/ ∃ b off,s=some ⟨b,off,none⟩/\b<base /\ ∀ i (h:i<l.length),DAt w b (off+3*i) l[i])
theorem DtsV.block {base:Nat} {w:World} {v:Value} {l:List Dt3} (h:DtsV base w v l) {q:Nat} (hq:fpS v q):q<base/\q<w.heap.size:=by
 obtain ⟨s,n,c,rfl,hl,hn,h⟩:=h
 obtain ⟨off,m,c',e⟩:=hq
 cases e
 rcases h with h | ⟨b,off',e,hb,hd⟩
 · rw [h] at hl;simp at hl
 · cases e;exact ⟨hb,aJ (hd 0 (by omega)).1⟩
theorem DtsV.keeps {base:Nat} {W W':World} {v:Value} {l:List Dt3} (h:DtsV base W v l) (hq:∀ q,fpS v q->W'.heap[q]?=W.heap[q]?):DtsV base W' v l:=by
 obtain ⟨s,n,c,rfl,hl,hn,h⟩:=h
 refine ⟨s,n,c,rfl,hl,hn, ?_⟩
 by_cases h0:l=[]
 · exact .inl h0
 · obtain ⟨b,off,rfl,hb,hc⟩:=h.resolve_left h0
   obtain ⟨m,rfl⟩:∃ m,n=m+1:=⟨n-1,by have:=List.length_pos_iff.2 h0;omega⟩
   exact .inr ⟨b,off,rfl,hb,fun i hi=>(hc i hi).same (hq b ⟨off,m,c,rfl⟩)⟩
def DaV (base:Nat) (w:World) (v:Value) (d:Dt3):Prop:=∃ b off,v = .pointer (some ⟨b,off,none⟩)/\b<base/\DAt w b off d
theorem DaV.block {base:Nat} {w:World} {v:Value} {d:Dt3} (h:DaV base w v d) {q:Nat} (hq:fpP v q):q<base/\q<w.heap.size:=by
 obtain ⟨b,off,rfl,hb,hd⟩:=h
 obtain ⟨o,e⟩:=hq
 cases e;exact ⟨hb,aJ hd.1⟩
section
variable {P:Program} {ρ : Operand->Value} {o:Oper} {W:World}
end
def kPt:dY Pq:=⟨33,8,fun w cs p=>PtV w (.agg cs.toArray) p,fun h k=>h.keeps k,by kernel_rfl⟩
def kH:dY H3:=⟨43,6,fun w cs p=>HV w (.agg cs.toArray) p,fun h k=>h.keeps k,by kernel_rfl⟩
theorem OwV.pts {base:Nat} {W:World} {v:Value} {l:List Pq} (h:OwV kPt base W v l):PtsV W v l:=by
 obtain ⟨xs,⟨hl,h2⟩,hA⟩:=h
 rcases h2 with ⟨rfl,h0⟩ | ⟨g,cap,cur,rfl,hbg,hg,hnc,hcm,hcs,htk⟩
 · exact ⟨none,0,0,rfl,h0,Nat.le_refl _,.inl (List.eq_nil_of_length_eq_zero h0)⟩
 · refine ⟨_,_,_,rfl,rfl,hnc,.inr ⟨g,0,cur,rfl,hg,fun i hi=>?_⟩⟩
   have hx:∀ j,j<8->cur[0+8*i+j]?=((xs.drop (8*i)).take 8)[j]?:=fun j hj=>by
    have hlt : 8*i+j<l.length*8:=by omega
    rw [List.getElem?_take_of_lt hj,List.getElem?_drop, <- htk,List.getElem?_take_of_lt (show 8*i+j<l.length*kPt.z from hlt)]
    simp
   have ha:=hA i hi
   obtain ⟨a,b,c,d,e,f,p,q,e1,h1,h2⟩:=ha
   have e2:(xs.drop (8*i)).take 8=[a,b,c,d,e,f,p,q]:=by
    have:=congrArg (fun v=>match v with | Value.agg x=>x.toList | _=>[]) e1
    exact (show (xs.drop (kPt.z*i)).take kPt.z=[a,b,c,d,e,f,p,q] by simpa using this)
   rw [e2] at hx
   exact ⟨a,b,c,d,e,f,p,q,hx 0 (by omega),hx 1 (by omega),hx 2 (by omega),hx 3 (by omega),hx 4 (by omega),hx 5 (by omega),hx 6 (by omega),hx 7 (by omega),mkpt h1 h2⟩
theorem OwV.hr {base:Nat} {W:World} {v:Value} {l:List H3} (h:OwV kH base W v l):HrV W v l:=by
 obtain ⟨xs,⟨hl,h2⟩,hA⟩:=h
 rcases h2 with ⟨rfl,h0⟩ | ⟨g,cap,cur,rfl,hbg,hg,hnc,hcm,hcs,htk⟩
 · exact ⟨none,0,0,rfl,h0,Nat.le_refl _,.inl (List.eq_nil_of_length_eq_zero h0)⟩
 · refine ⟨_,_,_,rfl,rfl,hnc,.inr ⟨g,0,cur,rfl,hg,fun i hi=>?_⟩⟩
   have hx:∀ j,j<6->cur[0+6*i+j]?=((xs.drop (6*i)).take 6)[j]?:=fun j hj=>by
    have hlt : 6*i+j<l.length*6:=by omega
    rw [List.getElem?_take_of_lt hj,List.getElem?_drop, <- htk,List.getElem?_take_of_lt (show 6*i+j<l.length*kH.z from hlt)]
    simp
   obtain ⟨a,b,c,d,e,f,e1,h1,h2,h3⟩:=hA i hi
   have e2:(xs.drop (6*i)).take 6=[a,b,c,d,e,f]:=by
    have:=congrArg (fun v=>match v with | Value.agg x=>x.toList | _=>[]) e1
    exact (show (xs.drop (kH.z*i)).take kH.z=[a,b,c,d,e,f] by simpa using this)
   rw [e2] at hx
   exact ⟨a,b,c,d,e,f,hx 0 (by omega),hx 1 (by omega),hx 2 (by omega),hx 3 (by omega),hx 4 (by omega),hx 5 (by omega),⟨a,b,c,d,e,f,rfl,h1,h2,h3⟩⟩
theorem dM {x y:Int} (h1 : -9223372036854775808<=x) (h2:x<=9223372036854775807) (h3 : -9223372036854775808<=y) (h4:y<=9223372036854775807):Bp 1 (E4 x y):=by
 have h1':(1:Nat)<B^1:=by unfold B;decide
 exact ⟨⟨by show ((x:Rat)).num.natAbs<_;rw [Rat.num_intCast];exact b1int h1 h2,by show ((x:Rat)).den<_;rw [Rat.den_intCast];exact h1'⟩,⟨by show ((y:Rat)).num.natAbs<_;rw [Rat.num_intCast];exact b1int h3 h4,by show ((y:Rat)).den<_;rw [Rat.den_intCast];exact h1'⟩⟩
end Go.Proofs.YtninnifpgpjfhaaGreatDoor
namespace Go.Proofs.YtninnifpgpjfhaaGreatDoor.PM
def pX (p q:Pq):Rat:=p.1*q.2-p.2*q.1
end Go.Proofs.YtninnifpgpjfhaaGreatDoor.PM
namespace Go.Proofs.YtninnifpgpjfhaaGreatDoor
open Go.RowKit Mat Ex PM
def sZc (p:Prop) (z:Int):Sp := .of .one (fun v _=>v = .int .i64 z/\p) (fun v W e=>⟨fun _ => .int .i64 z,fun _=>rfl,e.1⟩) (fun _ _ _ _ h=>h)
def hg (l:List H3) (k:Nat):H3:=l.getD k ⟨0,0,1⟩
theorem hg_at {l:List H3} {k:Nat} (h:k<l.length):l[k]=hg l k:=by simp [hg,h]
theorem B6 {l:List H3} {k:Nat} (h:k<l.length):hg l k ∈ l:=by rw [<- hg_at h];exact List.getElem_mem h
theorem dK {P:Program} {ρ : Operand->Value} {o:Oper} {W:World} {x y:Operand} {v:Value} {l:List H3} (h:HrV W v l) (ho:o.op = .indexAddr 24 x y) (hx : ρ x=v) (k:Nat) (z:Int) (hz:z=k) (hk:k<l.length) (hy : ρ y = .int .i64 z) :
 ∃ u,(execOp ρ o).run Tryz.prog W = .ok (.value u) W/\HaV W u (hg l k) /\ ∀ q,fpP u q->fpS v q:=by
 rw [<- hg_at hk];subst hz;exact hr_at h ho hx k hk hy
theorem hr_lt {ρ : Operand->Value} {o:Oper} {t t':TypeId} {x y:Operand} {a b:Int} {n m:Nat} {W:World} (ho:o.op = .binOp .lss t x y t') (hx : ρ x = .int .i64 a) (hy : ρ y = .int .i64 b) (ha:a=n) (hb:b=m) :
 (execOp ρ o).run Tryz.prog W = .ok (.value (.bool (decide (n<m)))) W:=by
 have h:binOp .lss t (.int .i64 a) (.int .i64 b) = .pure (.bool (decide (a<b))):=rfl
 rw [B9 ho hx hy h,show decide (a<b)=decide (n<m) by subst ha hb;exact decide_eq_decide.2 (by omega)]
theorem C6 {v:Value} {n m:Nat} {b:Bool} (h:v = .bool (decide (n<m))) (h2:v = .bool b):decide (n<m)=b:=by rw [h] at h2;exact Value.bool.inj h2
theorem lss_told {P:Program} {ρ : Operand->Value} {o:Oper} {t t':TypeId} {x y:Operand} {a b:Int} {W:World} {c:Bool} (ho:o.op = .binOp .lss t x y t') (hx : ρ x = .int .i64 a) (hy : ρ y = .int .i64 b) (h:decide (a<b)=c) :
 (execOp ρ o).run P W = .ok (.value (.bool c)) W:=B9 ho hx hy (by rw [<- h];rfl)
def sBq (b:Bool):Sp:=sC (.bool b) rfl
theorem vB {v:Value} {a b:Bool} (h:v = .bool a) (h2:v = .bool b):a=b:=by rw [h] at h2;exact Value.bool.inj h2
end Go.Proofs.YtninnifpgpjfhaaGreatDoor
namespace Go.Proofs.YtninnifpgpjfhaaGreatDoor
open Go.RowKit Go.Shelf Mat Ex PM
attribute [local go_sem] Oper.semAt_some
section
variable {B:Nat} {X Y:World} {row:Option Nat}
def K7 (B:Nat) (X:World) (row:Option Nat):Prop:=∀ r,row=some r->B<=r /\ ∃ o:Obj,X.heap[r]?=some o/\o.isCells=false
theorem iD (B:Nat) (X:World):K7 B X none:=fun r e=>nomatch e
theorem B3 (hg:X.grownBy Y row) (hr:K7 B X row) {k:Nat} {cs:Array Value} {t:TypeId} {fr:Nat × Nat} (h:X.heap[k]?=some (.cells cs t fr)):Y.heap[k]?=some (.cells cs t fr):=by
 rw [hg.block k (Array.getElem?_eq_some_iff.1 h).1 (fun e=>?_)]; · exact h
 obtain ⟨_,o,ho,hc⟩:=hr k e.symm
 rw [h] at ho;cases ho;cases hc
theorem K6 (hg:X.grownBy Y row) (hr:K7 B X row):Keeps G9 X Y:=fun g arr ty fr hp hb=>B3 hg hr hb
theorem J4 {w:World} (hB:w.heap.size<=B) (hw:w.grownBy X none) (hg:X.grownBy Y row) (hr:K7 B X row):w.grownBy Y none:=
 ⟨hg.os.trans hw.os,hg.tape.trans hw.tape,hg.output.trans hw.output,Nat.le_trans hw.size hg.size,fun i hi _=>by
  rw [hg.block i (Nat.lt_of_lt_of_le hi hw.size) (fun e=>?_)]
  · exact hw.block i hi (by simp)
  · have:=(hr i e.symm).1;omega⟩
end
theorem PtV.shape {w:World} {v:Value} {p:Pq} (h:PtV w v p):∃ (s:Option Addr) (n:Nat) (x:Bool) (s':Option Addr) (n':Nat) (x':Bool) (t:Option Addr) (m:Nat) (y:Bool) (t':Option Addr) (m':Nat) (y':Bool),
 v = .agg #[.slice s n n,.bool x,.slice s' n' n',.bool x',.slice t m m,.bool y,.slice t' m' m',.bool y']:=by
 obtain ⟨a,b,c,d,e,f,g,i,rfl,h1,h2⟩:=h
 obtain ⟨s,xs,x,s',xs',x',q1,_⟩:=h1
 obtain ⟨t,ys,y,t',ys',y',q2,_⟩:=h2
 cases q1;cases q2
 exact ⟨_,_,_,_,_,_,_,_,_,_,_,_,rfl⟩
def sumQ (l:List Pq) (pre:List (Fin l.length)):Rat:=pre.foldl (fun s x=>s+pX (pt0 l x.val) (nxt l x.val)) 0
theorem kS {K:Nat} {l:List Pq} (hb:∀ p ∈ l,Bp K p) {i:Nat} (hi:i<l.length):Bp K (pt0 l i):=by
 have:pt0 l i=l[i]:=by unfold pt0;simp [hi]
 rw [this];exact hb _ (List.getElem_mem hi)
theorem nxt_b {K:Nat} {l:List Pq} (hb:∀ p ∈ l,Bp K p) {i:Nat} (hi:i<l.length):Bp K (nxt l i):=kS hb (Nat.mod_lt _ (by omega))
def ArI (w:World) (R0 T Bs:Nat) (v:Value) (l:List Pq) (pre:List (Fin l.length)) (W:World):Prop:=
 w.grownBy W none/\(∃ a b c d,W.heap[T]?=some (.cells #[a,b,c,d] 31 (0,0))/\RatV W (.agg #[a,b,c,d]) (sumQ l pre)) /\
 W.heap[R0]?=some (.cells #[.slice none 0 0,.bool false,.slice none 0 0,.bool false] 31 (0,0))/\W.heap[Bs]?=some (.cells #[v] 23 (0,0))
theorem ArI.soft {w:World} {R0 T Bs B:Nat} {v:Value} {l:List Pq} {pre:List (Fin l.length)} {X Y:World} {row:Option Nat} (hB:w.heap.size<=B) (h:ArI w R0 T Bs v l pre X) (hg:X.grownBy Y row) (hr:K7 B X row):ArI w R0 T Bs v l pre Y:=by
 obtain ⟨h1,⟨a,b,c,d,h2,h3⟩,h4,h5⟩:=h
 exact ⟨J4 hB h1 hg hr,⟨a,b,c,d,B3 hg hr h2,h3.keeps (K6 hg hr)⟩,B3 hg hr h4,B3 hg hr h5⟩
def PQs (W:World) (Bp:Nat) (cp cq:List Value) (p q:Pq):Prop:=W.heap[Bp]?=some (.cells cp.toArray 33 (0,0))/\W.heap[Bp+1]?=some (.cells cq.toArray 33 (0,0))/\PtV W (.agg cp.toArray) p/\PtV W (.agg cq.toArray) q
theorem PQs.soft {B Bp:Nat} {X Y:World} {row:Option Nat} {cp cq:List Value} {p q:Pq} (h:PQs X Bp cp cq p q) (hg:X.grownBy Y row) (hr:K7 B X row):PQs Y Bp cp cq p q:=
 ⟨B3 hg hr h.1,B3 hg hr h.2.1,h.2.2.1.keeps (K6 hg hr),h.2.2.2.keeps (K6 hg hr)⟩
end Go.Proofs.YtninnifpgpjfhaaGreatDoor
namespace Go.Proofs.YtninnifpgpjfhaaGreatDoor
open Go.RowKit Mat Ex PM
def J8 (t:TypeId):Bool:=t == 73
theorem Rdo.keepsU {W W':World} {sa:Option Addr} {xs:List Nat} (h:Rdo W sa xs) (k:Keeps J8 W W'):Rdo W' sa xs:=by
 rcases h with h | ⟨b,off,cs,e,h1,h2⟩
 · exact Or.inl h
 · exact Or.inr ⟨b,off,cs,e,k b cs _ _ rfl h1,h2⟩
theorem NatV.keepsU {W W':World} {v:Value} {n:Nat} (h:NatV W v n) (k:Keeps J8 W W'):NatV W' v n:=by
 obtain ⟨sa,xs,e,h1,h2⟩:=h
 exact ⟨sa,xs,e,⟨h1.rd.keepsU k,h1.nil,h1.top,h1.dig⟩,h2⟩
theorem IntV.keepsU {W W':World} {v:Value} {z:Int} (h:IntV W v z) (k:Keeps J8 W W'):IntV W' v z:=by
 obtain ⟨sa,xs,b,e,h1,h2⟩:=h
 exact ⟨sa,xs,b,e,⟨h1.rd.keepsU k,h1.nil,h1.top,h1.dig⟩,h2⟩
theorem RatV.keepsU {W W':World} {v:Value} {r:Rat} (h:RatV W v r) (k:Keeps J8 W W'):RatV W' v r:=by
 obtain ⟨s,xs,b,s',xs',b',e,h1,h2⟩:=h
 exact ⟨s,xs,b,s',xs',b',e,h1.keepsU k,h2.keepsU k⟩
theorem PtV.keepsU {W W':World} {v:Value} {p:Pq} (h:PtV W v p) (k:Keeps J8 W W'):PtV W' v p:=by
 obtain ⟨a,b,c,d,e,f,g,i,e1,h1,h2⟩:=h
 exact ⟨a,b,c,d,e,f,g,i,e1,h1.keepsU k,h2.keepsU k⟩
theorem SgV.keepsU {W W':World} {v:Value} {p q:Pq} (h:SgV W v p q) (k:Keeps J8 W W'):SgV W' v p q:=by
 obtain ⟨a,b,c,d,e,f,g,i,a',b',c',d',e',f',g',i',e1,h1,h2⟩:=h
 exact ⟨a,b,c,d,e,f,g,i,a',b',c',d',e',f',g',i',e1,h1.keepsU k,h2.keepsU k⟩
abbrev Su:=Ex.Spec J8
def Sp.u (s:Sp) (h:∀ v W W',Keeps J8 W W'->s.F v W->s.F v W'):Su := .of s.sh s.F s.fits h
def uPt (p:Pq):Su:=Sp.u (sPt p) fun _ _ _ k h=>h.keepsU k
def uZ (z:Int):Su:=Sp.u (sZ z) fun _ _ _ _ h=>h
theorem S6 {P:Program} {ρ : Operand->Value} {o:Oper} {t t':TypeId} {x y:Operand} {a:Int} {W:World} (b:Bool) (ho:o.op = .binOp .leq t x y t') (hx : ρ x = .int .i64 a) (hy : ρ y = .int .i64 0) (h:decide (a<=0)=b):(execOp ρ o).run P W = .ok (.value (.bool b)) W:=
 B9 ho hx hy (by rw [<- h];rfl)
theorem pass_up {i k:Int} (h:i<=0) (h' : 0<k):pass i k=1:=by unfold pass;rw [if_pos ⟨h,h'⟩]
theorem pass_down {i k:Int} (h:¬ i<=0) (h':k<=0):pass i k = -1:=by unfold pass;rw [if_neg (fun z=>h z.1),if_pos ⟨by omega,h'⟩]
theorem pass_no1 {i k:Int} (h:i<=0) (h':¬ 0<k):pass i k=0:=by unfold pass;rw [if_neg (fun z=>h' z.2),if_neg (fun z=>by omega)]
theorem pass_no2 {i k:Int} (h:¬ i<=0) (h':¬ k<=0):pass i k=0:=by unfold pass;rw [if_neg (fun z=>h z.1),if_neg (fun z=>h' z.2)]
theorem lR (w:World) (i k:Int) :
 Calls Tryz.prog 94 #[.int .i64 i,.int .i64 k] w (fun e w'=>e = .returned (.int .i64 (pass i k))/\w.grownBy w' none):=by
 rcases (show (i<=0/\0<k)\/(i<=0 /\ ¬ 0<k)\/(¬ i<=0/\k<=0)\/(¬ i<=0 /\ ¬ k<=0) by omega) with ⟨h1,h2⟩ | ⟨h1,h2⟩ | ⟨h1,h2⟩ | ⟨h1,h2⟩
 · skip
   rw [pass_up h1 h2]
   refine A5 B1 Tryz.func94 [sZ i,sZ k] [sV (.bool true),sV (.bool true)] (.cons rfl (.cons rfl .nil)) (rs:=[co 2 (.binOp .leq 3 (.tmp 6) (.const (.int .i64 0)) 3) 4 [on 0,.v false [.lit (.int .i64 0)]] [0,1] [],co 3 (.binOp .gtr 3 (.tmp 9) (.const (.int .i64 0)) 3) 4 [on 1,.v false [.lit (.int .i64 0)]] [0,1,2] []]) (out := .v false [.lit (.int .i64 1)]) (nc:=4) (by kernel_rfl)
    ⟨fun σ W g h hb=>fun ρ o ho _ hv=>⟨_,S6 true ho ((A0 hv).1.trans (h 0 rfl)) (A0 hv).2 (decide_eq_true h1),rfl⟩,
    fun σ W g h hb=>fun ρ o ho _ hv=>⟨_,O8 true ho ((A0 hv).1.trans (h 1 rfl)) (A0 hv).2 (decide_eq_true h2),rfl⟩,
    trivial⟩ fun τ W g h=>⟨rfl,g⟩
 · skip
   rw [pass_no1 h1 h2]
   refine A5 B1 Tryz.func94 [sZ i,sZ k] [sV (.bool true),sV (.bool false),sV (.bool false)] (.cons rfl (.cons rfl .nil)) (rs:=[co 2 (.binOp .leq 3 (.tmp 6) (.const (.int .i64 0)) 3) 4 [on 0,.v false [.lit (.int .i64 0)]] [0,1] [],co 3 (.binOp .gtr 3 (.tmp 9) (.const (.int .i64 0)) 3) 4 [on 1,.v false [.lit (.int .i64 0)]] [0,1,2] [],co 4 (.binOp .gtr 3 (.tmp 13) (.const (.int .i64 0)) 3) 4 [on 0,.v false [.lit (.int .i64 0)]] [0,1,2,3] []]) (out := .v false [.lit (.int .i64 0)]) (nc:=5) (by kernel_rfl)
    ⟨fun σ W g h hb=>fun ρ o ho _ hv=>⟨_,S6 true ho ((A0 hv).1.trans (h 0 rfl)) (A0 hv).2 (decide_eq_true h1),rfl⟩,
    fun σ W g h hb=>fun ρ o ho _ hv=>⟨_,O8 false ho ((A0 hv).1.trans (h 1 rfl)) (A0 hv).2 (decide_eq_false h2),rfl⟩,
    fun σ W g h hb=>fun ρ o ho _ hv=>⟨_,O8 false ho ((A0 hv).1.trans (h 0 rfl)) (A0 hv).2 (decide_eq_false (by omega)),rfl⟩,
    trivial⟩ fun τ W g h=>⟨rfl,g⟩
 · skip
   rw [pass_down h1 h2]
   refine A5 B1 Tryz.func94 [sZ i,sZ k] [sV (.bool false),sV (.bool true),sV (.bool true)] (.cons rfl (.cons rfl .nil)) (rs:=[co 2 (.binOp .leq 3 (.tmp 6) (.const (.int .i64 0)) 3) 4 [on 0,.v false [.lit (.int .i64 0)]] [0,1] [],co 3 (.binOp .gtr 3 (.tmp 13) (.const (.int .i64 0)) 3) 4 [on 0,.v false [.lit (.int .i64 0)]] [0,1,2] [],co 4 (.binOp .leq 3 (.tmp 16) (.const (.int .i64 0)) 3) 4 [on 1,.v false [.lit (.int .i64 0)]] [0,1,2,3] []]) (out := .v false [.lit (.int .i64 (-1))]) (nc:=5) (by kernel_rfl)
    ⟨fun σ W g h hb=>fun ρ o ho _ hv=>⟨_,S6 false ho ((A0 hv).1.trans (h 0 rfl)) (A0 hv).2 (decide_eq_false h1),rfl⟩,
    fun σ W g h hb=>fun ρ o ho _ hv=>⟨_,O8 true ho ((A0 hv).1.trans (h 0 rfl)) (A0 hv).2 (decide_eq_true (by omega)),rfl⟩,
    fun σ W g h hb=>fun ρ o ho _ hv=>⟨_,S6 true ho ((A0 hv).1.trans (h 1 rfl)) (A0 hv).2 (decide_eq_true h2),rfl⟩,
    trivial⟩ fun τ W g h=>⟨rfl,g⟩
 · skip
   rw [pass_no2 h1 h2]
   refine A5 B1 Tryz.func94 [sZ i,sZ k] [sV (.bool false),sV (.bool true),sV (.bool false)] (.cons rfl (.cons rfl .nil)) (rs:=[co 2 (.binOp .leq 3 (.tmp 6) (.const (.int .i64 0)) 3) 4 [on 0,.v false [.lit (.int .i64 0)]] [0,1] [],co 3 (.binOp .gtr 3 (.tmp 13) (.const (.int .i64 0)) 3) 4 [on 0,.v false [.lit (.int .i64 0)]] [0,1,2] [],co 4 (.binOp .leq 3 (.tmp 16) (.const (.int .i64 0)) 3) 4 [on 1,.v false [.lit (.int .i64 0)]] [0,1,2,3] []]) (out := .v false [.lit (.int .i64 0)]) (nc:=5) (by kernel_rfl)
    ⟨fun σ W g h hb=>fun ρ o ho _ hv=>⟨_,S6 false ho ((A0 hv).1.trans (h 0 rfl)) (A0 hv).2 (decide_eq_false h1),rfl⟩,
    fun σ W g h hb=>fun ρ o ho _ hv=>⟨_,O8 true ho ((A0 hv).1.trans (h 0 rfl)) (A0 hv).2 (decide_eq_true (by omega)),rfl⟩,
    fun σ W g h hb=>fun ρ o ho _ hv=>⟨_,S6 false ho ((A0 hv).1.trans (h 1 rfl)) (A0 hv).2 (decide_eq_false h2),rfl⟩,
    trivial⟩ fun τ W g h=>⟨rfl,g⟩
theorem X7 (w:World) (va:Value) (q:Nat) (u0 u1 u2 u3 u4 u5 u6 u7:Value) (p m:Pq) (K:Nat) (Ha:PtV w va p) (Bq:w.heap[q]?=some (.cells #[u0,u1,u2,u3,u4,u5,u6,u7] 33 (0,0))) (Hm:PtV w (.agg #[u0,u1,u2,u3,u4,u5,u6,u7]) m) (hK:K<=100000) (bp:Bp K p) (bm:Bp K m) :
 Calls Tryz.prog 95 #[va,.pointer (some ⟨q,0,none⟩)] w (fun e w'=>e = .returned (.int .i64 (lvl m p))/\w.grownBy w' none):=by
 obtain ⟨p0,p1,p2,p3,p4,p5,p6,p7,rfl,h1,h2⟩:=Ha
 have Ha:PtV w (.agg #[p0,p1,p2,p3,p4,p5,p6,p7]) p:=mkpt h1 h2
 exact I0 B1 Tryz.func95 [sPt p,sPt m,sZ (lvl m p)] 2 [ag 8 0,.v false [.ptr 0 0]] [(33,[.an 1 0,.an 1 1,.an 1 2,.an 1 3,.an 1 4,.an 1 5,.an 1 6,.an 1 7])] (rs:=[cl 2 96 [.v true [.an 0 4,.an 0 5,.an 0 6,.an 0 7],.v true [.an 1 4,.an 1 5,.an 1 6,.an 1 7]]]) (out:=on 2) (nc:=3) (by kernel_rfl) w
  ⟨fun n=>match n with | 0=>D6 [p0,p1,p2,p3,p4,p5,p6,p7] | 1=>D6 [u0,u1,u2,u3,u4,u5,u6,u7] | _=>fun _ => .bool false,fun b=>match b with | 0=>q | _=>0,fun _=>undef⟩
  (fun n c=>match n with
   | 0=>A9 (Ha.one) c
   | 1=>A9 (Hm.one) c
   | _+2=>rfl)
  (fun b q hq=>match b,q,hq with
   | 0,_,rfl=>Bq
   | _+1,_,hq=>nomatch hq)
  (fun b c hb hc hq=>match b,c,hb,hc with
   | 0,0,_,_=>rfl
   | _+1,_,hb,_=>absurd hb (by simp)
   | _,_+1,_,hc=>absurd hc (by simp))
  (fun jn hn=>match jn,hn with
   | 0,_=>Ha
   | 1,_=>Hm
   | _+2,hn=>absurd hn (by omega))
  ⟨fun σ W g h hb=>toZ (T7 W _ _ p.2 m.2 K (pt2 (h 0 rfl)) (pt2 (h 1 rfl)) (by omega) bp.2.1 bp.2.2 bm.2.1 bm.2.2) rfl,
  trivial⟩ _ fun τ W g h=>⟨congrArg Ending.returned (h 2 rfl),g⟩
theorem R8 (w:World) (va:Value) (q:Nat) (u0 u1 u2 u3 u4 u5 u6 u7:Value) (p m:Pq) (K:Nat) (Ha:PtV w va p) (Bq:w.heap[q]?=some (.cells #[u0,u1,u2,u3,u4,u5,u6,u7] 33 (0,0))) (Hm:PtV w (.agg #[u0,u1,u2,u3,u4,u5,u6,u7]) m) (hK:K<=100000) (bp:Bp K p) (bm:Bp K m) :
 Calls Tryz.prog 128 #[va,.pointer (some ⟨q,0,none⟩)] w (fun e w'=>e = .returned (.int .i64 (upr m p))/\w.grownBy w' none):=by
 obtain ⟨p0,p1,p2,p3,p4,p5,p6,p7,rfl,h1,h2⟩:=Ha
 have Ha:PtV w (.agg #[p0,p1,p2,p3,p4,p5,p6,p7]) p:=mkpt h1 h2
 exact I0 B1 Tryz.func128 [sPt p,sPt m,sZ (upr m p)] 2 [ag 8 0,.v false [.ptr 0 0]] [(33,[.an 1 0,.an 1 1,.an 1 2,.an 1 3,.an 1 4,.an 1 5,.an 1 6,.an 1 7])] (rs:=[cl 2 96 [ag 4 1,ag 4 0]]) (out:=on 2) (nc:=3) (by kernel_rfl) w
  ⟨fun n=>match n with | 0=>D6 [p0,p1,p2,p3,p4,p5,p6,p7] | 1=>D6 [u0,u1,u2,u3,u4,u5,u6,u7] | _=>fun _ => .bool false,fun b=>match b with | 0=>q | _=>0,fun _=>undef⟩
  (fun n c=>match n with
   | 0=>A9 (Ha.one) c
   | 1=>A9 (Hm.one) c
   | _+2=>rfl)
  (fun b q hq=>match b,q,hq with
   | 0,_,rfl=>Bq
   | _+1,_,hq=>nomatch hq)
  (fun b c hb hc hq=>match b,c,hb,hc with
   | 0,0,_,_=>rfl
   | _+1,_,hb,_=>absurd hb (by simp)
   | _,_+1,_,hc=>absurd hc (by simp))
  (fun jn hn=>match jn,hn with
   | 0,_=>Ha
   | 1,_=>Hm
   | _+2,hn=>absurd hn (by omega))
  ⟨fun σ W g h hb=>toZ (T7 W _ _ m.1 p.1 K (pt1 (h 1 rfl)) (pt1 (h 0 rfl)) (by omega) bm.1.1 bm.1.2 bp.1.1 bp.1.2) rfl,
  trivial⟩ _ fun τ W g h=>⟨congrArg Ending.returned (h 2 rfl),g⟩
def Y2 (f:Nat) (w:World) (m:Pq) (e:Ending) (w':World):Prop:=∃ (q:Nat) (u0 u1 u2 u3 u4 u5 u6 u7:Value),e = .returned (.func (.func f) #[] #[.pointer (some ⟨q,0,none⟩)])/\w'.heap[q]?=some (.cells #[u0,u1,u2,u3,u4,u5,u6,u7] 33 (0,0))/\PtV w' (.agg #[u0,u1,u2,u3,u4,u5,u6,u7]) m/\w.heap.size<=q/\w.grownBy w' none
theorem jG (w:World) (va:Value) (m:Pq) (Ha:PtV w va m) :
 Calls Tryz.prog 52 #[va] w (Y2 95 w m):=by
 refine eH B1 Tryz.func52 [sPt m] [] (.cons Ha .nil) (rs:=[]) (out := .fn 95 [.ptr 0 0]) (nc:=1) (nd:=[(0,33,[.an 0 0,.an 0 1,.an 0 2,.an 0 3,.an 0 4,.an 0 5,.an 0 6,.an 0 7])]) (own:=[0]) (by kernel_rfl)
  trivial fun τ W g h hb ho=>⟨_,_,_,_,_,_,_,_,_,rfl,hb.1 _ (.head _),h 0 rfl,ho _ rfl,g⟩
theorem nF (w:World) (va:Value) (m:Pq) (Ha:PtV w va m) :
 Calls Tryz.prog 98 #[va] w (Y2 128 w m):=by
 refine eH B1 Tryz.func98 [sPt m] [] (.cons Ha .nil) (rs:=[]) (out := .fn 128 [.ptr 0 0]) (nc:=1) (nd:=[(0,33,[.an 0 0,.an 0 1,.an 0 2,.an 0 3,.an 0 4,.an 0 5,.an 0 6,.an 0 7])]) (own:=[0]) (by kernel_rfl)
  trivial fun τ W g h hb ho=>⟨_,_,_,_,_,_,_,_,_,rfl,hb.1 _ (.head _),h 0 rfl,ho _ rfl,g⟩
end Go.Proofs.YtninnifpgpjfhaaGreatDoor
namespace Go.Proofs.YtninnifpgpjfhaaGreatDoor.PM
def dcr (e m x:Pq):Rat:=e.1*(x.2-m.2)-e.2*(x.1-m.1)
def ld (e m x:Pq):Int:=rsg (dcr e m x)
theorem lvl_ld (m:Pq):lvl m=ld (1,0) m:=funext fun x=>by unfold lvl ld dcr;rw [G8];congr 1;grind
theorem upr_ld (m:Pq):upr m=ld (0,1) m:=funext fun x=>by unfold upr ld dcr;rw [G8];congr 1;grind
def B7 (a b:Pq):Pq:=((a.1+b.1)*(1 / 2),(a.2+b.2)*(1 / 2))
def nrm (a b:Pq):Pq:=(a.2-b.2,b.1-a.1)
def pos (i:Int):Int:=if 0<i then 1 else 0
theorem unit_mul {x d t:Rat} (hd : 0<d) (h:t*d=x) (h0 : 0<=x) (h1:x<=d) : 0<=t/\t<=1:=by
 constructor
 · rcases (show t<0\/0<=t by grind) with h2 | h2
   · have:=Rat.mul_pos (show 0 < -t by grind) hd;grind
   · exact h2
 · rcases (show 1<t\/t<=1 by grind) with h2 | h2
   · have:=Rat.mul_pos (show 0<t-1 by grind) hd;grind
   · exact h2
theorem ins_pass {e m a b:Pq} (h:pass (ld e m a) (ld e m b)≠0) (hc:B5 a b m=0):InS a b m:=by
 have hd:dcr e m a≠dcr e m b:=fun h1=>h (by unfold ld;rw [h1];unfold pass;split<;>(try split)<;>omega)
 have h1:(dcr e m a<=0/\0<dcr e m b)\/(0<dcr e m a/\dcr e m b<=0):=by
  unfold pass ld at h
  rcases dB (dcr e m a) with k1 | k1 | k1<;>rcases dB (dcr e m b) with k2 | k2 | k2<;>simp [k1,k2] at h
  · exact .inl ⟨Rat.le_of_lt (rsg_nz.1 k1),rsg_pos.1 k2⟩
  · exact .inl ⟨by have:=rsg_zero.1 k1;grind,rsg_pos.1 k2⟩
  · exact .inr ⟨rsg_pos.1 k1,Rat.le_of_lt (rsg_nz.1 k2)⟩
  · exact .inr ⟨rsg_pos.1 k1,by have:=rsg_zero.1 k2;grind⟩
 have hs : 0<=dcr e m a / (dcr e m a-dcr e m b)/\dcr e m a / (dcr e m a-dcr e m b)<=1:=by
  have hq:dcr e m a / (dcr e m a-dcr e m b)*(dcr e m a-dcr e m b)=dcr e m a:=by grind
  rcases h1 with ⟨h1,h2⟩ | ⟨h1,h2⟩
  · exact unit_mul (d:=dcr e m b-dcr e m a) (x := - dcr e m a) (by grind) (by grind) (by grind) (by grind)
  · exact unit_mul (d:=dcr e m a-dcr e m b) (x:=dcr e m a) (by grind) hq (by grind) (by grind)
 refine ⟨_,hs.1,hs.2, ?_⟩
 have hq:dcr e m a / (dcr e m a-dcr e m b)*(dcr e m a-dcr e m b)=dcr e m a:=by grind
 generalize dcr e m a / (dcr e m a-dcr e m b)=t at *
 obtain ⟨a1,a2⟩:=a;obtain ⟨b1,b2⟩:=b;obtain ⟨m1,m2⟩:=m;obtain ⟨e1,e2⟩:=e
 simp only [B5,dcr,pat] at *
 have hz:(e1*(b2-a2)-e2*(b1-a1))≠0:=by grind
 have k1:(e1*(b2-a2)-e2*(b1-a1))*(m1-(a1+(b1-a1)*t))=0:=by grind
 have k2:(e1*(b2-a2)-e2*(b1-a1))*(m2-(a2+(b2-a2)*t))=0:=by grind
 have k3:m1-(a1+(b1-a1)*t)=0:=by rcases Rat.mul_eq_zero.1 k1 with h | h;exact absurd h hz;exact h
 have k4:m2-(a2+(b2-a2)*t)=0:=by rcases Rat.mul_eq_zero.1 k2 with h | h;exact absurd h hz;exact h
 exact Prod.ext (by dsimp only;grind) (by dsimp only;grind)
theorem thr_off {e m a b:Pq} (h:¬ InS a b m):thr (ld e m) m a b=0:=by
 unfold thr
 split
 · rename_i hc
   exact Classical.byContradiction fun h1=>h (ins_pass h1 (rsg_zero.1 hc))
 · rfl
theorem along_at {a b t:Pq} (h:a≠b) (hc:B5 a b t=0):∃ k,t=pat (B7 a b) b k:=by
 obtain ⟨k,rfl⟩:=col_at h hc
 refine ⟨2*k-1, ?_⟩
 unfold pat B7;exact Prod.ext (by dsimp only;grind) (by dsimp only;grind)
theorem lM (e a b:Pq) (k:Rat):dcr e (B7 a b) (pat (B7 a b) b k)=k*dcr e (B7 a b) b:=by
 unfold dcr pat B7;dsimp only;grind
theorem pcmp_along {a b:Pq} (h:a≠b) {i k:Rat} : F0 (pat (B7 a b) b i) (pat (B7 a b) b k)=rsg (k-i)*F0 a b:=by
 obtain ⟨a1,a2⟩:=a;obtain ⟨b1,b2⟩:=b
 unfold F0 pat B7
 simp only [G8]
 have e1:(a1+b1)*(1 / 2)+(b1-(a1+b1)*(1 / 2))*i-((a1+b1)*(1 / 2)+(b1-(a1+b1)*(1 / 2))*k)=(1 / 2)*((k-i)*(a1-b1)):=by grind
 have e2:(a2+b2)*(1 / 2)+(b2-(a2+b2)*(1 / 2))*i-((a2+b2)*(1 / 2)+(b2-(a2+b2)*(1 / 2))*k)=(1 / 2)*((k-i)*(a2-b2)):=by grind
 have h2:rsg (1 / 2:Rat)=1:=rsg_pos.2 (by grind)
 rw [e1,e2,Z2,Z2,Z2,Z2,h2]
 rcases dB (k-i) with h3 | h3 | h3<;>rw [h3]<;>simp<;>split<;>(try split)<;>(try omega)<;>simp_all
theorem thr_along {e a b t u:Pq} (hab:a≠b) (he:ld e (B7 a b) b≠0) (ht:B5 a b t=0) (hu:B5 a b u=0) (hin:InS t u (B7 a b)) (h1:t≠B7 a b) (h2:u≠B7 a b) :
 thr (ld e (B7 a b)) (B7 a b) t u=(if F0 t u=F0 a b then 1 else -1)*ld e (B7 a b) b:=by
 obtain ⟨i,rfl⟩:=along_at hab ht
 obtain ⟨k,rfl⟩:=along_at hab hu
 have hc:B5 (pat (B7 a b) b i) (pat (B7 a b) b k) (B7 a b)=0:=(ins_doc.1 hin).1
 have hp0:F0 a b≠0:=fun h=>hab (pcmp_zero.1 h)
 obtain ⟨s,s0,s1,hs⟩:=hin
 have hsk:i+(k-i)*s=0:=by
  have hb:B7 a b≠b:=by
   obtain ⟨a1,a2⟩:=a;obtain ⟨b1,b2⟩:=b
   intro h
   unfold B7 at h;simp only [Prod.mk.injEq] at h
   exact hab (Prod.ext (by dsimp only;grind) (by dsimp only;grind))
  generalize B7 a b=m at *
  obtain ⟨m1,m2⟩:=m;obtain ⟨b1,b2⟩:=b
  unfold pat at hs
  simp only [Prod.mk.injEq] at hs
  have k1:(b1-m1)*(i+(k-i)*s)=0:=by grind
  have k2:(b2-m2)*(i+(k-i)*s)=0:=by grind
  rcases Rat.mul_eq_zero.1 k1 with h3 | h3
  · rcases Rat.mul_eq_zero.1 k2 with h4 | h4
    · exact absurd (Prod.ext (by dsimp only;grind) (by dsimp only;grind)) hb
    · exact h4
  · exact h3
 have hi0:i≠0:=by rintro rfl;exact h1 (fB _ _)
 have hk0:k≠0:=by rintro rfl;exact h2 (fB _ _)
 unfold thr
 rw [if_pos (rsg_zero.2 hc),pcmp_along hab]
 unfold ld at he ⊢
 rw [lM,lM,Z2,Z2]
 have hik:(i<0/\0<k)\/(0<i/\k<0):=by
  rcases (show i<0\/0<i by grind) with h3 | h3
  · left;refine ⟨h3, ?_⟩
    rcases (show 0<k\/k<0 by grind) with h4 | h4
    · exact h4
    · have e1:=Rat.mul_nonneg (show 0 <= -i by grind) (show 0<=1-s by grind)
      have e2:=Rat.mul_nonneg (show 0 <= -k by grind) s0
      have h5:(-i)*(1-s)=0:=by grind
      have h6:(-k)*s=0:=by grind
      rcases Rat.mul_eq_zero.1 h5 with h7 | h7
      · grind
      · rcases Rat.mul_eq_zero.1 h6 with h8 | h8<;>grind
  · right;refine ⟨h3, ?_⟩
    rcases (show 0<k\/k<0 by grind) with h4 | h4
    · have e1:=Rat.mul_nonneg (show 0<=i by grind) (show 0<=1-s by grind)
      have e2:=Rat.mul_nonneg (show 0<=k by grind) s0
      have h5:i*(1-s)=0:=by grind
      have h6:k*s=0:=by grind
      rcases Rat.mul_eq_zero.1 h5 with h7 | h7
      · grind
      · rcases Rat.mul_eq_zero.1 h6 with h8 | h8<;>grind
    · exact h4
 have hor:=dB (dcr e (B7 a b) b)
 have hpo:=pcmp_or a b
 rcases hik with ⟨h3,h4⟩ | ⟨h3,h4⟩
 · rw [rsg_nz.2 h3,rsg_pos.2 h4,rsg_pos.2 (show 0<k-i by grind)]
   rcases hor with h5 | h5 | h5<;>simp [h5] at he ⊢ <;> simp [pass]
 · rw [rsg_pos.2 h3,rsg_nz.2 h4,rsg_nz.2 (show k-i<0 by grind)]
   have:¬ (-1*F0 a b=F0 a b):=by omega
   rw [if_neg this]
   rcases hor with h5 | h5 | h5<;>simp [h5] at he ⊢ <;> simp [pass]
end Go.Proofs.YtninnifpgpjfhaaGreatDoor.PM
namespace Go.Proofs.YtninnifpgpjfhaaGreatDoor
open Go.RowKit Mat Ex PM
def fpF (v:Value) (q:Nat):Prop:=∃ f,v = .func (.func f) #[] #[.pointer (some ⟨q,0,none⟩)]
def RayV (f:Nat) (W:World) (v:Value) (m:Pq):Prop:=∃ (q:Nat) (u0 u1 u2 u3 u4 u5 u6 u7:Value),v = .func (.func f) #[] #[.pointer (some ⟨q,0,none⟩)]/\W.heap[q]?=some (.cells #[u0,u1,u2,u3,u4,u5,u6,u7] 33 (0,0))/\PtV W (.agg #[u0,u1,u2,u3,u4,u5,u6,u7]) m
theorem RayV.keeps {f:Nat} {W W':World} {v:Value} {m:Pq} (h:RayV f W v m) (k:Keeps G9 W W') (hq:∀ q,fpF v q->W'.heap[q]?=W.heap[q]?):RayV f W' v m:=by
 obtain ⟨q,u0,u1,u2,u3,u4,u5,u6,u7,rfl,h1,h2⟩:=h
 exact ⟨q,u0,u1,u2,u3,u4,u5,u6,u7,rfl,(hq q ⟨f,rfl⟩).trans h1,h2.keeps k⟩
theorem RayV.inb {f:Nat} {W:World} {v:Value} {m:Pq} (h:RayV f W v m) (q:Nat) (hq:fpF v q):q<W.heap.size:=by
 obtain ⟨q',u0,u1,u2,u3,u4,u5,u6,u7,rfl,h1,h2⟩:=h
 obtain ⟨f',e⟩:=hq
 cases e;exact (Array.getElem?_eq_some_iff.1 h1).1
def sRay (f s0:Nat) (m:Pq):Sp where
 sh := .one
 F v W:=RayV f W v m /\ ∀ q,fpF v q->s0<=q
 fits v W h:=by obtain ⟨⟨q,u0,u1,u2,u3,u4,u5,u6,u7,rfl,_⟩,_⟩:=h;exact ⟨fun _ => .func (.func f) #[] #[.pointer (some ⟨q,0,none⟩)],fun _=>rfl,rfl⟩
 row:=true
 fp v _ q:=fpF v q
 lasts v W W' k hq h:=⟨⟨h.1.keeps k hq,h.2⟩,fun _ h=>h⟩
 inb v W h q hq:=h.1.inb q hq
 flat h:=by cases h
theorem toRay {P:Program} {f:FuncId} {n:Nat} {args:Array Value} {W:World} {m:Pq} {old:Nat->Prop} {s0:Nat} (hs:s0<=W.heap.size) (h:Calls P f args W (Y2 n W m)):Calls P f args W (RetS W (sRay n s0 m) old):=
 h.mono fun _ _ ⟨q,u0,u1,u2,u3,u4,u5,u6,u7,a,h1,h2,h3,g⟩=>⟨_,a,⟨⟨q,u0,u1,u2,u3,u4,u5,u6,u7,rfl,h1,h2⟩,fun q' hq=>by obtain ⟨f',e⟩:=hq;cases e;omega⟩,g,fun q' hq => .inl (by obtain ⟨f',e⟩:=hq;cases e;exact h3)⟩
theorem ray_ret {n:Nat} {w W:World} {v:Value} {m:Pq} (h:RayV n W v m /\ ∀ q,fpF v q->w.heap.size<=q) (g:w.grownBy W none):Y2 n w m (.returned v) W:=by
 obtain ⟨⟨q,u0,u1,u2,u3,u4,u5,u6,u7,rfl,h1,h2⟩,h3⟩:=h
 exact ⟨q,u0,u1,u2,u3,u4,u5,u6,u7,rfl,h1,h2,h3 q ⟨n,rfl⟩,g⟩
theorem half_is:Rat.divInt 1 2=(1 / 2:Rat):=by decide +kernel
theorem half_b:Bn 1 (1 / 2:Rat):=half_is ▸ ⟨mE (b1int (by omega) (by omega)),mF (b1int (by omega) (by omega)) (by omega)⟩
theorem Bp.mid {K:Nat} {a b:Pq} (ha:Bp K a) (hb:Bp K b) (hK : 1<=K):Bp (4*K+2) (B7 a b):=
 ⟨(((ha.1.add hb.1).mono (M:=2*K+1) (by omega)).mul (half_b.mono (by omega))).mono (by omega),(((ha.2.add hb.2).mono (M:=2*K+1) (by omega)).mul (half_b.mono (by omega))).mono (by omega)⟩
theorem eK (w:World) (va:Value) (a b:Pq) (K:Nat) (Ha:SgV w va a b) (hK : 1<=K/\K<=10000) (ba:Bp K a) (bb:Bp K b) (hTab:Tab w) :
 Calls Tryz.prog 56 #[va] w (RetPt w (B7 a b)):=by
 have s1:Bn (2*K+1) (a.1+b.1):=(ba.1.add bb.1).mono (by omega)
 have s2:Bn (2*K+1) (a.2+b.2):=(ba.2.add bb.2).mono (by omega)
 have hh:Bn (2*K+1) (1 / 2:Rat):=half_b.mono (by omega)
 refine A5 B1 Tryz.func56 [sSg a b] [sQE (1 / 2:Rat) 0,sQ (a.1+b.1),sQ ((a.1+b.1)*(1 / 2)),sQ (a.2+b.2),sQ ((a.2+b.2)*(1 / 2))] (.cons Ha .nil) (rs:=[cl 1 26 [.v false [.lit (.int .i64 1)],.v false [.lit (.int .i64 2)]],cl 2 34 [ag 4 0,.v true [.an 0 8,.an 0 9,.an 0 10,.an 0 11]],cl 3 78 [ag 4 2,ag 4 1],cl 4 34 [.v true [.an 0 4,.an 0 5,.an 0 6,.an 0 7],.v true [.an 0 12,.an 0 13,.an 0 14,.an 0 15]],cl 5 78 [ag 4 4,ag 4 1]]) (out := .v true [.an 3 0,.an 3 1,.an 3 2,.an 3 3,.an 5 0,.an 5 1,.an 5 2,.an 5 3]) (nc:=6) (by kernel_rfl)
  ⟨fun σ W g h hb=>half_is ▸ toQE (FOf_any W 1 2 (by omega) (by omega) (by omega) (by omega) (hTab.kept g (by simp))) (by decide),
  fun σ W g h hb=>FAdd_any W _ _ a.1 b.1 K (pt1 (sg1 (h 0 rfl))) (pt1 (sg2 (h 0 rfl))) (by omega) ba.1.1 ba.1.2 bb.1.1 bb.1.2 (hTab.kept g (by simp)),
  fun σ W g h hb=>cU W _ _ (a.1+b.1) (1 / 2) (2*K+1) (h 2 rfl) (qE (h 1 rfl)) (by omega) s1.1 s1.2 hh.1 hh.2 (hTab.kept g (by simp)),
  fun σ W g h hb=>FAdd_any W _ _ a.2 b.2 K (pt2 (sg1 (h 0 rfl))) (pt2 (sg2 (h 0 rfl))) (by omega) ba.2.1 ba.2.2 bb.2.1 bb.2.2 (hTab.kept g (by simp)),
  fun σ W g h hb=>cU W _ _ (a.2+b.2) (1 / 2) (2*K+1) (h 4 rfl) (qE (h 1 rfl)) (by omega) s2.1 s2.2 hh.1 hh.2 (hTab.kept g (by simp)),
  trivial⟩ fun τ W g h=>⟨_,rfl,mkpt (h 3 rfl) (h 5 rfl),g⟩
theorem nG (w:World) (va vb:Value) (a b m:Pq) (K:Nat) (Ha:SgV w va a b) (Hm:PtV w vb m) (hK:K<=10000) (ba:Bp K a) (bb:Bp K b) (h1:G3 a.2 b.2=0) :
 Calls Tryz.prog 57 #[va,vb] w (Y2 128 w m):=by
 refine A5 B1 Tryz.func57 [sSg a b,sPt m] [sZ (G3 a.2 b.2),sV (.bool true),sRay 128 w.heap.size m] (.cons Ha (.cons Hm .nil)) (rs:=[cl 2 96 [.v true [.an 0 4,.an 0 5,.an 0 6,.an 0 7],.v true [.an 0 12,.an 0 13,.an 0 14,.an 0 15]],co 3 (.binOp .eql 3 (.tmp 11) (.const (.int .i64 0)) 3) 4 [on 2,.v false [.lit (.int .i64 0)]] [0,1,2] [],cl 4 98 [ag 8 1]]) (out:=on 4) (nc:=5) (by kernel_rfl)
  ⟨fun σ W g h hb=>toZ (T7 W _ _ a.2 b.2 K (pt2 (sg1 (h 0 rfl))) (pt2 (sg2 (h 0 rfl))) (by omega) ba.2.1 ba.2.2 bb.2.1 bb.2.2) rfl,
  fun σ W g h hb=>fun ρ o ho _ hv=>⟨_,E7 true ho ((A0 hv).1.trans (h 2 rfl)) (A0 hv).2 (decide_eq_true h1),rfl⟩,
  fun σ W g h hb=>toRay g.size (nF W _ m (h 1 rfl)),
  trivial⟩ fun τ W g h=>ray_ret (h 4 rfl) g
theorem nH (w:World) (va vb:Value) (a b m:Pq) (K:Nat) (Ha:SgV w va a b) (Hm:PtV w vb m) (hK:K<=10000) (ba:Bp K a) (bb:Bp K b) (h1:G3 a.2 b.2≠0) :
 Calls Tryz.prog 57 #[va,vb] w (Y2 95 w m):=by
 refine A5 B1 Tryz.func57 [sSg a b,sPt m] [sZ (G3 a.2 b.2),sV (.bool false),sRay 95 w.heap.size m] (.cons Ha (.cons Hm .nil)) (rs:=[cl 2 96 [.v true [.an 0 4,.an 0 5,.an 0 6,.an 0 7],.v true [.an 0 12,.an 0 13,.an 0 14,.an 0 15]],co 3 (.binOp .eql 3 (.tmp 11) (.const (.int .i64 0)) 3) 4 [on 2,.v false [.lit (.int .i64 0)]] [0,1,2] [],cl 4 52 [ag 8 1]]) (out:=on 4) (nc:=5) (by kernel_rfl)
  ⟨fun σ W g h hb=>toZ (T7 W _ _ a.2 b.2 K (pt2 (sg1 (h 0 rfl))) (pt2 (sg2 (h 0 rfl))) (by omega) ba.2.1 ba.2.2 bb.2.1 bb.2.2) rfl,
  fun σ W g h hb=>fun ρ o ho _ hv=>⟨_,E7 false ho ((A0 hv).1.trans (h 2 rfl)) (A0 hv).2 (decide_eq_false h1),rfl⟩,
  fun σ W g h hb=>toRay g.size (jG W _ m (h 1 rfl)),
  trivial⟩ fun τ W g h=>ray_ret (h 4 rfl) g
end Go.Proofs.YtninnifpgpjfhaaGreatDoor
