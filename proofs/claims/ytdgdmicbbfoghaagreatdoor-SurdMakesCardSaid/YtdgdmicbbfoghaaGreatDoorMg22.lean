/- What the laws lean on, part 22. -/
import Derived.Below
import Derived.BigCall
import Derived.BigQuiet
import Derived.BigRegion
import Derived.ChangeOld
import Derived.Deep.AppendLies
import Derived.Deep.CutBlock
import Derived.Deep.CutRange
import Derived.Deep.DeepCutAuto
import Derived.Deep.DeepHandedRow
import Derived.Deep.LoopGhost
import Derived.Deep.MidRow
import Derived.Deep.QuietTactic
import Derived.Deep.RegionHeld3
import Derived.Deep.RegionLaw
import Derived.Deep.Slices
import Derived.Deep.Strs
import Derived.Deep.WholeRow
import Derived.Laws.AppendOwn
import Derived.Laws.Concat
import Derived.Laws.CopyOwn
import Derived.Laws.CopyRow
import Derived.Laws.Externs
import Derived.Laws.IdiomStrings
import Derived.Lib.BitFns
import Derived.Lib.Bytealg
import Derived.Lib.Hide
import Derived.Lib.LaidTab
import Derived.Lib.Slices
import Derived.Lib.Small
import Derived.Lib.Strings
import Derived.Lib.Walk
import Derived.LoopN
import Derived.Maps.AppendAt
import Derived.OpenShut
import Derived.OrdersHeld
import Derived.OrdersIn
import Derived.Outline
import Derived.OwnWalk
import Derived.ProofKit
import Derived.RangeFuncCalls
import Derived.RangeFuncNested
import Derived.RangeFuncOwn
import Derived.Shelf.Bits.Mul64
import Derived.Shelf.Spec.TrailingZeros
import Derived.StillTailTactics
import Derived.WalkKit
import Derived.WalkLawsBesides
import Derived.WalkSpells
import Derived.WideKeyArgs
import Derived.Test.YtdgdmicbbfoghaaGreatDoorCards
import Derived.Test.YtdgdmicbbfoghaaGreatDoorProg
import Derived.Test.YtdgdmicbbfoghaaGreatDoorRows
import Derived.Test.YtdgdmicbbfoghaaGreatDoorTie
import Derived.Test.YtdgdmicbbfoghaaGreatDoorMg21
set_option linter.unusedVariables false
set_option linter.unusedSimpArgs false
set_option maxRecDepth 100000
namespace Go.Proofs.YtdgdmicbbfoghaaGreatDoor
open Go.RowKit Mat Ex
theorem oS {P:Program} {ρ : Operand->Value} {o:Oper} {t t':TypeId} {x y:Operand} {s u:ByteArray} {W:World} (ho:o.op = .binOp .eql t x y t') (hx : ρ x = .string s) (hy : ρ y = .string u) (h:s=u):(execOp ρ o).run P W = .ok (.value (.bool true)) W:=by
 have hg:eqGuard .eql t x y (.string s) (.string u)=pure ():=by unfold eqGuard;rfl
 have hb:binOp .eql t (.string s) (.string u)=pure (.bool true):=by
  subst h
  have:binOp .eql t (.string s) (.string s)=Op.stringOp .eql s s:=by simp [binOp]
  rw [this];simp [Op.stringOp]
 simp only [execOp,ho,hx,hy,hg,hb,Sem.run_bind,Sem.run_pure,Result.andThen_ok]
def sMd (m n:Int) (a b c d:Rat):Sp := .of (.tup [(none,21),(none,21),(some (.bool true),0)]) (fun v W=>∃ x y,v = .tuple #[x,y,.bool true]/\SurdV W x m n a b c d/\RdV W y m n a b c d 7) (fun v W h=>by
 obtain ⟨x,y,rfl,⟨s0,x0,b0,s1,x1,b1,s2,x2,b2,s3,x3,b3,s4,x4,b4,s5,x5,b5,s6,x6,b6,s7,x7,b7,s8,x8,b8,s9,x9,b9,rfl,_⟩,hd⟩:=h
 obtain ⟨c0,c1,c2,c3,c4,c5,c6,c7,c8,c9,c10,c11,c12,c13,c14,c15,c16,c17,c18,c19,rfl,ho⟩:=hd.one
 exact X6 (u := .bool true) (cs:=[.slice s0 x0.length x0.length,.bool b0,.slice s1 x1.length x1.length,.bool b1,.slice s2 x2.length x2.length,.bool b2,.slice s3 x3.length x3.length,.bool b3,.slice s4 x4.length x4.length,.bool b4,.slice s5 x5.length x5.length,.bool b5,.slice s6 x6.length x6.length,.bool b6,.slice s7 x7.length x7.length,.bool b7,.slice s8 x8.length x8.length,.bool b8,.slice s9 x9.length x9.length,.bool b9]++[c0,c1,c2,c3,c4,c5,c6,c7,c8,c9,c10,c11,c12,c13,c14,c15,c16,c17,c18,c19]) (fun u hu=>(List.mem_append.1 hu).elim (fun hu=>by simp at hu;rcases hu with rfl | rfl | rfl | rfl | rfl | rfl | rfl | rfl | rfl | rfl | rfl | rfl | rfl | rfl | rfl | rfl | rfl | rfl | rfl | rfl<;>rfl) (ho u)) rfl) (fun v W W' k h=>by
 obtain ⟨x,y,e,h1,h2⟩:=h;exact ⟨x,y,e,h1.keeps k,h2.keeps k⟩)
theorem md1 {m n:Int} {a b c d:Rat} {x y z:Value} {W:World} : (sMd m n a b c d).F (.tuple #[x,y,z]) W->SurdV W x m n a b c d:=by rintro ⟨u,t,e,h,_⟩;cases e;exact h
section
variable {P:Program} {f:FuncId} {args:Array Value} {W:World}
theorem toMd {m n:Int} {a b c d:Rat} (h:Calls P f args W (nV W m n a b c d)):Calls P f args W (Ret W (sMd m n a b c d).F):=h.mono fun _ _ ⟨v,u,e,h1,h2,g⟩=>⟨_,e,⟨v,u,rfl,h1,h2⟩,g⟩
end
theorem cE (w:World) (va:Value) (M N:Int) (l:List ByteArray) {a b c d:Rat} (Ha:NmV w.heap.size w va M N l) (hM : -9223372036854775808<=M/\M<=9223372036854775807) (hN : -9223372036854775808<=N/\N<=9223372036854775807) (hTab:Tab w) (h:mOK M N l) (e0:pv l 0=a) (e1:pv l 1=b) (e2:pv l 2=c) (e3:pv l 3=d):Calls Tryz.prog 19 #[va] w (nV w M N a b c d):=by
 subst e0 e1 e2 e3;exact LMade_any w va M N l Ha hM hN hTab h
theorem NmV.wide {base base':Nat} {w:World} {v:Value} {m n:Int} {l:List ByteArray} (h:NmV base w v m n l) (hb:base<=base'):NmV base' w v m n l:=by
 obtain ⟨u,rfl,s,k,c,e,hl,hc,h⟩:=h
 refine ⟨u,rfl,s,k,c,e,hl,hc, ?_⟩
 rcases h with h | ⟨b,off,e,h1,h2⟩
 · exact .inl h
 · exact .inr ⟨b,off,e,by omega,h2⟩
theorem kW {w:World} {q:Nat} {t:TypeId} {m n:Int} (l:List ByteArray) (h:w.heap[q]?=some (.cells (l.map Value.string).toArray t (0,0))):NmV w.heap.size w (.agg #[.int .i64 m,.int .i64 n,.slice (some ⟨q,0,none⟩) l.length l.length]) m n l:=by
 refine ⟨_,rfl,_,_,_,rfl,rfl,Nat.le_refl _,.inr ⟨q,0,rfl,(Array.getElem?_eq_some_iff.1 h).1,fun i hi=>?_⟩⟩
 simp [World.cell?,h,hi]
def bdB (r:Rat):Bool:=decide (r.num.natAbs<B^2) && decide (r.den<B^2)
theorem F3 {r:Rat} (h:bdB r=true):Bd1 2 r:=by
 unfold bdB at h;rw [Bool.and_eq_true] at h
 exact ⟨of_decide_eq_true h.1,of_decide_eq_true h.2⟩
theorem oP (m n:Nat) (a b c d:Rat) (z:Int) (h0:bdB a=true) (h1:bdB b=true) (h2:bdB c=true) (h3:bdB d=true) (h:ssz (m:Int) (n:Int) (a*J9 a b c d).num (b*J9 a b c d).num (c*J9 a b c d).num (d*J9 a b c d).num=z):sg4 m n a b c d=z:=
 (oO (K:=2) m n (F3 h0) (F3 h1) (F3 h2) (F3 h3)).symm.trans h
theorem k4_floor:SFloor 2 3 0 0 0 1 2:=by
 refine ⟨?_,oP _ _ _ _ _ _ _ (by decide +kernel) (by decide +kernel) (by decide +kernel) (by decide +kernel) (by decide +kernel)⟩
 rw [oP 2 3 (0-((2:Int):Rat)) 0 0 1 1 (by decide +kernel) (by decide +kernel) (by decide +kernel) (by decide +kernel) (by decide +kernel)];decide
theorem SNear_num (w:World) (va:Value) (m n:Nat) (r0 r1 r2 r3:Rat) (K:Nat) (Ha:SurdV w va (m:Int) (n:Int) r0 r1 r2 r3) (hK : 1<=K/\K<=140) (b0:Bd1 K r0) (b1:Bd1 K r1) (b2:Bd1 K r2) (b3:Bd1 K r3) (lm:m<B^K) (ln:n<B^K) (hTab:Tab w) (z:Int) (hz:SNear m n r0 r1 r2 r3 z) :
 Calls Tryz.prog 34 #[va] w (E4 w z):=
 (SNear_any w va m n r0 r1 r2 r3 K Ha hK b0 b1 b2 b3 lm ln hTab).mono fun e w' ⟨z',h1,_,h2⟩=>by rw [SNear.uniq h1 hz] at h2;exact h2
theorem k4_near:SNear 5 7 (5 / 2) 0 0 0 2:=(show M0 (5 / 2)=2 by decide +kernel) ▸ near_rat 5 7 (5 / 2)
theorem SMul_is (w:World) (va vb:Value) (m n m' n':Int) (r0 r1 r2 r3 t0 t1 t2 t3:Rat) (K:Nat) {y0 y1 y2 y3:Rat} (Ha:SurdV w va m n r0 r1 r2 r3) (Hb:SurdV w vb m' n' t0 t1 t2 t3) (hK : 1<=K/\K<=4000) (lm:m.natAbs<B^K) (ln:n.natAbs<B^K) (lx:m'.natAbs<B^K) (ly:n'.natAbs<B^K) (n0:Bd1 K r0/\Bd1 K t0) (n1:Bd1 K r1/\Bd1 K t1) (n2:Bd1 K r2/\Bd1 K t2) (n3:Bd1 K r3/\Bd1 K t3) (hs:m=m'/\n=n') (hTab:Tab w)
 (e0:r0*t0+(m:Rat)*(r1*t1)+(n:Rat)*(r2*t2)+(m:Rat)*(n:Rat)*(r3*t3)=y0) (e1:r0*t1+r1*t0+(n:Rat)*(r2*t3+r3*t2)=y1) (e2:r0*t2+r2*t0+(m:Rat)*(r1*t3+r3*t1)=y2) (e3:r0*t3+r3*t0+r1*t2+r2*t1=y3) :
 Calls Tryz.prog 23 #[va,vb] w (J5 w m n y0 y1 y2 y3 0):=by
 subst e0 e1 e2 e3;exact SMul_same w va vb m n m' n' r0 r1 r2 r3 t0 t1 t2 t3 K Ha Hb hK lm ln lx ly n0 n1 n2 n3 hs hTab
theorem zt4_m1:F5 { data := #[45,49] } (-1):=⟨[49],cW (by decide +kernel),by decide +kernel,by decide +kernel⟩
theorem zt4_2:F5 { data := #[50] } 2:=⟨[50],cW (by decide +kernel),by decide +kernel,by decide +kernel⟩
theorem M5 (w:World) (hTab:Tab w) :
 Calls Tryz.prog 12 #[] w (fun e w'=>e = .returned (.bool true)/\w.grownBy w' none):=by
 refine A6 B5 Tryz.func12 [] [sMd 2 3 (1) (1) (0) (0),sMd 2 3 (1) (-1) (0) (0),oU 2 3 (-1) (0) (0) (0) 0,sMd 2 3 (-22 / 7) (1) (1) (0),sMd 4 0 (2) (-1) (0) (0),sMd 2 3 (0) (0) (0) (1),sMd 5 7 (5 / 2) (0) (0) (0),sPa (-1) (0) (0) (0),sT (fun s=>U5 s (-1)),sV (.bool true),sV (.int .i64 (-1)),sV (.int .i64 (1)),sV (.int .i64 (0)),sI 2,sT (fun s=>F5 s 2),sV (.bool true),sI 2,sT (fun s=>F5 s 2),sV (.bool true)] .nil (rs:=[clb 0 19 [.v true [.lit (.int .i64 2),.lit (.int .i64 3),.row 0 0 2 2]] [] [(0,9,[.lit (.string ({ data := #[49] })),.lit (.string ({ data := #[49] }))])],clb 1 19 [.v true [.lit (.int .i64 2),.lit (.int .i64 3),.row 3 0 2 2]] [0] [(3,9,[.lit (.string ({ data := #[49] })),.lit (.string ({ data := #[45,49] }))])],cl 2 23 [ag 20 0,ag 20 1],clb 3 19 [.v true [.lit (.int .i64 2),.lit (.int .i64 3),.row 7 0 3 3]] [0,1,2] [(7,9,[.lit (.string ({ data := #[45,50,50,47,55] })),.lit (.string ({ data := #[49] })),.lit (.string ({ data := #[49] }))])],clb 4 19 [.v true [.lit (.int .i64 4),.lit (.int .i64 0),.row 10 0 2 2]] [0,1,2,3] [(10,9,[.lit (.string ({ data := #[50] })),.lit (.string ({ data := #[45,49] }))])],clb 5 19 [.v true [.lit (.int .i64 2),.lit (.int .i64 3),.row 13 0 4 4]] [0,1,2,3,4] [(13,9,[.lit (.string ({ data := #[48] })),.lit (.string ({ data := #[48] })),.lit (.string ({ data := #[48] })),.lit (.string ({ data := #[49] }))])],clb 6 19 [.v true [.lit (.int .i64 5),.lit (.int .i64 7),.row 16 0 1 1]] [0,1,2,3,4,5] [(16,9,[.lit (.string ({ data := #[53,47,50] }))])],cl 7 14 [ag 20 2],cl 8 16 [ag 4 7],co 9 (.binOp .eql 9 (.tmp 81) (.const (.string ({ data := #[45,49] }))) 9) 4 [on 8,.v false [.lit (.string ({ data := #[45,49] }))]] [0,1,2,3,4,5,6,7,8] [],cl 10 13 [ag 20 2],cl 11 13 [ag 20 3],cl 12 13 [ag 20 4],cl 13 31 [ag 20 5],cl 14 15 [ag 2 13],co 15 (.binOp .eql 9 (.tmp 102) (.const (.string ({ data := #[50] }))) 9) 4 [on 14,.v false [.lit (.string ({ data := #[50] }))]] [0,1,2,3,4,5,6,7,8,9,10,11,12,13,14] [],cl 16 34 [ag 20 6],cl 17 15 [ag 2 16],co 18 (.binOp .eql 9 (.tmp 108) (.const (.string ({ data := #[50] }))) 9) 4 [on 17,.v false [.lit (.string ({ data := #[50] }))]] [0,1,2,3,4,5,6,7,8,9,10,11,12,13,14,15,16,17] []]) (out := .v false [.lit (.bool true)]) (nc:=19) (by kernel_rfl)
  ⟨fun σ W g h hb=>toMd (cE W _ 2 3 [({ data := #[49] } : ByteArray),({ data := #[49] } : ByteArray)] (kW [({ data := #[49] } : ByteArray),({ data := #[49] } : ByteArray)] (hb.1 _ (.head _))) (by omega) (by omega) (hTab.kept g (by simp)) (by unfold mOK mGood;decide +kernel) (by decide +kernel) (by decide +kernel) (by decide +kernel) (by decide +kernel)),
  fun σ W g h hb=>toMd (cE W _ 2 3 [({ data := #[49] } : ByteArray),({ data := #[45,49] } : ByteArray)] (kW [({ data := #[49] } : ByteArray),({ data := #[45,49] } : ByteArray)] (hb.1 _ (.head _))) (by omega) (by omega) (hTab.kept g (by simp)) (by unfold mOK mGood;decide +kernel) (by decide +kernel) (by decide +kernel) (by decide +kernel) (by decide +kernel)),
  fun σ W g h hb=>lT (SMul_is W _ _ 2 3 2 3 (1) (1) (0) (0) (1) (-1) (0) (0) 2 (md1 (h 0 rfl)) (md1 (h 1 rfl)) (by omega) (by decide +kernel) (by decide +kernel) (by decide +kernel) (by decide +kernel) ⟨F3 (by decide +kernel),F3 (by decide +kernel)⟩ ⟨F3 (by decide +kernel),F3 (by decide +kernel)⟩ ⟨F3 (by decide +kernel),F3 (by decide +kernel)⟩ ⟨F3 (by decide +kernel),F3 (by decide +kernel)⟩ ⟨rfl,rfl⟩ (hTab.kept g (by simp)) (by decide +kernel) (by decide +kernel) (by decide +kernel) (by decide +kernel)),
  fun σ W g h hb=>toMd (cE W _ 2 3 [({ data := #[45,50,50,47,55] } : ByteArray),({ data := #[49] } : ByteArray),({ data := #[49] } : ByteArray)] (kW [({ data := #[45,50,50,47,55] } : ByteArray),({ data := #[49] } : ByteArray),({ data := #[49] } : ByteArray)] (hb.1 _ (.head _))) (by omega) (by omega) (hTab.kept g (by simp)) (by unfold mOK mGood;decide +kernel) (by decide +kernel) (by decide +kernel) (by decide +kernel) (by decide +kernel)),
  fun σ W g h hb=>toMd (cE W _ 4 0 [({ data := #[50] } : ByteArray),({ data := #[45,49] } : ByteArray)] (kW [({ data := #[50] } : ByteArray),({ data := #[45,49] } : ByteArray)] (hb.1 _ (.head _))) (by omega) (by omega) (hTab.kept g (by simp)) (by unfold mOK mGood;decide +kernel) (by decide +kernel) (by decide +kernel) (by decide +kernel) (by decide +kernel)),
  fun σ W g h hb=>toMd (cE W _ 2 3 [({ data := #[48] } : ByteArray),({ data := #[48] } : ByteArray),({ data := #[48] } : ByteArray),({ data := #[49] } : ByteArray)] (kW [({ data := #[48] } : ByteArray),({ data := #[48] } : ByteArray),({ data := #[48] } : ByteArray),({ data := #[49] } : ByteArray)] (hb.1 _ (.head _))) (by omega) (by omega) (hTab.kept g (by simp)) (by unfold mOK mGood;decide +kernel) (by decide +kernel) (by decide +kernel) (by decide +kernel) (by decide +kernel)),
  fun σ W g h hb=>toMd (cE W _ 5 7 [({ data := #[53,47,50] } : ByteArray)] (kW [({ data := #[53,47,50] } : ByteArray)] (hb.1 _ (.head _))) (by omega) (by omega) (hTab.kept g (by simp)) (by unfold mOK mGood;decide +kernel) (by decide +kernel) (by decide +kernel) (by decide +kernel) (by decide +kernel)),
  fun σ W g h hb=>rC W _ _ _ (-1) (0) (0) (0) 2 (sdE (h 2 rfl)) (by omega) (F3 (by decide +kernel)) (F3 (by decide +kernel)) (F3 (by decide +kernel)) (F3 (by decide +kernel)),
  fun σ W g h hb=>toT (cG W _ (-1) 2 (pa0 (h 7 rfl)) (by omega) (by decide +kernel) (by decide +kernel)),
  fun σ W g h hb=>fun ρ o ho _ hv=>by
   obtain ⟨s,e,hs⟩:=h 8 rfl
   exact ⟨_,oS ho ((A0 hv).1.trans e) (A0 hv).2 (oW hs (.inl ⟨rfl,zt4_m1⟩)),rfl⟩,
  fun σ W g h hb=>toV (J2 W _ 2 3 (-1) (0) (0) (0) 2 (sdE (h 2 rfl)) (by omega) (F3 (by decide +kernel)) (F3 (by decide +kernel)) (F3 (by decide +kernel)) (F3 (by decide +kernel)) (by decide +kernel) (by decide +kernel) (hTab.kept g (by simp))) (congrArg (Value.int .i64) (oP 2 3 (-1) (0) (0) (0) _ (by decide +kernel) (by decide +kernel) (by decide +kernel) (by decide +kernel) (by decide +kernel))),
  fun σ W g h hb=>toV (J2 W _ 2 3 (-22 / 7) (1) (1) (0) 2 (md1 (h 3 rfl)) (by omega) (F3 (by decide +kernel)) (F3 (by decide +kernel)) (F3 (by decide +kernel)) (F3 (by decide +kernel)) (by decide +kernel) (by decide +kernel) (hTab.kept g (by simp))) (congrArg (Value.int .i64) (oP 2 3 (-22 / 7) (1) (1) (0) _ (by decide +kernel) (by decide +kernel) (by decide +kernel) (by decide +kernel) (by decide +kernel))),
  fun σ W g h hb=>toV (J2 W _ 4 0 (2) (-1) (0) (0) 2 (md1 (h 4 rfl)) (by omega) (F3 (by decide +kernel)) (F3 (by decide +kernel)) (F3 (by decide +kernel)) (F3 (by decide +kernel)) (by decide +kernel) (by decide +kernel) (hTab.kept g (by simp))) (congrArg (Value.int .i64) (oP 4 0 (2) (-1) (0) (0) _ (by decide +kernel) (by decide +kernel) (by decide +kernel) (by decide +kernel) (by decide +kernel))),
  fun σ W g h hb=>iP W _ 2 3 0 0 0 1 2 (md1 (h 5 rfl)) (by omega) (F3 (by decide +kernel)) (F3 (by decide +kernel)) (F3 (by decide +kernel)) (F3 (by decide +kernel)) (by decide +kernel) (by decide +kernel) (hTab.kept g (by simp)) 2 k4_floor,
  fun σ W g h hb=>toT (U0 W _ 2 1 (h 13 rfl) (by omega) (by decide +kernel)),
  fun σ W g h hb=>fun ρ o ho _ hv=>by
   obtain ⟨s,e,hs⟩:=h 14 rfl
   exact ⟨_,oS ho ((A0 hv).1.trans e) (A0 hv).2 (Z6 hs zt4_2),rfl⟩,
  fun σ W g h hb=>SNear_num W _ 5 7 (5 / 2) 0 0 0 2 (md1 (h 6 rfl)) (by omega) (F3 (by decide +kernel)) (F3 (by decide +kernel)) (F3 (by decide +kernel)) (F3 (by decide +kernel)) (by decide +kernel) (by decide +kernel) (hTab.kept g (by simp)) 2 k4_near,
  fun σ W g h hb=>toT (U0 W _ 2 1 (h 16 rfl) (by omega) (by decide +kernel)),
  fun σ W g h hb=>fun ρ o ho _ hv=>by
   obtain ⟨s,e,hs⟩:=h 17 rfl
   exact ⟨_,oS ho ((A0 hv).1.trans e) (A0 hv).2 (Z6 hs zt4_2),rfl⟩,
  trivial⟩ fun τ W g h=>⟨rfl,g⟩
theorem x3 {a b c a' b' c':Value} (h:Value.agg #[a',b',c'] = .agg #[a,b,c]):a'=a/\b'=b/\c'=c:=by cases h;exact ⟨rfl,rfl,rfl⟩
end Go.Proofs.YtdgdmicbbfoghaaGreatDoor
namespace Go.Proofs.YtdgdmicbbfoghaaGreatDoor
open Go.ChangeShapes Go.WideShapes Go.ChangeAt Go.RowKit Go.ChangeMaps
theorem iI {W W':World} (h:W.grownBy W' none) {p:MemPlace} (hp:p.block<W.heap.size):W.sameAt W' p:=by
 cases p with
 | cell b o=>exact World.cell?_of_block (w:=W) (h.block b hp (by simp))
 | map b=>exact h.block b hp (by simp)
theorem vO {W W':World} (h:W.grownBy W' none) {b off:Nat} (hp:b<W.heap.size):W'.frozen? ⟨b,off,none⟩=W.frozen? ⟨b,off,none⟩:=by
 unfold World.frozen?
 rw [h.block b hp (by simp)]
theorem post_places {H:Type} {enc:TypeId × Value->H} {P:Program} {f:Func} {s:ChangeSpec} {apart fresh handsOn again:Bool} {W W':World} {args:Array Value} {v:Value} {ds gs:List (DataW H)} {before:List MemPlace}
 (hW:DataW.Whole enc P f.params.toList s.vars apart W args.toList ds gs before)
 (hlt:∀ p ∈ before,p.block<W.heap.size)
 (hres:∀ (b:Nat) (sp:Nat->Bool) (hd:Bool),DataW.TrodAll enc P W' b sp hd f.resultTypes.toList (v.resultList f.resultTypes.size) (s.fn H (ds++gs)).results [])
 (hargs:∀ sp:Nat->Bool,(∀ p ∈ before,sp p.block=true)->DataW.TrodAll enc P W' 0 sp true f.params.toList args.toList (s.fn H (ds++gs)).args before)
 (hvars:∀ sp:Nat->Bool,DataW.TrodVars enc P W' sp s.vars (s.fn H (ds++gs)).vars [])
 (hg:W.grownBy W' none)
 (hok:∀ (j:Nat) (t:TypeId) (r:Value),f.resultTypes[j]?=some t->(v.resultList f.resultTypes.size)[j]?=some r->Value.okWide P W' .any 0 t r) :
 s.post enc P f apart fresh handsOn again W args v W':=by
 have hW2:=hW
 obtain ⟨_,_,_,_,_,hfz,hnd⟩:=hW2
 have hA:=hargs (fun b=>decide (b<W.heap.size)) (fun p hp=>decide_eq_true (hlt p hp))
 refine ⟨ds,gs,before,[],before,[],hW,hres _ _ _,hA,hvars _,World.keptBut_mono (fun p hp=>hp.elim) (rX hg),fun _=>?_⟩
 refine ⟨hok,_,_,before,⟨before,[],trodAll_append (hargs (fun _=>true) (fun _ _=>rfl)) (hres _ _ _),hvars _,(List.append_nil _).symm, ?_,hnd⟩,fun p hp _=>hp⟩
 intro b off hp
 rw [vO hg (show b<W.heap.size from hlt _ hp)]
 exact hfz b off hp
end Go.Proofs.YtdgdmicbbfoghaaGreatDoor
namespace Go.Proofs.YtdgdmicbbfoghaaGreatDoor
open Go.ChangeShapes Go.WideShapes Go.ChangeAt Go.RowKit Go.ChangeMaps Mat
theorem sL : Tryz.prog.globalNamed "math/bits.deBruijn64tab" = some 3 := by kernel_rfl
theorem tab_typed:(Tryz.prog.globals[3]?).map (·.type)=some 209:=by kernel_rfl
theorem tab_cells:Tryz.prog.cellsOf 209=64:=by kernel_rfl
theorem u8_cells:Tryz.prog.cellsOf 5=1:=by kernel_rfl
theorem tab_of {W : World} (h : laidMetH Tryz.prog [("math/bits.deBruijn64tab", Rows.laid_math_bits_deBruijn64tab)] W) : Tab W := by
 have h1 : Lib.TabIs Tryz.prog W "math/bits.deBruijn64tab" .u8 (Lib.deBruijn64tab.map fun n : Nat => (n : Int)) := Lib.tabIs_of_head (rest := []) sL tab_typed Tryz.underlying209 Tryz.underlying5 u8_cells tab_cells h
 intro j hj
 rw [h1.cell sL j (by simpa using hj)]
 simp [List.getD_eq_getElem?_getD,List.getElem?_map,List.getElem?_eq_getElem hj]
noncomputable def lE (os:Os):World:=
 { World.holding Tryz.prog os ⟨#[], #[],[]⟩ with heap:=(World.holding Tryz.prog os ⟨#[], #[],[]⟩).heap.modify 3 fun
  | .cells _ t frozen => .cells (Lib.deBruijn64tab.map fun z:Nat=>Value.int .u8 (z:Int)).toArray t frozen
  | o=>o }
end Go.Proofs.YtdgdmicbbfoghaaGreatDoor
namespace Go.Proofs.YtdgdmicbbfoghaaGreatDoor
open Go.ChangeShapes Go.WideShapes Go.ChangeAt Go.RowKit Go.ChangeMaps Go.Deep
section
variable {H:Type} {enc:TypeId × Value->H} {W:World} {sp:Nat->Bool}
theorem i64_wf {n:Int} (h:(Lit.int .i64 n).wf=true) : -9223372036854775808<=n/\n<=9223372036854775807:=by
 simp [Lit.wf,IntKind.min,IntKind.max,IntKind.signed,IntKind.bits] at h
 omega
theorem int_cells:Tryz.prog.cellsOf 3=1:=by kernel_rfl
theorem cell_spot {w:World} {a:Addr} {v:Value} (h:w.cell? a=some v):a.spot=none:=by
 unfold World.cell? at h
 cases hs:a.spot with
 | none=>rfl
 | some x=>rw [hs] at h;revert h;cases w.heap[a.block]? with
   | none=>intro h;cases h
   | some o=>cases o<;>simp
end
end Go.Proofs.YtdgdmicbbfoghaaGreatDoor
