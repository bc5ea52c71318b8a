/- What the laws lean on, part 20. -/
import Derived.Below
import Derived.BigCall
import Derived.BigQuiet
import Derived.BigRegion
import Derived.Deep.AppendLies
import Derived.Deep.CutBlock
import Derived.Deep.CutRange
import Derived.Deep.DeepCutAuto
import Derived.Deep.DeepHandedRow
import Derived.Deep.LoopGhost
import Derived.Deep.MidRow
import Derived.Deep.QuietTactic
import Derived.Deep.RegionHeld3
import Derived.Deep.RegionLaw
import Derived.Deep.WholeRow
import Derived.Laws.AppendOwn
import Derived.Laws.Concat
import Derived.Laws.CopyOwn
import Derived.Laws.CopyRow
import Derived.Laws.Externs
import Derived.Laws.IdiomStrings
import Derived.Lib.BitFns
import Derived.Lib.Bytealg
import Derived.Lib.Hide
import Derived.Lib.Slices
import Derived.Lib.Small
import Derived.Lib.Strings
import Derived.Lib.Walk
import Derived.LoopN
import Derived.Maps.AppendAt
import Derived.OpenShut
import Derived.OrdersHeld
import Derived.OrdersIn
import Derived.Outline
import Derived.OwnWalk
import Derived.ProofKit
import Derived.RangeFuncCalls
import Derived.RangeFuncNested
import Derived.RangeFuncOwn
import Derived.Shelf.Bits.Mul64
import Derived.Shelf.Spec.TrailingZeros
import Derived.StillTailTactics
import Derived.WalkKit
import Derived.WalkLawsBesides
import Derived.WalkSpells
import Derived.Test.YtdgdmicbbfoghaaGreatDoorProg
import Derived.Test.YtdgdmicbbfoghaaGreatDoorRows
import Derived.Test.YtdgdmicbbfoghaaGreatDoorMg14
import Derived.Test.YtdgdmicbbfoghaaGreatDoorMg18
import Derived.Test.YtdgdmicbbfoghaaGreatDoorMg19
set_option linter.unusedVariables false
set_option linter.unusedSimpArgs false
set_option maxRecDepth 100000
namespace Go.Proofs.YtdgdmicbbfoghaaGreatDoor
open Go.RowKit Mat Ex
theorem RQ.cells {w:World} {a b c d:Value} {r:Rat} {E:Nat} (h:RQ w (.agg #[a,b,c,d]) r E):a.oneCell'=true/\b.oneCell'=true/\c.oneCell'=true/\d.oneCell'=true:=by
 obtain ⟨g,s,l,k,g',s',l',k',n,m,e,_⟩:=h
 cases e;exact ⟨rfl,rfl,rfl,rfl⟩
theorem RIntV.cells {w:World} {a b:Value} {z:Int} (h:RIntV w (.agg #[a,b]) z):a.oneCell'=true/\b.oneCell'=true:=by
 obtain ⟨g,s,l,k,e,_⟩:=h
 cases e;exact ⟨rfl,rfl⟩
def RdV (w:World) (v:Value) (m n:Int) (a b c d:Rat) (E:Nat):Prop:=∃ c0 c1 c2 c3 c4 c5 c6 c7 c8 c9 c10 c11 c12 c13 c14 c15 c16 c17 c18 c19:Value,v = .agg #[c0,c1,c2,c3,c4,c5,c6,c7,c8,c9,c10,c11,c12,c13,c14,c15,c16,c17,c18,c19]/\RIntV w (.agg #[c0,c1]) m/\RIntV w (.agg #[c2,c3]) n/\RQ w (.agg #[c4,c5,c6,c7]) a E/\RQ w (.agg #[c8,c9,c10,c11]) b E/\RQ w (.agg #[c12,c13,c14,c15]) c E/\RQ w (.agg #[c16,c17,c18,c19]) d E
theorem RdV.kept {w w':World} {v:Value} {m n:Int} {a b c d:Rat} {E:Nat} (h:RdV w v m n a b c d E) (g:w.grownBy w' none):RdV w' v m n a b c d E:=by
 obtain ⟨c0,c1,c2,c3,c4,c5,c6,c7,c8,c9,c10,c11,c12,c13,c14,c15,c16,c17,c18,c19,e,h0,h1,h2,h3,h4,h5⟩:=h
 exact ⟨c0,c1,c2,c3,c4,c5,c6,c7,c8,c9,c10,c11,c12,c13,c14,c15,c16,c17,c18,c19,e,h0.kept g,h1.kept g,h2.kept g,h3.kept g,h4.kept g,h5.kept g⟩
theorem RdV.keeps {W W':World} {v:Value} {m n:Int} {a b c d:Rat} {E:Nat} (h:RdV W v m n a b c d E) (k:Keeps L6 W W'):RdV W' v m n a b c d E:=by
 obtain ⟨c0,c1,c2,c3,c4,c5,c6,c7,c8,c9,c10,c11,c12,c13,c14,c15,c16,c17,c18,c19,e,h0,h1,h2,h3,h4,h5⟩:=h
 exact ⟨c0,c1,c2,c3,c4,c5,c6,c7,c8,c9,c10,c11,c12,c13,c14,c15,c16,c17,c18,c19,e,h0.keeps k,h1.keeps k,h2.keeps k,h3.keeps k,h4.keeps k,h5.keeps k⟩
theorem RdV.one {W:World} {v:Value} {m n:Int} {a b c d:Rat} {E:Nat} (h:RdV W v m n a b c d E):∃ c0 c1 c2 c3 c4 c5 c6 c7 c8 c9 c10 c11 c12 c13 c14 c15 c16 c17 c18 c19:Value,v = .agg #[c0,c1,c2,c3,c4,c5,c6,c7,c8,c9,c10,c11,c12,c13,c14,c15,c16,c17,c18,c19] /\ ∀ u ∈ [c0,c1,c2,c3,c4,c5,c6,c7,c8,c9,c10,c11,c12,c13,c14,c15,c16,c17,c18,c19],u.oneCell'=true:=by
 obtain ⟨c0,c1,c2,c3,c4,c5,c6,c7,c8,c9,c10,c11,c12,c13,c14,c15,c16,c17,c18,c19,e,h0,h1,h2,h3,h4,h5⟩:=h
 have q0:=h0.cells;have q1:=h1.cells;have q2:=h2.cells;have q3:=h3.cells;have q4:=h4.cells;have q5:=h5.cells
 exact ⟨c0,c1,c2,c3,c4,c5,c6,c7,c8,c9,c10,c11,c12,c13,c14,c15,c16,c17,c18,c19,e,by simp [q0,q1,q2,q3,q4,q5]⟩
def sRd (m n:Int) (a b c d:Rat) (E:Nat):Sp := .of (.agg 20) (fun v W=>RdV W v m n a b c d E) (fun v W h=>by
 obtain ⟨c0,c1,c2,c3,c4,c5,c6,c7,c8,c9,c10,c11,c12,c13,c14,c15,c16,c17,c18,c19,rfl,ho⟩:=h.one
 exact ⟨P5 [c0,c1,c2,c3,c4,c5,c6,c7,c8,c9,c10,c11,c12,c13,c14,c15,c16,c17,c18,c19],F4 ho,rfl⟩) (fun v W W' k h=>h.keeps k)
theorem rd0 {W:World} {c0 c1 c2 c3 c4 c5 c6 c7 c8 c9 c10 c11 c12 c13 c14 c15 c16 c17 c18 c19:Value} {m n:Int} {a b c d:Rat} {E:Nat} (h:RdV W (.agg #[c0,c1,c2,c3,c4,c5,c6,c7,c8,c9,c10,c11,c12,c13,c14,c15,c16,c17,c18,c19]) m n a b c d E):RIntV W (.agg #[c0,c1]) m:=by
 obtain ⟨_,_,_,_,_,_,_,_,_,_,_,_,_,_,_,_,_,_,_,_,e,h0,h1,h2,h3,h4,h5⟩:=h;cases e;exact h0
theorem rd1 {W:World} {c0 c1 c2 c3 c4 c5 c6 c7 c8 c9 c10 c11 c12 c13 c14 c15 c16 c17 c18 c19:Value} {m n:Int} {a b c d:Rat} {E:Nat} (h:RdV W (.agg #[c0,c1,c2,c3,c4,c5,c6,c7,c8,c9,c10,c11,c12,c13,c14,c15,c16,c17,c18,c19]) m n a b c d E):RIntV W (.agg #[c2,c3]) n:=by
 obtain ⟨_,_,_,_,_,_,_,_,_,_,_,_,_,_,_,_,_,_,_,_,e,h0,h1,h2,h3,h4,h5⟩:=h;cases e;exact h1
theorem rd2 {W:World} {c0 c1 c2 c3 c4 c5 c6 c7 c8 c9 c10 c11 c12 c13 c14 c15 c16 c17 c18 c19:Value} {m n:Int} {a b c d:Rat} {E:Nat} (h:RdV W (.agg #[c0,c1,c2,c3,c4,c5,c6,c7,c8,c9,c10,c11,c12,c13,c14,c15,c16,c17,c18,c19]) m n a b c d E):RQ W (.agg #[c4,c5,c6,c7]) a E:=by
 obtain ⟨_,_,_,_,_,_,_,_,_,_,_,_,_,_,_,_,_,_,_,_,e,h0,h1,h2,h3,h4,h5⟩:=h;cases e;exact h2
theorem rd3 {W:World} {c0 c1 c2 c3 c4 c5 c6 c7 c8 c9 c10 c11 c12 c13 c14 c15 c16 c17 c18 c19:Value} {m n:Int} {a b c d:Rat} {E:Nat} (h:RdV W (.agg #[c0,c1,c2,c3,c4,c5,c6,c7,c8,c9,c10,c11,c12,c13,c14,c15,c16,c17,c18,c19]) m n a b c d E):RQ W (.agg #[c8,c9,c10,c11]) b E:=by
 obtain ⟨_,_,_,_,_,_,_,_,_,_,_,_,_,_,_,_,_,_,_,_,e,h0,h1,h2,h3,h4,h5⟩:=h;cases e;exact h3
theorem rd4 {W:World} {c0 c1 c2 c3 c4 c5 c6 c7 c8 c9 c10 c11 c12 c13 c14 c15 c16 c17 c18 c19:Value} {m n:Int} {a b c d:Rat} {E:Nat} (h:RdV W (.agg #[c0,c1,c2,c3,c4,c5,c6,c7,c8,c9,c10,c11,c12,c13,c14,c15,c16,c17,c18,c19]) m n a b c d E):RQ W (.agg #[c12,c13,c14,c15]) c E:=by
 obtain ⟨_,_,_,_,_,_,_,_,_,_,_,_,_,_,_,_,_,_,_,_,e,h0,h1,h2,h3,h4,h5⟩:=h;cases e;exact h4
theorem rd5 {W:World} {c0 c1 c2 c3 c4 c5 c6 c7 c8 c9 c10 c11 c12 c13 c14 c15 c16 c17 c18 c19:Value} {m n:Int} {a b c d:Rat} {E:Nat} (h:RdV W (.agg #[c0,c1,c2,c3,c4,c5,c6,c7,c8,c9,c10,c11,c12,c13,c14,c15,c16,c17,c18,c19]) m n a b c d E):RQ W (.agg #[c16,c17,c18,c19]) d E:=by
 obtain ⟨_,_,_,_,_,_,_,_,_,_,_,_,_,_,_,_,_,_,_,_,e,h0,h1,h2,h3,h4,h5⟩:=h;cases e;exact h5
theorem bR {W:World} {c0 c1 c2 c3 c4 c5 c6 c7 c8 c9 c10 c11 c12 c13 c14 c15 c16 c17 c18 c19:Value} {m n:Int} {a b c d:Rat} {E:Nat} (h0:RIntV W (.agg #[c0,c1]) m) (h1:RIntV W (.agg #[c2,c3]) n) (h2:RQ W (.agg #[c4,c5,c6,c7]) a E) (h3:RQ W (.agg #[c8,c9,c10,c11]) b E) (h4:RQ W (.agg #[c12,c13,c14,c15]) c E) (h5:RQ W (.agg #[c16,c17,c18,c19]) d E):RdV W (.agg #[c0,c1,c2,c3,c4,c5,c6,c7,c8,c9,c10,c11,c12,c13,c14,c15,c16,c17,c18,c19]) m n a b c d E:=⟨c0,c1,c2,c3,c4,c5,c6,c7,c8,c9,c10,c11,c12,c13,c14,c15,c16,c17,c18,c19,rfl,h0,h1,h2,h3,h4,h5⟩
def RetRd (w:World) (m n:Int) (a b c d:Rat) (E:Nat) (e:Ending) (w':World):Prop:=∃ v,e = .returned v/\RdV w' v m n a b c d E/\w.grownBy w' none
def sRqC (r:Rat) (E:Nat) (e:Int):Sp := .of (.tup [(none,5),(none,0)]) (fun v W=>∃ u,v = .tuple #[u,.int .i64 e]/\RQ W u r E) (fun v W h=>by
 obtain ⟨u,rfl,g,s,l,k,g',s',l',k',n,m,rfl,_⟩:=h
 exact X6 (u := .bool true) (cs:=[.int .i64 g,.slice s l k,.int .i64 g',.slice s' l' k',.int .i64 e]) (by simp [Value.oneCell']) rfl) (fun v W W' k h=>by obtain ⟨u,e,h⟩:=h;exact ⟨u,e,h.keeps k⟩)
theorem toRqC {P:Program} {f:FuncId} {args:Array Value} {W:World} {r:Rat} {E:Nat} {c:Int} (h:Calls P f args W (dB W r E c)):Calls P f args W (Ret W (sRqC r E c).F):=
 h.mono fun _ _ ⟨v,a,h,g⟩=>⟨_,a,⟨v,rfl,h⟩,g⟩
theorem nm1 {base:Nat} {w:World} {a b c:Value} {m n:Int} {l:List ByteArray} (h:NmV base w (.agg #[a,b,c]) m n l):a = .int .i64 m:=h.parts.1
theorem nm2 {base:Nat} {w:World} {a b c:Value} {m n:Int} {l:List ByteArray} (h:NmV base w (.agg #[a,b,c]) m n l):b = .int .i64 n:=h.parts.2.1
theorem nm3 {base:Nat} {w:World} {a b c:Value} {m n:Int} {l:List ByteArray} (h:NmV base w (.agg #[a,b,c]) m n l):StV base w c l:=h.parts.2.2
theorem nG {ρ : Operand->Value} {o:Oper} {W:World} {x:Operand} {s:ByteArray} (ho:o.op = .call ⟨.builtin .len, #[x], #[9]⟩) (hx : ρ x = .string s):(execOp ρ o).run Tryz.prog W = .ok (.value (.int .i64 s.size)) W:=by
 simp [execOp,ho,resolve,invoke,builtin,Builtin.len_,run_underlying Tryz.underlying9 W,hx,goInt]
theorem SOf_qsl (w:World) (va vb:Value) (s:Option Addr) (c:Nat) (m n:Int) (l:List Rat) (K:Nat) (Ha:IntV w va m) (Hb:IntV w vb n) (hq:QSl w s l.length l) (hl:l.length<=4) (hK : 1<=K/\K<=300000) (lm:m.natAbs<B^K) (ln:n.natAbs<B^K) (hm : 0<=m) (hn : 0<=n) (hb:∀ r ∈ l,Bd1 K r) (hTab:Tab w) :
 Calls Tryz.prog 11 #[va,vb,.slice s l.length c] w (J5 w m n (l.getD 0 0) (l.getD 1 0) (l.getD 2 0) (l.getD 3 0) 0):=by
 have hz:Bd1 K 0:=B9 hK.1
 match l,hl,hq,hb with
 | [],_,hq,hb=>exact eT w va vb s 0 c m n 0 0 0 0 K Ha Hb hK.2 lm ln hm hn (by omega) (fun W g f0 f1 f2 f3 _ h=>copy_parts0 W g f0 f1 f2 f3 h s c) hz hz hz hz hTab
 | [a],_,hq,hb=>
   obtain ⟨b,cs,rfl,_⟩:=hq.2.resolve_left (by simp)
   exact eT w va vb _ 1 c m n a 0 0 0 K Ha Hb hK.2 lm ln hm hn (by omega) (fun W g f0 f1 f2 f3 k h=>copy_parts1 W g b f0 f1 f2 f3 h c a (hq.kept k)) (hb _ (by simp)) hz hz hz hTab
 | [a,x],_,hq,hb=>
   obtain ⟨b,cs,rfl,_⟩:=hq.2.resolve_left (by simp)
   exact eT w va vb _ 2 c m n a x 0 0 K Ha Hb hK.2 lm ln hm hn (by omega) (fun W g f0 f1 f2 f3 k h=>copy_parts2 W g b f0 f1 f2 f3 h c a x (hq.kept k)) (hb _ (by simp)) (hb _ (by simp)) hz hz hTab
 | [a,x,y],_,hq,hb=>
   obtain ⟨b,cs,rfl,_⟩:=hq.2.resolve_left (by simp)
   exact eT w va vb _ 3 c m n a x y 0 K Ha Hb hK.2 lm ln hm hn (by omega) (fun W g f0 f1 f2 f3 k h=>copy_parts3 W g b f0 f1 f2 f3 h c a x y (hq.kept k)) (hb _ (by simp)) (hb _ (by simp)) (hb _ (by simp)) hz hTab
 | [a,x,y,z],_,hq,hb=>
   obtain ⟨b,cs,rfl,_⟩:=hq.2.resolve_left (by simp)
   exact eT w va vb _ 4 c m n a x y z K Ha Hb hK.2 lm ln hm hn (by omega) (fun W g f0 f1 f2 f3 k h=>copy_parts4 W g b f0 f1 f2 f3 h c a x y z (hq.kept k)) (hb _ (by simp)) (hb _ (by simp)) (hb _ (by simp)) (hb _ (by simp)) hTab
theorem kD {base:Nat} (w:World) (va vb v:Value) (m n:Int) (l:List Rat) (K:Nat) (Ha:IntV w va m) (Hb:IntV w vb n) (Hv:OwV kRat base w v l) (hl:l.length<=4) (hK : 1<=K/\K<=300000) (lm:m.natAbs<B^K) (ln:n.natAbs<B^K) (hm : 0<=m) (hn : 0<=n) (hb:∀ r ∈ l,Bd1 K r) (hTab:Tab w) :
 Calls Tryz.prog 11 #[va,vb,v] w (J5 w m n (l.getD 0 0) (l.getD 1 0) (l.getD 2 0) (l.getD 3 0) 0):=by
 obtain ⟨s,c,rfl,hq⟩:=Hv.qsl
 exact SOf_qsl w va vb s c m n l K Ha Hb hq hl hK lm ln hm hn hb hTab
theorem Q3 {base:Nat} (w:World) (va vb v:Value) (m n:Int) (l:List Rat) (K:Nat) (Ha:IntV w va m) (Hb:IntV w vb n) (Hv:OwV kRat base w v l) (hl:l.length<=100) (hK : 1<=K/\K<=300000) (lm:m.natAbs<B^K) (ln:n.natAbs<B^K) (hbad:m<0\/n<0\/4<l.length) :
 Calls Tryz.prog 11 #[va,vb,v] w (J5 w 0 0 0 0 0 0 1):=by
 obtain ⟨s,c,rfl,hq⟩:=Hv.qsl
 exact SOf_bad w va vb s l.length c m n 0 0 0 0 K Ha Hb hK.2 lm ln hbad (by omega)
theorem rSZero_any (w:World) (va vb:Value) (m n:Int) (Ha:RIntV w va m) (Hb:RIntV w vb n) :
 Calls Tryz.prog 60 #[va,vb] w (RetRd w m n 0 0 0 0 5):=by
 refine A6 B5 Tryz.func60 [sR m,sR n] [sRQ 0 5] (.cons Ha (.cons Hb .nil)) (rs:=[cl 2 115 [.v false [.lit (.int .i64 0)]]]) (out := .v true [.an 0 0,.an 0 1,.an 1 0,.an 1 1,.an 2 0,.an 2 1,.an 2 2,.an 2 3,.an 2 0,.an 2 1,.an 2 2,.an 2 3,.an 2 0,.an 2 1,.an 2 2,.an 2 3,.an 2 0,.an 2 1,.an 2 2,.an 2 3]) (nc:=3) (by kernel_rfl)
  ⟨fun σ W g h hb=>dW W 0 (by omega) (by omega),
  trivial⟩ fun τ W g h=>⟨_,rfl,bR (h 0 rfl) (h 1 rfl) (h 2 rfl) (h 2 rfl) (h 2 rfl) (h 2 rfl),g⟩
end Go.Proofs.YtdgdmicbbfoghaaGreatDoor
