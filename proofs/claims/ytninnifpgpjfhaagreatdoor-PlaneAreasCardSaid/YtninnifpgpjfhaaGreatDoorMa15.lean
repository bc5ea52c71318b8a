/- What the laws lean on, part 15. -/
import Derived.Below
import Derived.BigCall
import Derived.BigQuiet
import Derived.BigRegion
import Derived.Deep.AppendLies
import Derived.Deep.CutBlock
import Derived.Deep.CutRange
import Derived.Deep.DeepCutAuto
import Derived.Deep.DeepHandedRow
import Derived.Deep.LoopGhost
import Derived.Deep.MidRow
import Derived.Deep.QuietTactic
import Derived.Deep.RegionHeld3
import Derived.Deep.RegionLaw
import Derived.Deep.WholeRow
import Derived.Laws.AppendOwn
import Derived.Laws.Concat
import Derived.Laws.CopyOwn
import Derived.Laws.Externs
import Derived.Laws.IdiomStrings
import Derived.Lib.BitFns
import Derived.Lib.Bytealg
import Derived.Lib.Hide
import Derived.Lib.Slices
import Derived.Lib.Small
import Derived.Lib.Strings
import Derived.Lib.Walk
import Derived.LoopN
import Derived.Maps.AppendAt
import Derived.OpenShut
import Derived.OrdersHeld
import Derived.OrdersIn
import Derived.Outline
import Derived.OwnWalk
import Derived.ProofKit
import Derived.RangeFuncCalls
import Derived.RangeFuncNested
import Derived.RangeFuncOwn
import Derived.Shelf.Bits.Mul64
import Derived.Shelf.Spec.TrailingZeros
import Derived.StillTailTactics
import Derived.WalkKit
import Derived.WalkLawsBesides
import Derived.WalkSpells
import Derived.Test.YtninnifpgpjfhaaGreatDoorProg
import Derived.Test.YtninnifpgpjfhaaGreatDoorRows
import Derived.Test.YtninnifpgpjfhaaGreatDoorMa14
set_option linter.unusedVariables false
set_option linter.unusedSimpArgs false
set_option maxRecDepth 100000
namespace Go.Proofs.YtninnifpgpjfhaaGreatDoor
open Go.RowKit Mat Ex
def RQ (w:World) (v:Value) (r:Rat) (E:Nat):Prop:=∃ (g:Int) (s:Option Addr) (l c:Nat) (g':Int) (s':Option Addr) (l' c':Nat) (n d:Int),v = .agg #[.int .i64 g,.slice s l c,.int .i64 g',.slice s' l' c']/\RIntV w (.agg #[.int .i64 g,.slice s l c]) n/\RIntV w (.agg #[.int .i64 g',.slice s' l' c']) d/\Hid (0<d/\Rat.divInt n d=r/\n.natAbs<D^E/\d.natAbs<D^E)
theorem RQ.kept {w w':World} {v:Value} {r:Rat} {E:Nat} (h:RQ w v r E) (hg:w.grownBy w' none):RQ w' v r E:=by
 obtain ⟨g,s,l,c,g',s',l',c',n,d,e,h1,h2,h3⟩:=h
 exact ⟨g,s,l,c,g',s',l',c',n,d,e,h1.kept hg,h2.kept hg,h3⟩
theorem dpw {a E M:Nat} (h:a<D^E) (hE:E<=M):a<D^M:=Nat.lt_of_lt_of_le h (Nat.pow_le_pow_right N6 hE)
theorem dp6 {a E:Nat} (h:a<D^E) (hE:E<=1000000):a<D^1000000:=by
 obtain ⟨M,hM⟩:∃ M,M=1000000:=⟨_,rfl⟩
 rw [<- hM] at hE ⊢
 exact dpw h hE
theorem dp4 {a E:Nat} (h:a<D^E) (hE:E<=400000):a<D^400000:=by
 obtain ⟨M,hM⟩:∃ M,M=400000:=⟨_,rfl⟩
 rw [<- hM] at hE ⊢
 exact dpw h hE
theorem RQ.mono {w:World} {v:Value} {r:Rat} {E M:Nat} (h:RQ w v r E) (hE:E<=M):RQ w v r M:=by
 obtain ⟨g,s,l,c,g',s',l',c',n,d,e,h1,h2,h3,h4,h5,h6⟩:=h
 exact ⟨g,s,l,c,g',s',l',c',n,d,e,h1,h2,h3,h4,dpw h5 hE,dpw h6 hE⟩
def RetRQ (w:World) (r:Rat) (E:Nat) (e:Ending) (w':World):Prop:=∃ v,e = .returned v/\RQ w' v r E/\w.grownBy w' none
theorem RQ.of {w:World} {g g':Int} {s s':Option Addr} {l c l' c':Nat} {n d:Int} {r:Rat} {E:Nat} (h1:RIntV w (.agg #[.int .i64 g,.slice s l c]) n) (h2:RIntV w (.agg #[.int .i64 g',.slice s' l' c']) d) (h3 : 0<d) (h4:Rat.divInt n d=r) (h5:n.natAbs<D^E) (h6:d.natAbs<D^E):RQ w (.agg #[.int .i64 g,.slice s l c,.int .i64 g',.slice s' l' c']) r E:=
 ⟨g,s,l,c,g',s',l',c',n,d,rfl,h1,h2,h3,h4,h5,h6⟩
theorem E1 {x y:Int} {E F:Nat} (hx:x.natAbs<D^E) (hy:y.natAbs<D^F):(x*y).natAbs<D^(E+F):=by
 rw [Int.natAbs_mul,Nat.pow_add];exact Nat.mul_lt_mul'' hx hy
theorem aP {x y:Int} {E:Nat} (hx:x.natAbs<D^E) (hy:y.natAbs<D^E):(x+y).natAbs<D^(E+1):=by
 have h1:=Int.natAbs_add_le x y
 rw [Nat.pow_succ]
 have h2:D^E*2<=D^E*D:=Nat.mul_le_mul_left _ (by unfold D;omega)
 omega
theorem oZ {x:Int} {E:Nat} (hx:x.natAbs<D^E):(-x).natAbs<D^E:=by rw [Int.natAbs_neg];exact hx
theorem rq_add {n d m e:Int} {r t:Rat} (hd : 0<d) (he : 0<e) (h1:Rat.divInt n d=r) (h2:Rat.divInt m e=t):Rat.divInt (n*e+m*d) (d*e)=r+t:=by
 rw [<- h1, <- h2,Rat.divInt_add_divInt _ _ (by omega) (by omega)]
theorem rq_add1 {n d m:Int} {r t:Rat} (hd : 0<d) (h1:Rat.divInt n d=r) (h2:Rat.divInt m d=t):Rat.divInt (n+m) d=r+t:=by
 rw [<- rq_add hd hd h1 h2, <- Int.add_mul,Rat.divInt_mul_right (by omega)]
theorem rq_mul {n d m e:Int} {r t:Rat} (h1:Rat.divInt n d=r) (h2:Rat.divInt m e=t):Rat.divInt (n*m) (d*e)=r*t:=by
 rw [<- h1, <- h2,Rat.divInt_mul_divInt]
theorem rq_sign {n d:Int} {r:Rat} (hd : 0<d) (h1:Rat.divInt n d=r):n.sign=r.num.sign:=by
 have h:=iJ (n:=n) hd
 rw [h1] at h;exact h.symm
theorem RRdo.keeps {W W':World} {sa:Option Addr} {xs:List Nat} (h:RRdo W sa xs) (k:Keeps G6 W W'):RRdo W' sa xs:=by
 rcases h with h | ⟨b,off,cs,e,h1,h2⟩
 · exact Or.inl h
 · exact Or.inr ⟨b,off,cs,e,k b cs _ _ rfl h1,h2⟩
theorem RefV.keeps {W W':World} {v:Value} {n:Nat} (h:RefV W v n) (k:Keeps G6 W W'):RefV W' v n:=by
 obtain ⟨s,l,cap,xs,e,h1,h2,h3,h4⟩:=h
 exact ⟨s,l,cap,xs,e,h1,h2,h3.keeps k,h4⟩
theorem RIntV.keeps {W W':World} {v:Value} {z:Int} (h:RIntV W v z) (k:Keeps G6 W W'):RIntV W' v z:=by
 obtain ⟨g,s,l,c,e,h1,h2⟩:=h
 exact ⟨g,s,l,c,e,h1,h2.keeps k⟩
theorem RQ.keeps {W W':World} {v:Value} {r:Rat} {E:Nat} (h:RQ W v r E) (k:Keeps G6 W W'):RQ W' v r E:=by
 obtain ⟨g,s,l,c,g',s',l',c',n,d,e,h1,h2,h3⟩:=h
 exact ⟨g,s,l,c,g',s',l',c',n,d,e,h1.keeps k,h2.keeps k,h3⟩
def RF (w:World) (v:Value) (n d:Int):Prop:=∃ (g:Int) (s:Option Addr) (l c:Nat) (g':Int) (s':Option Addr) (l' c':Nat),v = .agg #[.int .i64 g,.slice s l c,.int .i64 g',.slice s' l' c']/\RIntV w (.agg #[.int .i64 g,.slice s l c]) n/\RIntV w (.agg #[.int .i64 g',.slice s' l' c']) d
theorem RF.keeps {W W':World} {v:Value} {n d:Int} (h:RF W v n d) (k:Keeps G6 W W'):RF W' v n d:=by
 obtain ⟨g,s,l,c,g',s',l',c',e,h1,h2⟩:=h
 exact ⟨g,s,l,c,g',s',l',c',e,h1.keeps k,h2.keeps k⟩
theorem RF.rq {w:World} {v:Value} {n d:Int} {r:Rat} {E:Nat} (h:RF w v n d) (h0 : 0<d) (hr:Rat.divInt n d=r) (hn:n.natAbs<D^E) (hd:d.natAbs<D^E):RQ w v r E:=by
 obtain ⟨g,s,l,c,g',s',l',c',e,h1,h2⟩:=h
 exact ⟨g,s,l,c,g',s',l',c',n,d,e,h1,h2,h0,hr,hn,hd⟩
theorem RQ.rf {w:World} {v:Value} {r:Rat} {E:Nat} (h:RQ w v r E):∃ n d,RF w v n d/\0<d/\Rat.divInt n d=r/\n.natAbs<D^E/\d.natAbs<D^E:=by
 obtain ⟨g,s,l,c,g',s',l',c',n,d,e,h1,h2,h3⟩:=h
 exact ⟨n,d,⟨g,s,l,c,g',s',l',c',e,h1,h2⟩,h3.out⟩
def sRN (n:Nat):Sp := .of (.agg 1) (fun v W=>RefV W v n) (fun v W h=>by
 obtain ⟨s,k,cap,xs,rfl,_⟩:=h
 exact ⟨H8 [.slice s k cap],C5 (by simp [Value.oneCell']),rfl⟩) (fun v W W' k h=>h.keeps k)
def sR (z:Int):Sp := .of (.agg 2) (fun v W=>RIntV W v z) (fun v W h=>by
 obtain ⟨g,s,l,c,rfl,_⟩:=h
 exact ⟨H8 [.int .i64 g,.slice s l c],C5 (by simp [Value.oneCell']),rfl⟩) (fun v W W' k h=>h.keeps k)
def sRF (n d:Int):Sp := .of (.agg 4) (fun v W=>RF W v n d) (fun v W h=>by
 obtain ⟨g,s,l,c,g',s',l',c',rfl,_⟩:=h
 exact ⟨H8 [.int .i64 g,.slice s l c,.int .i64 g',.slice s' l' c'],C5 (by simp [Value.oneCell']),rfl⟩) (fun v W W' k h=>h.keeps k)
def sRNN (n m:Nat):Sp := .of (.tup [(none,2),(none,2)]) (fun v W=>∃ u t,v = .tuple #[u,t]/\RefV W u n/\RefV W t m) (fun v W h=>by
 obtain ⟨u,t,rfl,⟨s,k,c,_,rfl,_⟩,s',k',c',_,rfl,_⟩:=h
 exact Y4 (u := .bool true) (cs:=[.slice s k c,.slice s' k' c']) (by simp [Value.oneCell']) rfl) (fun v W W' k h=>by obtain ⟨u,t,e,h,h'⟩:=h;exact ⟨u,t,e,h.keeps k,h'.keeps k⟩)
def sRR (n m:Int):Sp := .of (.tup [(none,3),(none,3)]) (fun v W=>∃ u t,v = .tuple #[u,t]/\RIntV W u n/\RIntV W t m) (fun v W h=>by
 obtain ⟨u,t,rfl,⟨g,s,k,c,rfl,_⟩,g',s',k',c',rfl,_⟩:=h
 exact Y4 (u := .bool true) (cs:=[.int .i64 g,.slice s k c,.int .i64 g',.slice s' k' c']) (by simp [Value.oneCell']) rfl) (fun v W W' k h=>by obtain ⟨u,t,e,h,h'⟩:=h;exact ⟨u,t,e,h.keeps k,h'.keeps k⟩)
theorem rnn1 {n m:Nat} {a b:Value} {W:World} : (sRNN n m).F (.tuple #[a,b]) W->RefV W a n:=by rintro ⟨u,t,e,h,_⟩;cases e;exact h
theorem rr1 {n m:Int} {a b:Value} {W:World} : (sRR n m).F (.tuple #[a,b]) W->RIntV W a n:=by rintro ⟨u,t,e,h,_⟩;cases e;exact h
theorem rr2 {n m:Int} {a b:Value} {W:World} : (sRR n m).F (.tuple #[a,b]) W->RIntV W b m:=by rintro ⟨u,t,e,_,h⟩;cases e;exact h
theorem rs1 {W:World} {a b:Value} {z:Int} : RIntV W (.agg #[a,b]) z->a = .int .i64 z.sign:=by
 rintro ⟨g,s,l,c,e,h1,h2⟩;cases e;rw [show g=z.sign from h1]
theorem rs2 {W:World} {a b:Value} {z:Int} : RIntV W (.agg #[a,b]) z->RefV W (.agg #[b]) z.natAbs:=by
 rintro ⟨g,s,l,c,e,h1,h2⟩;cases e;exact h2
theorem rn {W:World} {a b c d:Value} {n m:Int} : RF W (.agg #[a,b,c,d]) n m->RIntV W (.agg #[a,b]) n:=by
 rintro ⟨g,s,l,k,g',s',l',k',e,h,h'⟩;cases e;exact h
theorem rd {W:World} {a b c d:Value} {n m:Int} : RF W (.agg #[a,b,c,d]) n m->RIntV W (.agg #[c,d]) m:=by
 rintro ⟨g,s,l,k,g',s',l',k',e,h,h'⟩;cases e;exact h'
theorem mkrf {W:World} {a b c d:Value} {n m:Int} (h:RIntV W (.agg #[a,b]) n) (h':RIntV W (.agg #[c,d]) m):RF W (.agg #[a,b,c,d]) n m:=by
 obtain ⟨g,s,l,k,e,h1⟩:=h
 obtain ⟨g',s',l',k',e',h1'⟩:=h'
 cases e;cases e'
 exact ⟨g,s,l,k,g',s',l',k',rfl,⟨g,s,l,k,rfl,h1⟩,g',s',l',k',rfl,h1'⟩
def RetRF (w:World) (n d:Int) (e:Ending) (w':World):Prop:=∃ v,e = .returned v/\RF w' v n d/\w.grownBy w' none
section
variable {P:Program} {f:FuncId} {args:Array Value} {W:World}
theorem toRNN {n m:Nat} (h:Calls P f args W (fun e w'=>∃ v u,e = .returned (.tuple #[v,u])/\RefV w' v n/\RefV w' u m/\W.grownBy w' none)):Calls P f args W (Ret W (sRNN n m).F):=
 h.mono fun _ _ ⟨v,u,a,h,h',g⟩=>⟨_,a,⟨v,u,rfl,h,h'⟩,g⟩
theorem toRR {n m:Int} (h:Calls P f args W (fun e w'=>∃ v u,e = .returned (.tuple #[v,u])/\RIntV w' v n/\RIntV w' u m/\W.grownBy w' none)):Calls P f args W (Ret W (sRR n m).F):=
 h.mono fun _ _ ⟨v,u,a,h,h',g⟩=>⟨_,a,⟨v,u,rfl,h,h'⟩,g⟩
end
theorem d51:(1:Int).natAbs<D^5:=by unfold D;decide
theorem dint {n:Int} (h1 : -9223372036854775808<=n) (h2:n<=9223372036854775807):n.natAbs<D^5:=by
 have:(100000000000000000000:Nat)=D^5:=by unfold D;decide
 omega
theorem rFOf_any (w:World) (n:Int) (h1 : -9223372036854775808<=n) (h2:n<=9223372036854775807) :
 Calls Tryz.prog 43 #[.int .i64 n] w (RetRF w n 1):=by
 refine A6 B5 Tryz.func43 [sZ n] [sR n,sR 1] (.cons rfl .nil) (rs:=[cl 1 28 [on 0],cl 2 28 [.v false [.lit (.int .i64 1)]]]) (out := .v true [.an 1 0,.an 1 1,.an 2 0,.an 2 1]) (nc:=3) (by kernel_rfl)
  ⟨fun σ W g h hb=>kG (h 0 rfl) (M3 W n h1 h2),
  fun σ W g h hb=>M3 W 1 (by omega) (by omega),
  trivial⟩ fun τ W g h=>⟨_,rfl,mkrf (h 1 rfl) (h 2 rfl),g⟩
theorem rFFrac_any (w:World) (n d:Int) (h1 : -9223372036854775808<=n) (h2:n<=9223372036854775807) (h3 : -9223372036854775808<=d) (h4:d<=9223372036854775807) :
 Calls Tryz.prog 47 #[.int .i64 n,.int .i64 d] w (RetRF w n d):=by
 refine A6 B5 Tryz.func47 [sZ n,sZ d] [sR n,sR d] (.cons rfl (.cons rfl .nil)) (rs:=[cl 2 28 [on 0],cl 3 28 [on 1]]) (out := .v true [.an 2 0,.an 2 1,.an 3 0,.an 3 1]) (nc:=4) (by kernel_rfl)
  ⟨fun σ W g h hb=>kG (h 0 rfl) (M3 W n h1 h2),
  fun σ W g h hb=>kG (h 1 rfl) (M3 W d h3 h4),
  trivial⟩ fun τ W g h=>⟨_,rfl,mkrf (h 2 rfl) (h 3 rfl),g⟩
theorem rFMul_any (w:World) (va vb:Value) (n d m e:Int) (Ha:RF w va n d) (Hb:RF w vb m e) (E:Nat) (hE:E<=400000) (l1:n.natAbs<D^E) (l2:d.natAbs<D^E) (l3:m.natAbs<D^E) (l4:e.natAbs<D^E) :
 Calls Tryz.prog 46 #[va,vb] w (RetRF w (n*m) (d*e)):=by
 refine A6 B5 Tryz.func46 [sRF n d,sRF m e] [sR (n*m),sR (d*e)] (.cons Ha (.cons Hb .nil)) (rs:=[cl 2 61 [ag 2 0,ag 2 1],cl 3 61 [.v true [.an 0 2,.an 0 3],.v true [.an 1 2,.an 1 3]]]) (out := .v true [.an 2 0,.an 2 1,.an 3 0,.an 3 1]) (nc:=4) (by kernel_rfl)
  ⟨fun σ W g h hb=>Q3 W _ _ _ _ (rn (h 0 rfl)) (rn (h 1 rfl)) (dp6 l1 (by omega)) (dp6 l3 (by omega)),
  fun σ W g h hb=>Q3 W _ _ _ _ (rd (h 0 rfl)) (rd (h 1 rfl)) (dp6 l2 (by omega)) (dp6 l4 (by omega)),
  trivial⟩ fun τ W g h=>⟨_,rfl,mkrf (h 2 rfl) (h 3 rfl),g⟩
theorem lV {x y:Int} (h:x=y):K7 x y=0:=by unfold K7;rw [if_neg (by omega),if_pos h]
theorem zcmp_ne {x y:Int} (h:x≠y):K7 x y≠0:=by unfold K7;split<;>simp [h]
theorem rFAdd_any (w:World) (va vb:Value) (n d m e:Int) (Ha:RF w va n d) (Hb:RF w vb m e) (E:Nat) (hE:E<=400000) (l1:n.natAbs<D^E) (l2:d.natAbs<D^E) (l3:m.natAbs<D^E) (l4:e.natAbs<D^E) :
 Calls Tryz.prog 44 #[va,vb] w (fun x w'=>∃ v,x = .returned v/\RF w' v (if d=e then n+m else n*e+m*d) (if d=e then d else d*e)/\w.grownBy w' none):=by
 by_cases h1:d=e
 · skip
   rw [if_pos h1,if_pos h1]
   refine A6 B5 Tryz.func44 [sRF n d,sRF m e] [sV (.int .i64 0),sR (n+m)] (.cons Ha (.cons Hb .nil)) (rs:=[cl 2 42 [.v true [.an 0 2,.an 0 3],.v true [.an 1 2,.an 1 3]],cl 3 60 [ag 2 0,ag 2 1]]) (out := .v true [.an 3 0,.an 3 1,.an 0 2,.an 0 3]) (nc:=4) (by kernel_rfl)
    ⟨fun σ W g h hb=>toV (aA W _ _ _ _ (rd (h 0 rfl)) (rd (h 1 rfl)) (dp6 l2 (by omega)) (dp6 l4 (by omega))) (by rw [lV h1]),
    fun σ W g h hb=>eB W _ _ _ _ (rn (h 0 rfl)) (rn (h 1 rfl)) (dp6 l1 (by omega)) (dp6 l3 (by omega)),
    trivial⟩ fun τ W g h=>⟨_,rfl,mkrf (h 3 rfl) (rd (h 0 rfl)),g⟩
 · skip
   rw [if_neg h1,if_neg h1]
   refine A6 B5 Tryz.func44 [sRF n d,sRF m e] [sZ (K7 d e),sV (.bool false),sR (n*e),sR (m*d),sR (n*e+m*d),sR (d*e)] (.cons Ha (.cons Hb .nil)) (rs:=[cl 2 42 [.v true [.an 0 2,.an 0 3],.v true [.an 1 2,.an 1 3]],co 3 (.binOp .eql 3 (.tmp 9) (.const (.int .i64 0)) 3) 4 [on 2,.v false [.lit (.int .i64 0)]] [0,1,2] [],cl 4 61 [ag 2 0,.v true [.an 1 2,.an 1 3]],cl 5 61 [ag 2 1,.v true [.an 0 2,.an 0 3]],cl 6 60 [ag 2 4,ag 2 5],cl 7 61 [.v true [.an 0 2,.an 0 3],.v true [.an 1 2,.an 1 3]]]) (out := .v true [.an 6 0,.an 6 1,.an 7 0,.an 7 1]) (nc:=8) (by kernel_rfl)
    ⟨fun σ W g h hb=>toZ (aA W _ _ _ _ (rd (h 0 rfl)) (rd (h 1 rfl)) (dp6 l2 (by omega)) (dp6 l4 (by omega))) rfl,
    fun σ W g h hb=>fun ρ o ho _ hv=>⟨_,E4 ho ((A4 hv).1.trans (h 2 rfl)) (A4 hv).2 rfl,congrArg Value.bool (beq_eq_false_iff_ne.2 (zcmp_ne h1))⟩,
    fun σ W g h hb=>Q3 W _ _ _ _ (rn (h 0 rfl)) (rd (h 1 rfl)) (dp6 l1 (by omega)) (dp6 l4 (by omega)),
    fun σ W g h hb=>Q3 W _ _ _ _ (rn (h 1 rfl)) (rd (h 0 rfl)) (dp6 l3 (by omega)) (dp6 l2 (by omega)),
    fun σ W g h hb=>eB W _ _ _ _ (h 4 rfl) (h 5 rfl) (dp6 (E1 l1 l4) (by omega)) (dp6 (E1 l3 l2) (by omega)),
    fun σ W g h hb=>Q3 W _ _ _ _ (rd (h 0 rfl)) (rd (h 1 rfl)) (dp6 l2 (by omega)) (dp6 l4 (by omega)),
    trivial⟩ fun τ W g h=>⟨_,rfl,mkrf (h 6 rfl) (h 7 rfl),g⟩
theorem W2 {x:Int} {G:Nat} (h:G ∣ x.natAbs) (hG : 0<G):(x / (G:Int)).natAbs=x.natAbs / G:=by
 obtain ⟨k,hk⟩:=Int.ofNat_dvd_left.2 h
 rw [hk,Int.mul_ediv_cancel_left _ (by omega),Int.natAbs_mul,Int.natAbs_natCast,Nat.mul_div_cancel_left _ hG]
theorem rq_low {n d:Int} {r:Rat} (hd : 0<d) (h:Rat.divInt n d=r):r.num.natAbs=n.natAbs / Nat.gcd n.natAbs d.natAbs/\((r.den:Nat):Int).natAbs=d.natAbs / Nat.gcd n.natAbs d.natAbs/\r.num.sign=n.sign/\0<Nat.gcd n.natAbs d.natAbs:=by
 have hp : 0<Nat.gcd n.natAbs d.natAbs:=Nat.gcd_pos_of_pos_right _ (by omega)
 have h1:=eU n d hd
 rw [h] at h1
 refine ⟨?_, ?_,(rq_sign hd h).symm,hp⟩
 · rw [h1.1];exact W2 (Nat.gcd_dvd_left _ _) hp
 · rw [h1.2];exact W2 (Nat.gcd_dvd_right _ _) hp
theorem rq_nle {n d:Int} {r:Rat} {E:Nat} (hd : 0<d) (h:Rat.divInt n d=r) (hn:n.natAbs<D^E):r.num.natAbs<D^E:=by
 rw [(rq_low hd h).1];exact Nat.lt_of_le_of_lt (Nat.div_le_self _ _) hn
theorem rq_dle {n d:Int} {r:Rat} {E:Nat} (hd : 0<d) (h:Rat.divInt n d=r) (hn:d.natAbs<D^E):((r.den:Nat):Int).natAbs<D^E:=by
 rw [(rq_low hd h).2.1];exact Nat.lt_of_le_of_lt (Nat.div_le_self _ _) hn
theorem bL {s:ByteArray} {z:Int} {E:Nat} (h:D5 s z) (hz:z.natAbs<D^E) (hE : 1<=E):s.size<=4*E+1:=by
 obtain ⟨l,hl,vl,el⟩:=h
 have h1:=dlen hl vl hz hE
 have h2:=congrArg List.length el
 rw [K6] at h2
 rw [h2]
 split
 · rw [List.length_cons];omega
 · omega
theorem mI (w:World) (va:Value) (n d:Int) (r:Rat) (Ha:RF w va n d) (E:Nat) (hE:E<=200000) (h0 : 0<d) (hr:Rat.divInt n d=r) (l1:n.natAbs<D^E) (l2:d.natAbs<D^E) :
 Calls Tryz.prog 40 #[va] w (fun e w'=>∃ v u,e = .returned (.tuple #[v,u])/\RIntV w' v r.num/\RIntV w' u (r.den:Int)/\w.grownBy w' none):=by
 have hl:=rq_low h0 hr
 obtain ⟨G,hG⟩:∃ G,Nat.gcd n.natAbs d.natAbs=G:=⟨_,rfl⟩
 rw [hG] at hl
 have gb:G<D^E:=by rw [<- hG];exact Nat.lt_of_le_of_lt (Nat.gcd_le_right _ (by omega)) l2
 have hs:n.natAbs / G=0\/r.num.sign=n.sign := .inr hl.2.2.1
 refine A6 B5 Tryz.func40 [sRF n d] [sRN G,sRNN (n.natAbs / G) (n.natAbs%G),sRNN (d.natAbs / G) (d.natAbs%G),sR r.num,sR (r.den:Int)] (.cons Ha .nil) (rs:=[cl 1 85 [.v true [.an 0 1],.v true [.an 0 3]],cl 2 86 [.v true [.an 0 1],ag 1 1],cl 3 86 [.v true [.an 0 3],ag 1 1],cl 4 65 [on 0,ag 1 2],cl 5 65 [.v false [.lit (.int .i64 1)],ag 1 3]]) (out := .tup [(true,[.an 4 0,.an 4 1]),(true,[.an 5 0,.an 5 1])]) (nc:=6) (by kernel_rfl)
  ⟨fun σ W g h hb=>hG ▸ rGcd_any W _ _ n.natAbs d.natAbs (rs2 (rn (h 0 rfl))) (rs2 (rd (h 0 rfl))) (dp4 l1 (by omega)) (dp4 l2 (by omega)),
  fun σ W g h hb=>toRNN (iX W _ _ _ _ (rs2 (rn (h 0 rfl))) (h 1 rfl) (dp4 l1 (by omega)) (dp4 gb (by omega)) hl.2.2.2),
  fun σ W g h hb=>toRNN (iX W _ _ _ _ (rs2 (rd (h 0 rfl))) (h 1 rfl) (dp4 l2 (by omega)) (dp4 gb (by omega)) hl.2.2.2),
  fun σ W g h hb=>argl (congrArg (fun x=>[x,_]) (rs1 (rn (h 0 rfl)))) (J4 W _ n.sign _ r.num (rnn1 (h 2 rfl)) hl.1 hs),
  fun σ W g h hb=>J4 W _ 1 _ (r.den:Int) (rnn1 (h 3 rfl)) hl.2.1 (.inr (Int.sign_eq_one_of_pos (by have:=r.den_pos;omega))),
  trivial⟩ fun τ W g h=>⟨_,_,rfl,h 4 rfl,h 5 rfl,g⟩
theorem rden_ne {r:Rat} (h:r.den≠1):K7 (r.den:Int) 1≠0:=zcmp_ne (by omega)
theorem rFText_any (w:World) (va:Value) (n d:Int) (r:Rat) (Ha:RF w va n d) (E:Nat) (hE : 1<=E/\E<=200000) (h0 : 0<d) (hr:Rat.divInt n d=r) (l1:n.natAbs<D^E) (l2:d.natAbs<D^E) :
 Calls Tryz.prog 12 #[va] w (kU w r):=by
 have b1:=rq_nle h0 hr l1
 have b2:=rq_dle h0 hr l2
 by_cases h1:r.den=1
 · skip
   refine A6 B5 Tryz.func12 [sRF n d] [sRR r.num (r.den:Int),sT (fun s=>D5 s r.num),sR 1,sV (.int .i64 0)] (.cons Ha .nil) (rs:=[cl 1 40 [ag 4 0],cl 2 41 [ag 2 1],cl 3 28 [.v false [.lit (.int .i64 1)]],cl 4 42 [.v true [.an 1 2,.an 1 3],ag 2 3]]) (out:=on 2) (nc:=5) (by kernel_rfl)
    ⟨fun σ W g h hb=>toRR (mI W _ n d r (h 0 rfl) E (by omega) h0 hr l1 l2),
    fun σ W g h hb=>toT (bU W _ _ (rr1 (h 1 rfl)) (dp6 b1 (by omega))),
    fun σ W g h hb=>M3 W 1 (by omega) (by omega),
    fun σ W g h hb=>toV (aA W _ _ _ _ (rr2 (h 1 rfl)) (h 3 rfl) (dp6 b2 (by omega)) (dp6 d51 (by omega))) (by rw [lV (by omega)]),
    trivial⟩ fun τ W g h=>by
     obtain ⟨s,e,hs⟩:=h 2 rfl
     exact ⟨s,congrArg Ending.returned e,.inl ⟨h1,hs⟩,g⟩
 · skip
   refine A6 B5 Tryz.func12 [sRF n d] [sRR r.num (r.den:Int),sT (fun s=>D5 s r.num),sR 1,sZ (K7 (r.den:Int) 1),sV (.bool true),sT (fun s=>∃ p,D5 p r.num/\s=p ++ { data := #[47] }),sT (fun s=>D5 s (r.den:Int)),sT (fun s=>I4 s r)] (.cons Ha .nil) (rs:=[cl 1 40 [ag 4 0],cl 2 41 [ag 2 1],cl 3 28 [.v false [.lit (.int .i64 1)]],cl 4 42 [.v true [.an 1 2,.an 1 3],ag 2 3],co 5 (.binOp .neq 3 (.tmp 15) (.const (.int .i64 0)) 3) 4 [on 4,.v false [.lit (.int .i64 0)]] [0,1,2,3,4] [],co 6 (.binOp .add 9 (.tmp 17) (.const (.string ({ data := #[47] }))) 9) 9 [on 2,.v false [.lit (.string ({ data := #[47] }))]] [0,1,2,3,4,5] [],cla 7 41 [.v true [.an 1 2,.an 1 3]] [0,1,2,3,4,5],co 8 (.binOp .add 9 (.tmp 18) (.tmp 20) 9) 9 [on 6,on 7] [0,1,2,3,4,5,6,7] []]) (out:=on 8) (nc:=9) (by kernel_rfl)
    ⟨fun σ W g h hb=>toRR (mI W _ n d r (h 0 rfl) E (by omega) h0 hr l1 l2),
    fun σ W g h hb=>toT (bU W _ _ (rr1 (h 1 rfl)) (dp6 b1 (by omega))),
    fun σ W g h hb=>M3 W 1 (by omega) (by omega),
    fun σ W g h hb=>toZ (aA W _ _ _ _ (rr2 (h 1 rfl)) (h 3 rfl) (dp6 b2 (by omega)) (dp6 d51 (by omega))) rfl,
    fun σ W g h hb=>fun ρ o ho _ hv=>⟨_,E4 ho ((A4 hv).1.trans (h 4 rfl)) (A4 hv).2 rfl,congrArg Value.bool (bne_iff_ne.2 (rden_ne h1))⟩,
    fun σ W g h hb=>fun ρ o ho _ hv=>by
     obtain ⟨s,e,hs⟩:=h 2 rfl
     exact ⟨_,T9 ho ((A4 hv).1.trans e) (A4 hv).2 (by have:=bL hs b1 hE.1;show s.size+1<=_;omega),_,rfl,s,hs,rfl⟩,
    fun σ W g h hb=>toT (bU W _ _ (rr2 (h 1 rfl)) (dp6 b2 (by omega))),
    fun σ W g h hb=>fun ρ o ho _ hv=>by
     obtain ⟨s,e,p,hp,rfl⟩:=h 6 rfl
     obtain ⟨t,e2,ht⟩:=h 7 rfl
     exact ⟨_,T9 ho ((A4 hv).1.trans e) ((A4 hv).2.trans e2) (by have h3:=bL hp b1 hE.1;have h4:=bL ht b2 hE.1;simp only [ByteArray.size_append];have:({ data := #[47] } : ByteArray).size=1:=rfl;omega),_,rfl,.inr ⟨h1,p,t,hp,ht,rfl⟩⟩,
    trivial⟩ fun τ W g h=>by
     obtain ⟨s,e,hs⟩:=h 8 rfl
     exact ⟨s,congrArg Ending.returned e,hs,g⟩
end Go.Proofs.YtninnifpgpjfhaaGreatDoor
namespace Go.Proofs.YtninnifpgpjfhaaGreatDoor
open Go.RowKit Mat Ex PM
structure H3 where
 x:Int
 y:Int
 z:Int
def rp (a:H3):Pq:=(Rat.divInt a.x a.z,Rat.divInt a.y a.z)
def HB (E:Nat) (a:H3):Prop:=a.x.natAbs<D^E/\a.y.natAbs<D^E/\a.z.natAbs<D^E
theorem HB.mono {E M:Nat} {a:H3} (h:HB E a) (hE:E<=M):HB M a:=⟨dpw h.1 hE,dpw h.2.1 hE,dpw h.2.2 hE⟩
def HV (w:World) (v:Value) (p:H3):Prop:=∃ a b c d e f:Value,v = .agg #[a,b,c,d,e,f]/\RIntV w (.agg #[a,b]) p.x/\RIntV w (.agg #[c,d]) p.y/\RIntV w (.agg #[e,f]) p.z
theorem HV.keeps {W W':World} {v:Value} {p:H3} (h:HV W v p) (k:Keeps G6 W W'):HV W' v p:=by
 obtain ⟨a,b,c,d,e,f,q,h1,h2,h3⟩:=h
 exact ⟨a,b,c,d,e,f,q,h1.keeps k,h2.keeps k,h3.keeps k⟩
theorem HV.kept {w w':World} {v:Value} {p:H3} (h:HV w v p) (g:w.grownBy w' none):HV w' v p:=by
 obtain ⟨a,b,c,d,e,f,q,h1,h2,h3⟩:=h
 exact ⟨a,b,c,d,e,f,q,h1.kept g,h2.kept g,h3.kept g⟩
theorem RIntV.one {w:World} {a b:Value} {z:Int} (h:RIntV w (.agg #[a,b]) z):a.oneCell'=true/\b.oneCell'=true:=by
 obtain ⟨g,s,l,c,e,_⟩:=h;cases e;exact ⟨rfl,rfl⟩
theorem HV.one {w:World} {a b c d e f:Value} {p:H3} (h:HV w (.agg #[a,b,c,d,e,f]) p):∀ x ∈ [a,b,c,d,e,f],x.oneCell'=true:=by
 obtain ⟨_,_,_,_,_,_,q,h1,h2,h3⟩:=h
 cases q
 simp [h1.one,h2.one,h3.one]
def sH (p:H3):Sp := .of (.agg 6) (fun v W=>HV W v p) (fun v W h=>by
 have h0:=h
 obtain ⟨a,b,c,d,e,f,rfl,_⟩:=h
 exact ⟨H8 [a,b,c,d,e,f],C5 h0.one,rfl⟩) (fun v W W' k h=>h.keeps k)
theorem h31 {W:World} {a b c d e f:Value} {p:H3} : HV W (.agg #[a,b,c,d,e,f]) p->RIntV W (.agg #[a,b]) p.x:=by rintro ⟨_,_,_,_,_,_,q,h1,h2,h3⟩;cases q;exact h1
theorem h32 {W:World} {a b c d e f:Value} {p:H3} : HV W (.agg #[a,b,c,d,e,f]) p->RIntV W (.agg #[c,d]) p.y:=by rintro ⟨_,_,_,_,_,_,q,h1,h2,h3⟩;cases q;exact h2
theorem h33 {W:World} {a b c d e f:Value} {p:H3} : HV W (.agg #[a,b,c,d,e,f]) p->RIntV W (.agg #[e,f]) p.z:=by rintro ⟨_,_,_,_,_,_,q,h1,h2,h3⟩;cases q;exact h3
theorem mkh {W:World} {a b c d e f:Value} {p:H3} (h1:RIntV W (.agg #[a,b]) p.x) (h2:RIntV W (.agg #[c,d]) p.y) (h3:RIntV W (.agg #[e,f]) p.z):HV W (.agg #[a,b,c,d,e,f]) p:=⟨_,_,_,_,_,_,rfl,h1,h2,h3⟩
def RetH (w:World) (p:H3) (e:Ending) (w':World):Prop:=∃ v,e = .returned v/\HV w' v p/\w.grownBy w' none
def HsV (w:World) (v:Value) (p q:H3):Prop:=∃ a b c d e f a' b' c' d' e' f':Value,v = .agg #[a,b,c,d,e,f,a',b',c',d',e',f']/\HV w (.agg #[a,b,c,d,e,f]) p/\HV w (.agg #[a',b',c',d',e',f']) q
theorem HsV.keeps {W W':World} {v:Value} {p q:H3} (h:HsV W v p q) (k:Keeps G6 W W'):HsV W' v p q:=by
 obtain ⟨a,b,c,d,e,f,a',b',c',d',e',f',e1,h1,h2⟩:=h
 exact ⟨a,b,c,d,e,f,a',b',c',d',e',f',e1,h1.keeps k,h2.keeps k⟩
theorem hs1 {W:World} {a b c d e f a' b' c' d' e' f':Value} {p q:H3} : HsV W (.agg #[a,b,c,d,e,f,a',b',c',d',e',f']) p q->HV W (.agg #[a,b,c,d,e,f]) p:=by
 rintro ⟨_,_,_,_,_,_,_,_,_,_,_,_,e,h1,h2⟩;cases e;exact h1
theorem hs2 {W:World} {a b c d e f a' b' c' d' e' f':Value} {p q:H3} : HsV W (.agg #[a,b,c,d,e,f,a',b',c',d',e',f']) p q->HV W (.agg #[a',b',c',d',e',f']) q:=by
 rintro ⟨_,_,_,_,_,_,_,_,_,_,_,_,e,h1,h2⟩;cases e;exact h2
def HAt (w:World) (cs:Array Value) (o:Nat) (p:H3):Prop:=∃ a b c d e f:Value,cs[o]?=some a/\cs[o+1]?=some b/\cs[o+2]?=some c/\cs[o+3]?=some d/\cs[o+4]?=some e/\cs[o+5]?=some f/\HV w (.agg #[a,b,c,d,e,f]) p
theorem HAt.keeps {W W':World} {cs:Array Value} {o:Nat} {p:H3} (h:HAt W cs o p) (k:Keeps G6 W W'):HAt W' cs o p:=by
 obtain ⟨a,b,c,d,e,f,h1,h2,h3,h4,h5,h6,h7⟩:=h
 exact ⟨a,b,c,d,e,f,h1,h2,h3,h4,h5,h6,h7.keeps k⟩
def HrV (w:World) (v:Value) (l:List H3):Prop:=∃ s n c,v = .slice s n c/\l.length=n/\n<=c/\(l=[] \/ ∃ b off cs,s=some ⟨b,off,none⟩/\w.heap[b]?=some (.cells cs 43 (0,0)) /\ ∀ i (h:i<l.length),HAt w cs (off+6*i) l[i])
theorem HrV.keeps {W W':World} {v:Value} {l:List H3} (h:HrV W v l) (k:Keeps G6 W W') (hq:∀ q,fpS v q->W'.heap[q]?=W.heap[q]?):HrV W' v l:=by
 obtain ⟨s,n,c,rfl,hl,hn,h⟩:=h
 refine ⟨s,n,c,rfl,hl,hn, ?_⟩
 by_cases h0:l=[]
 · exact .inl h0
 · obtain ⟨b,off,cs,rfl,hb,hc⟩:=h.resolve_left h0
   obtain ⟨m,rfl⟩:∃ m,n=m+1:=⟨n-1,by have:=List.length_pos_iff.2 h0;omega⟩
   exact .inr ⟨b,off,cs,rfl,by rw [hq b ⟨off,m,c,rfl⟩];exact hb,fun i hi=>(hc i hi).keeps k⟩
theorem HrV.inb {W:World} {v:Value} {l:List H3} (h:HrV W v l) (q:Nat) (hq:fpS v q):q<W.heap.size:=by
 obtain ⟨s,n,c,rfl,hl,hn,h⟩:=h
 obtain ⟨off,m,c',e⟩:=hq
 cases e
 rcases h with h | ⟨b,off',cs,e,hb,_⟩
 · rw [h] at hl;simp at hl
 · cases e;exact (Array.getElem?_eq_some_iff.1 hb).1
def sHr (s0:Nat) (l:List H3):Sp where
 sh := .one
 F v W:=HrV W v l /\ ∀ q,fpS v q->s0<=q
 fits v W h:=by obtain ⟨⟨s,n,c,rfl,_⟩,_⟩:=h;exact ⟨fun _ => .slice s n c,fun _=>rfl,rfl⟩
 row:=true
 fp v _ q:=fpS v q
 lasts v W W' k hq h:=⟨⟨h.1.keeps k hq,h.2⟩,fun _ h=>h⟩
 inb v W h q hq:=h.1.inb q hq
 flat h:=by cases h
def HaV (w:World) (v:Value) (p:H3):Prop:=∃ b off cs,v = .pointer (some ⟨b,off,none⟩)/\w.heap[b]?=some (.cells cs 43 (0,0))/\HAt w cs off p
def sHa (p:H3):Sp where
 sh := .one
 F v W:=HaV W v p
 fits v W h:=by obtain ⟨b,off,cs,rfl,_⟩:=h;exact ⟨fun _ => .pointer (some ⟨b,off,none⟩),fun _=>rfl,rfl⟩
 row:=true
 fp v _ q:=fpP v q
 lasts v W W' k hq h:=by
  obtain ⟨b,off,cs,rfl,hb,hc⟩:=h
  exact ⟨⟨b,off,cs,rfl,by rw [hq b ⟨off,rfl⟩];exact hb,hc.keeps k⟩,fun _ h=>h⟩
 inb v W h q hq:=by
  obtain ⟨b,off,cs,rfl,hb,hc⟩:=h
  obtain ⟨o,e⟩:=hq
  cases e;exact (Array.getElem?_eq_some_iff.1 hb).1
 flat h:=by cases h
section
variable {P:Program} {ρ : Operand->Value} {o:Oper} {W:World}
theorem hr_len {t:TypeId} {x:Operand} {v:Value} {l:List H3} (h:HrV W v l) (ho:o.op = .call ⟨.builtin .len, #[x], #[t]⟩) (hx : ρ x=v) (hu:∃ el,Tryz.prog.underlying t=some (.slice el)) :
 (execOp ρ o).run Tryz.prog W = .ok (.value (.int .i64 l.length)) W:=by
 obtain ⟨s,n,c,rfl,hl,hn,h⟩:=h
 obtain ⟨el,hu⟩:=hu
 simp [execOp,ho,resolve,invoke,builtin,Builtin.len_,run_underlying hu W,hx,goInt,hl]
theorem hr_at {x y:Operand} {v:Value} {l:List H3} (h:HrV W v l) (ho:o.op = .indexAddr 24 x y) (hx : ρ x=v) (k:Nat) (hk:k<l.length) (hy : ρ y = .int .i64 k) :
 ∃ u,(execOp ρ o).run Tryz.prog W = .ok (.value u) W/\HaV W u l[k] /\ ∀ q,fpP u q->fpS v q:=by
 obtain ⟨s,n,c,rfl,hl,hn,h⟩:=h
 obtain ⟨b,off,cs,rfl,hb,hc⟩:=h.resolve_left (fun e=>by rw [e] at hk;simp at hk)
 have hu:Tryz.prog.underlying 24=some (.slice 43):=by kernel_rfl
 have hz:I7 Tryz.prog 43=some 6:=by kernel_rfl
 obtain ⟨m,rfl⟩:∃ m,n=m+1:=⟨n-1,by omega⟩
 have hk':(0:Int)<=(k:Int)/\(k:Int)<((m+1:Nat):Int):=by omega
 refine ⟨.pointer (some ⟨b,off+6*k,none⟩), ?_,⟨b,off+6*k,cs,rfl,hb,hc k hk⟩,fun q ⟨o',e⟩=>by cases e;exact ⟨off,m,c,rfl⟩⟩
 simp only [execOp,ho,hx,hy,Instr.indexAt,asIntOf,Sem.run_bind,Sem.run_pure,run_underlying hu W,Result.andThen_ok,hk',and_self,if_true,D3 Tryz.prog hz W,Instr.sureAddr,Addr.add_mid]
 rw [show (k:Int).toNat*6=6*k by omega]
theorem oT {x:Operand} {v:Value} {p:H3} (h:HaV W v p) (ho:o.op = .load 43 x) (hx : ρ x=v) :
 ∃ u,(execOp ρ o).run Tryz.prog W = .ok (.value u) W/\HV W u p:=by
 obtain ⟨q,off,cs,rfl,hb,a,b,c,d,e,f,h1,h2,h3,h4,h5,h6,hp⟩:=h
 refine ⟨_, ?_,hp⟩
 have ha:lQ Tryz.prog 43=some true:=by kernel_rfl
 have hz:I7 Tryz.prog 43=some 6:=by kernel_rfl
 have hl:(loadCells ⟨q,off,none⟩ [a,b,c,d,e,f].length).run Tryz.prog W = .ok [a,b,c,d,e,f].toArray W:=
  run_loadCells_list (P:=Tryz.prog) W ⟨q,off,none⟩ _ fun j v hv=>by
   rw [Addr.add_mid]
   simp only [World.cell?,hb]
   match j,hv with
   | 0,hv=>cases hv;simpa using h1
   | 1,hv=>cases hv;simpa using h2
   | 2,hv=>cases hv;simpa using h3
   | 3,hv=>cases hv;simpa using h4
   | 4,hv=>cases hv;simpa using h5
   | 5,hv=>cases hv;simpa using h6
   | n+6,hv=>simp at hv
 simp only [execOp,ho,hx,Instr.loadAt,Instr.sureAddr,loadVar,Sem.run_bind,Sem.run_pure,Result.andThen_ok,M8 Tryz.prog ha W,D3 Tryz.prog hz W,if_true]
 simp only [List.length_cons,List.length_nil] at hl
 rw [hl];rfl
end
def hlx (a b:H3):Int:=b.x*a.z-a.x*b.z
def hly (a b:H3):Int:=b.y*a.z-a.y*b.z
def hcr (a b c:H3):Int:=hlx a b*hly a c-hly a b*hlx a c
def hdt (a b c:H3):Int:=hlx a b*hlx a c+hly a b*hly a c
def hdn (a b c:H3):Int:=a.z*a.z*(b.z*c.z)
theorem HB.less {E:Nat} {a b:H3} (ha:HB E a) (hb:HB E b):(hlx a b).natAbs<D^(E+E+1)/\(hly a b).natAbs<D^(E+E+1):=by
 unfold hlx hly
 constructor<;>rw [Int.sub_eq_add_neg]
 · exact aP (E1 hb.1 ha.2.2) (oZ (E1 ha.1 hb.2.2))
 · exact aP (E1 hb.2.1 ha.2.2) (oZ (E1 ha.2.1 hb.2.2))
theorem HB.cr {E:Nat} {a b c:H3} (ha:HB E a) (hb:HB E b) (hc:HB E c):(hcr a b c).natAbs<D^(4*E+3)/\(hdt a b c).natAbs<D^(4*E+3)/\(hdn a b c).natAbs<D^(4*E+3):=by
 have h1:=ha.less hb
 have h2:=ha.less hc
 refine ⟨?_, ?_, ?_⟩
 · unfold hcr;rw [Int.sub_eq_add_neg]
   exact dpw (aP (E1 h1.1 h2.2) (oZ (E1 h1.2 h2.1))) (by omega)
 · unfold hdt
   exact dpw (aP (E1 h1.1 h2.1) (E1 h1.2 h2.2)) (by omega)
 · unfold hdn
   exact dpw (E1 (E1 ha.2.2 ha.2.2) (E1 hb.2.2 hc.2.2)) (by omega)
theorem q_of {n d:Int} : Rat.divInt n d=(n:Rat) / (d:Rat):=Rat.divInt_eq_div n d
theorem hz {z:Int} (h : 0<z):(z:Rat)≠0:=by
 intro e
 have:z=0:=by exact_mod_cast e
 omega
theorem hdn_pos {a b c:H3} (ha : 0<a.z) (hb : 0<b.z) (hc : 0<c.z) : 0<hdn a b c:=Int.mul_pos (Int.mul_pos ha ha) (Int.mul_pos hb hc)
theorem rp_cross {a b c:H3} (ha : 0<a.z) (hb : 0<b.z) (hc : 0<c.z):Rat.divInt (hcr a b c) (hdn a b c)=A3 (rp a) (rp b) (rp c):=by
 have h1:=hz ha;have h2:=hz hb;have h3:=hz hc
 unfold hcr hdn hlx hly A3 rp
 simp only [q_of,Rat.intCast_mul,Rat.intCast_sub]
 generalize (a.z:Rat)=az at *;generalize (b.z:Rat)=bz at *;generalize (c.z:Rat)=cz at *
 generalize (a.x:Rat)=ax;generalize (b.x:Rat)=bx;generalize (c.x:Rat)=cx
 generalize (a.y:Rat)=ay;generalize (b.y:Rat)=byy;generalize (c.y:Rat)=cy
 grind
end Go.Proofs.YtninnifpgpjfhaaGreatDoor
namespace Go.Proofs.YtninnifpgpjfhaaGreatDoor
open Go.RowKit Mat
set_option maxHeartbeats 8000000 in
theorem rZSub_any (w:World) (va vb:Value) (x y:Int) (Ha:RIntV w va x) (Hb:RIntV w vb y) (la':x.natAbs<D^1000000) (lb':y.natAbs<D^1000000) :
 Calls Tryz.prog 126 #[va,vb] w (F0 w (x-y)):=by
 have Hla:=Lib.hid la'
 have Hlb:=Lib.hid lb'
 clear la' lb'
 obtain ⟨ga,sa,la,ca,rfl,ha,ma⟩:=Ha
 obtain ⟨gb,sb,lb,cb,rfl,hb,mb⟩:=Hb
 have hG:w.grownBy (((w.alloc (.cells #[.int .i64 ga,.slice sa la ca] 41)).alloc (.cells #[.int .i64 gb,.slice sb lb cb] 41)).alloc (.cells #[.int .i64 0,.slice none 0 0] 41)) none:=(A5 (A5 (World.grownBy_alloc _ _ _) _) _)
 have Ba:=A0 (A5 (World.grownBy_alloc _ (.cells #[.int .i64 gb,.slice sb lb cb] 41) none) (.cells #[.int .i64 0,.slice none 0 0] 41)) (A8 w (.cells #[.int .i64 ga,.slice sa la ca] 41) (w.heap.size) rfl)
 have Bb:=A0 (World.grownBy_alloc _ (.cells #[.int .i64 0,.slice none 0 0] 41) none) (A8 (w.alloc (.cells #[.int .i64 ga,.slice sa la ca] 41)) (.cells #[.int .i64 gb,.slice sb lb cb] 41) (w.heap.size+1) (by simp))
 have Bq:=(A8 ((w.alloc (.cells #[.int .i64 ga,.slice sa la ca] 41)).alloc (.cells #[.int .i64 gb,.slice sb lb cb] 41)) (.cells #[.int .i64 0,.slice none 0 0] 41) (w.heap.size+1+1) (by simp))
 have ra:RIntV (((w.alloc (.cells #[.int .i64 ga,.slice sa la ca] 41)).alloc (.cells #[.int .i64 gb,.slice sb lb cb] 41)).alloc (.cells #[.int .i64 0,.slice none 0 0] 41)) (.agg #[.int .i64 ga,.slice sa la ca]) (x):=⟨ga,sa,la,ca,rfl,ha,ma.kept hG⟩
 have rb:RIntV (((w.alloc (.cells #[.int .i64 ga,.slice sa la ca] 41)).alloc (.cells #[.int .i64 gb,.slice sb lb cb] 41)).alloc (.cells #[.int .i64 0,.slice none 0 0] 41)) (.agg #[.int .i64 gb,.slice sb lb cb]) (y):=⟨gb,sb,lb,cb,rfl,hb,mb.kept hG⟩
 have oa:RIntV w (.agg #[.int .i64 ga,.slice sa la ca]) (x):=⟨ga,sa,la,ca,rfl,ha,ma⟩
 clear ma
 have ob:RIntV w (.agg #[.int .i64 gb,.slice sb lb cb]) (y):=⟨gb,sb,lb,cb,rfl,hb,mb⟩
 clear mb
 go_enter Tryz.func126,Tryz.ntmps126
 have HN:Hid ((-y).natAbs<D^1000000):=Lib.hid (neg_lt Hlb.out)
 have HE:Hid (x + -y=x-y):=by show _=_;omega
 obtain ⟨Ca0,Ca1,Fa0,Fa1⟩:=A2 Ba
 obtain ⟨Cb0,Cb1,Fb0,Fb1⟩:=A2 Bb
 obtain ⟨Cq0,Cq1,Fq0,Fq1⟩:=A2 Bq
 go_wp2_with fail
 generalize (((w.alloc (.cells #[.int .i64 ga,.slice sa la ca] 41)).alloc (.cells #[.int .i64 gb,.slice sb lb cb] 41)).alloc (.cells #[.int .i64 0,.slice none 0 0] 41))=w0 at *
 go_region_held3 (fun w'=>w'.cell? ⟨w.heap.size,0,none⟩=some (.int .i64 ga)/\w'.cell? ⟨w.heap.size,1,none⟩=some (.slice sa la ca)/\w'.cell? ⟨w.heap.size+1,0,none⟩=some (.int .i64 gb)/\w'.cell? ⟨w.heap.size+1,1,none⟩=some (.slice sb lb cb))
  (first | assumption | exact ⟨Ca0,Ca1,Cb0,Cb1⟩ | exact HSw1_20 | go_keep)
  (first
   | (go_at_call 143;(with_reducible refine (rNeg_any w0.drew _ y (rb.kept (B3 (A7 _ _)))).mono ?_);rintro e w1_1 ⟨vp,rfl,rp,gw1_1⟩;have hGw1_1:=D7 w0 gw1_1 rfl rfl rfl rfl;have hSw1_1:=(And.intro (hGw1_1.cell Ca0 (by simp)) (And.intro (hGw1_1.cell Ca1 (by simp)) (And.intro (hGw1_1.cell Cb0 (by simp)) (hGw1_1.cell Cb1 (by simp)))));clear gw1_1)
   | (go_at_call 60;(with_reducible refine (eB w1_1 _ _ x (-y) (ra.kept hGw1_1) rp Hla.out HN.out).mono ?_);rintro e w1_2 ⟨_,rfl,⟨gd,sd,ld,cd,rfl,hd,md⟩,gw1_2⟩;have hGw1_2:=A1 hGw1_1 gw1_2;replace rp:=rp.kept gw1_2;have rd:RIntV w1_2 (.agg #[.int .i64 gd,.slice sd ld cd]) (x + -y):=⟨gd,sd,ld,cd,rfl,hd,md⟩;have hSw1_2:=(And.intro (hGw1_2.cell Ca0 (by simp)) (And.intro (hGw1_2.cell Ca1 (by simp)) (And.intro (hGw1_2.cell Cb0 (by simp)) (hGw1_2.cell Cb1 (by simp)))));clear gw1_2;clear md;(obtain ⟨dq0,dq1,dq2,dq3⟩:=A2 (A0 hGw1_2 Bq));have HSw1_20:=(And.intro ((A2 (B4 (A0 hGw1_2 Ba) (show w.heap.size≠w.heap.size+1+1 by omega) (.int .i64 gd) (.slice sd ld cd))).1) (And.intro ((A2 (B4 (A0 hGw1_2 Ba) (show w.heap.size≠w.heap.size+1+1 by omega) (.int .i64 gd) (.slice sd ld cd))).2.1) (And.intro ((A2 (B4 (A0 hGw1_2 Bb) (show w.heap.size+1≠w.heap.size+1+1 by omega) (.int .i64 gd) (.slice sd ld cd))).1) ((A2 (B4 (A0 hGw1_2 Bb) (show w.heap.size+1≠w.heap.size+1+1 by omega) (.int .i64 gd) (.slice sd ld cd))).2.1))))))
 replace Ba:=A0 hGw1_2 Ba
 replace Bb:=A0 hGw1_2 Bb
 replace Bq:=A0 hGw1_2 Bq
 replace ra:=ra.kept hGw1_2
 replace rb:=rb.kept hGw1_2
 replace hG:=A1 hG hGw1_2
 clear Ca0 Fa0 Ca1 Fa1 Cb0 Fb0 Cb1 Fb1 Cq0 Fq0 Cq1 Fq1
 rw [<- HE.out]
 obtain ⟨k90,k91,k92,k93⟩:=A2 Bq
 obtain ⟨q90,q91,q92,q93⟩:=A2 (C2 Bq (.int .i64 gd) (.slice sd ld cd))
 have hF:Hid (F0 w (x + -y) (.returned (.agg #[.int .i64 gd,.slice sd ld cd])) ((w1_2.setCell ⟨w.heap.size+1+1,0,none⟩ (.int .i64 gd)).setCell ⟨w.heap.size+1+1,1,none⟩ (.slice sd ld cd))):=K9 hG Bq (by omega) rd
 clear ra rb rp rd
 go_wp2_with fail
 exact bodyPost_ret (v := .agg #[.int .i64 gd,.slice sd ld cd]) (by simp [results,Tryz.results126,go_sem,q90,q91]) rfl hF.out
end Go.Proofs.YtninnifpgpjfhaaGreatDoor
namespace Go.Proofs.YtninnifpgpjfhaaGreatDoor
open Go.RowKit Mat Ex PM
def RetRR (w:World) (n m:Int) (e:Ending) (w':World):Prop:=∃ v u,e = .returned (.tuple #[v,u])/\RIntV w' v n/\RIntV w' u m/\w.grownBy w' none
def sDt (x y d:Int):Sp := .of (.agg 3) (fun v _=>v = .agg #[.int .i64 x,.int .i64 y,.int .i64 d]) (fun v W h=>⟨H8 [.int .i64 x,.int .i64 y,.int .i64 d],C5 (by simp [Value.oneCell']),h⟩) (fun _ _ _ _ h=>h)
theorem dt1 {x y d:Int} {a b c:Value} {W:World} : (sDt x y d).F (.agg #[a,b,c]) W->a = .int .i64 x:=fun h=>by cases h;rfl
theorem dt2 {x y d:Int} {a b c:Value} {W:World} : (sDt x y d).F (.agg #[a,b,c]) W->b = .int .i64 y:=fun h=>by cases h;rfl
theorem dt3 {x y d:Int} {a b c:Value} {W:World} : (sDt x y d).F (.agg #[a,b,c]) W->c = .int .i64 d:=fun h=>by cases h;rfl
def und (d:Int):Int:=1+(IntKind.u64.wrap d)%60
theorem cJ (d:Int) : 0<und d/\und d<=60:=by unfold und;omega
theorem wrap_at (d:Int) : 0<=IntKind.u64.wrap d/\IntKind.u64.wrap d<18446744073709551616:=by
 simp [IntKind.wrap,IntKind.signed,IntKind.bits];omega
theorem G9 {ρ : Operand->Value} {x:Operand} {u:Value} (h:[x].map ρ=[u]) : ρ x=u:=by simpa using h
theorem conv_int {P:Program} {ρ : Operand->Value} {o:Oper} {t t':TypeId} {x:Operand} {k k0 k1:IntKind} {d:Int} {W:World} (ho:o.op = .convert t t' x) (hx : ρ x = .int k0 d) (h0:P.underlying t=some (.int k1)) (h1:P.underlying t'=some (.int k)):(execOp ρ o).run P W = .ok (.value (.int k (k.wrap d))) W:=by
 simp only [execOp,ho,hx,convert,Sem.run_bind,run_underlying h0 W,run_underlying h1 W,Result.andThen_ok,Conv.intToInt,Sem.run_pure]
theorem conv_ui {ρ : Operand->Value} {o:Oper} {x:Operand} {d:Int} {W:World} (ho:o.op = .convert 3 73 x) (hx : ρ x = .int .i64 d):(execOp ρ o).run Tryz.prog W = .ok (.value (.int .u64 (IntKind.u64.wrap d))) W:=
 conv_int (k1 := .i64) ho hx (by kernel_rfl) (by kernel_rfl)
theorem conv_iu {ρ : Operand->Value} {o:Oper} {x:Operand} {d:Int} {W:World} (ho:o.op = .convert 73 3 x) (hx : ρ x = .int .u64 d) (h0 : 0<=d) (h1:d<=1000):(execOp ρ o).run Tryz.prog W = .ok (.value (.int .i64 d)) W:=by
 rw [conv_int (k1 := .u64) (k := .i64) ho hx (by kernel_rfl) (by kernel_rfl),show IntKind.i64.wrap d=d by simp [IntKind.wrap,IntKind.signed,IntKind.bits];omega]
theorem rem_told {P:Program} {ρ : Operand->Value} {o:Oper} {t t':TypeId} {x y:Operand} {d k:Int} {W:World} (ho:o.op = .binOp .rem t x y t') (hx : ρ x = .int .u64 (IntKind.u64.wrap d)) (hy : ρ y = .int .u64 k) (hk : 0<k:=by omega):(execOp ρ o).run P W = .ok (.value (.int .u64 (IntKind.u64.wrap d%k))) W:=by
 have h0:=wrap_at d
 have hm:(IntKind.u64.wrap d).tmod k=IntKind.u64.wrap d%k:=Int.tmod_eq_emod_of_nonneg h0.1
 have hg:eqGuard .rem t x y (.int .u64 (IntKind.u64.wrap d)) (.int .u64 k)=pure ():=by unfold eqGuard;rfl
 have hb:binOp .rem t (.int .u64 (IntKind.u64.wrap d)) (.int .u64 k)=pure (.int .u64 (IntKind.u64.wrap d%k)):=by
  rw [<- hm]
  show Op.intDiv .rem .u64 _ k=_
  unfold Op.intDiv
  rw [if_neg (by omega)]
 simp only [execOp,ho,hx,hy,hg,hb,Sem.run_bind,Sem.run_pure,Result.andThen_ok]
theorem dJ {t:TypeId} {x y:Int} (h0 : 0<=x+y) (h1:x+y<=1000):binOp .add t (.int .i64 x) (.int .i64 y) = .pure (.int .i64 (x+y)):=by
 show Sem.pure (Value.int .i64 (IntKind.i64.wrap (x+y)))=_
 rw [show IntKind.i64.wrap (x+y)=x+y by simp [IntKind.wrap,IntKind.signed,IntKind.bits];omega]
theorem X4 (w:World) (x y d:Int) :
 Calls Tryz.prog 27 #[.agg #[.int .i64 x,.int .i64 y,.int .i64 d]] w (fun e w'=>e = .returned (.int .i64 (und d))/\w.grownBy w' none):=by
 refine A6 B5 Tryz.func27 [sDt x y d] [sC (.int .u64 (IntKind.u64.wrap d)) rfl,sC (.int .u64 (IntKind.u64.wrap d%60)) rfl,sZ (IntKind.u64.wrap d%60),sZ (und d)] (.cons rfl .nil) (rs:=[co 1 (.convert 3 73 (.tmp 4)) 73 [.v false [.an 0 2]] [0] [],co 2 (.binOp .rem 73 (.tmp 5) (.const (.int .u64 60)) 73) 73 [on 1,.v false [.lit (.int .u64 60)]] [0,1] [],co 3 (.convert 73 3 (.tmp 6)) 3 [on 2] [0,1,2] [],co 4 (.binOp .add 3 (.const (.int .i64 1)) (.tmp 7) 3) 3 [.v false [.lit (.int .i64 1)],on 3] [0,1,2,3] []]) (out:=on 4) (nc:=5) (by kernel_rfl)
  ⟨fun σ W g h hb=>fun ρ o ho _ hv=>⟨_,conv_ui ho ((G9 hv).trans (dt3 (h 0 rfl))),rfl⟩,
  fun σ W g h hb=>fun ρ o ho _ hv=>⟨_,rem_told ho ((A4 hv).1.trans (h 1 rfl)) (A4 hv).2,rfl⟩,
  fun σ W g h hb=>fun ρ o ho _ hv=>⟨_,conv_iu ho ((G9 hv).trans (h 2 rfl)) (by omega) (by omega),rfl⟩,
  fun σ W g h hb=>fun ρ o ho _ hv=>⟨_,E4 ho (A4 hv).1 ((A4 hv).2.trans (h 3 rfl)) (dJ (by omega) (by omega)),rfl⟩,
  trivial⟩ fun τ W g h=>⟨congrArg Ending.returned (h 4 rfl),g⟩
theorem bD (d:Int) : -9223372036854775808<=und d/\und d<=9223372036854775807:=by have:=cJ d;omega
theorem rHAt_any (w:World) (x y d:Int) (h1 : -9223372036854775808<=x) (h2:x<=9223372036854775807) (h3 : -9223372036854775808<=y) (h4:y<=9223372036854775807) :
 Calls Tryz.prog 8 #[.agg #[.int .i64 x,.int .i64 y,.int .i64 d]] w (RetH w ⟨x,y,und d⟩):=by
 refine A6 B5 Tryz.func8 [sDt x y d] [sR x,sR y,sZ (und d),sR (und d)] (.cons rfl .nil) (rs:=[cl 1 28 [on 0],cl 2 28 [.v false [.an 0 1]],cl 3 27 [ag 3 0],cl 4 28 [on 3]]) (out := .v true [.an 1 0,.an 1 1,.an 2 0,.an 2 1,.an 4 0,.an 4 1]) (nc:=5) (by kernel_rfl)
  ⟨fun σ W g h hb=>kG (dt1 (h 0 rfl)) (M3 W x h1 h2),
  fun σ W g h hb=>kG (dt2 (h 0 rfl)) (M3 W y h3 h4),
  fun σ W g h hb=>argl (congrArg (fun v=>[v]) (h 0 rfl)) (X4 W x y d) |>.mono fun _ _ ⟨a,g⟩=>⟨_,a,rfl,g⟩,
  fun σ W g h hb=>kG (h 3 rfl) (M3 W _ (bD d).1 (bD d).2),
  trivial⟩ fun τ W g h=>⟨_,rfl,mkh (h 1 rfl) (h 2 rfl) (h 4 rfl),g⟩
theorem J5 (w:World) (va vb:Value) (x y:Int) (E:Nat) (Ha:RIntV w va x) (Hb:RIntV w vb y) (hE:E<=1000000) (l1:x.natAbs<D^E) (l2:y.natAbs<D^E) :
 Calls Tryz.prog 58 #[va,vb] w (F0 w (x*y)):=by
 refine A6 B5 Tryz.func58 [sR x,sR y] [sR (x*y)] (.cons Ha (.cons Hb .nil)) (rs:=[cl 2 61 [ag 2 0,ag 2 1]]) (out:=ag 2 2) (nc:=3) (by kernel_rfl)
  ⟨fun σ W g h hb=>Q3 W _ _ _ _ (h 0 rfl) (h 1 rfl) (dp6 l1 hE) (dp6 l2 hE),
  trivial⟩ fun τ W g h=>⟨_,rfl,h 2 rfl,g⟩
theorem eD (w:World) (va vb:Value) (x y:Int) (E:Nat) (Ha:RIntV w va x) (Hb:RIntV w vb y) (hE:E<=1000000) (l1:x.natAbs<D^E) (l2:y.natAbs<D^E) :
 Calls Tryz.prog 90 #[va,vb] w (F0 w (x-y)):=by
 refine A6 B5 Tryz.func90 [sR x,sR y] [sR (x-y)] (.cons Ha (.cons Hb .nil)) (rs:=[cl 2 126 [ag 2 0,ag 2 1]]) (out:=ag 2 2) (nc:=3) (by kernel_rfl)
  ⟨fun σ W g h hb=>rZSub_any W _ _ _ _ (h 0 rfl) (h 1 rfl) (dp6 l1 hE) (dp6 l2 hE),
  trivial⟩ fun τ W g h=>⟨_,rfl,h 2 rfl,g⟩
theorem iV (w:World) (va vb:Value) (a b:H3) (E:Nat) (Ha:HV w va a) (Hb:HV w vb b) (hE:E<=10000) (ba:HB E a) (bb:HB E b) :
 Calls Tryz.prog 89 #[va,vb] w (RetRR w (hlx a b) (hly a b)):=by
 refine A6 B5 Tryz.func89 [sH a,sH b] [sR (b.x*a.z),sR (a.x*b.z),sR (hlx a b),sR (b.y*a.z),sR (a.y*b.z),sR (hly a b)] (.cons Ha (.cons Hb .nil)) (rs:=[cl 2 58 [ag 2 1,.v true [.an 0 4,.an 0 5]],cl 3 58 [ag 2 0,.v true [.an 1 4,.an 1 5]],cl 4 90 [ag 2 2,ag 2 3],cl 5 58 [.v true [.an 1 2,.an 1 3],.v true [.an 0 4,.an 0 5]],cl 6 58 [.v true [.an 0 2,.an 0 3],.v true [.an 1 4,.an 1 5]],cl 7 90 [ag 2 5,ag 2 6]]) (out := .tup [(true,[.an 4 0,.an 4 1]),(true,[.an 7 0,.an 7 1])]) (nc:=8) (by kernel_rfl)
  ⟨fun σ W g h hb=>J5 W _ _ _ _ E (h31 (h 1 rfl)) (h33 (h 0 rfl)) (by omega) bb.1 ba.2.2,
  fun σ W g h hb=>J5 W _ _ _ _ E (h31 (h 0 rfl)) (h33 (h 1 rfl)) (by omega) ba.1 bb.2.2,
  fun σ W g h hb=>eD W _ _ _ _ (E+E) (h 2 rfl) (h 3 rfl) (by omega) (E1 bb.1 ba.2.2) (E1 ba.1 bb.2.2),
  fun σ W g h hb=>J5 W _ _ _ _ E (h32 (h 1 rfl)) (h33 (h 0 rfl)) (by omega) bb.2.1 ba.2.2,
  fun σ W g h hb=>J5 W _ _ _ _ E (h32 (h 0 rfl)) (h33 (h 1 rfl)) (by omega) ba.2.1 bb.2.2,
  fun σ W g h hb=>eD W _ _ _ _ (E+E) (h 5 rfl) (h 6 rfl) (by omega) (E1 bb.2.1 ba.2.2) (E1 ba.2.1 bb.2.2),
  trivial⟩ fun τ W g h=>⟨_,_,rfl,h 4 rfl,h 7 rfl,g⟩
theorem rHCross_any (w:World) (va vb vc:Value) (a b c:H3) (E:Nat) (Ha:HV w va a) (Hb:HV w vb b) (Hc:HV w vc c) (hE:E<=10000) (ba:HB E a) (bb:HB E b) (bc:HB E c) :
 Calls Tryz.prog 45 #[va,vb,vc] w (RetRF w (hcr a b c) (hdn a b c)):=by
 have l1:=ba.less bb
 have l2:=ba.less bc
 refine A6 B5 Tryz.func45 [sH a,sH b,sH c] [sRR (hlx a b) (hly a b),sRR (hlx a c) (hly a c),sR (hlx a b*hly a c),sR (hly a b*hlx a c),sR (hcr a b c),sR (a.z*a.z),sR (b.z*c.z),sR (hdn a b c)] (.cons Ha (.cons Hb (.cons Hc .nil))) (rs:=[cl 3 89 [ag 6 0,ag 6 1],cl 4 89 [ag 6 0,ag 6 2],cl 5 58 [ag 2 3,.v true [.an 4 2,.an 4 3]],cl 6 58 [.v true [.an 3 2,.an 3 3],ag 2 4],cl 7 90 [ag 2 5,ag 2 6],cl 8 58 [.v true [.an 0 4,.an 0 5],.v true [.an 0 4,.an 0 5]],cl 9 58 [.v true [.an 1 4,.an 1 5],.v true [.an 2 4,.an 2 5]],cl 10 58 [ag 2 8,ag 2 9]]) (out := .v true [.an 7 0,.an 7 1,.an 10 0,.an 10 1]) (nc:=11) (by kernel_rfl)
  ⟨fun σ W g h hb=>toRR (iV W _ _ a b E (h 0 rfl) (h 1 rfl) hE ba bb),
  fun σ W g h hb=>toRR (iV W _ _ a c E (h 0 rfl) (h 2 rfl) hE ba bc),
  fun σ W g h hb=>J5 W _ _ _ _ (E+E+1) (rr1 (h 3 rfl)) (rr2 (h 4 rfl)) (by omega) l1.1 l2.2,
  fun σ W g h hb=>J5 W _ _ _ _ (E+E+1) (rr2 (h 3 rfl)) (rr1 (h 4 rfl)) (by omega) l1.2 l2.1,
  fun σ W g h hb=>eD W _ _ _ _ (E+E+1+(E+E+1)) (h 5 rfl) (h 6 rfl) (by omega) (E1 l1.1 l2.2) (E1 l1.2 l2.1),
  fun σ W g h hb=>J5 W _ _ _ _ E (h33 (h 0 rfl)) (h33 (h 0 rfl)) (by omega) ba.2.2 ba.2.2,
  fun σ W g h hb=>J5 W _ _ _ _ E (h33 (h 1 rfl)) (h33 (h 2 rfl)) (by omega) bb.2.2 bc.2.2,
  fun σ W g h hb=>J5 W _ _ _ _ (E+E) (h 8 rfl) (h 9 rfl) (by omega) (E1 ba.2.2 ba.2.2) (E1 bb.2.2 bc.2.2),
  trivial⟩ fun τ W g h=>⟨_,rfl,mkrf (h 7 rfl) (h 10 rfl),g⟩
theorem hz4 {a b c d:H3} (za : 0<a.z) (zb : 0<b.z) (zc : 0<c.z) (zd : 0<d.z):(a.z:Rat)*b.z*c.z*d.z≠0:=by
 have h1:=hz za;have h2:=hz zb;have h3:=hz zc;have h4:=hz zd
 intro e
 rcases Rat.mul_eq_zero.1 e with e | e
 · rcases Rat.mul_eq_zero.1 e with e | e
   · rcases Rat.mul_eq_zero.1 e with e | e
     · exact h1 e
     · exact h2 e
   · exact h3 e
 · exact h4 e
def lat (x y d:Int):Pq:=rp ⟨x,y,und d⟩
theorem lat_b {x y d:Int} (h1 : -9223372036854775808<=x) (h2:x<=9223372036854775807) (h3 : -9223372036854775808<=y) (h4:y<=9223372036854775807):Bp 1 (lat x y d):=by
 have h:=cJ d
 have hu:(und d).natAbs<B^1:=nO (bD d).1 (bD d).2
 exact ⟨⟨gF (nO h1 h2),gG hu (Int.ne_of_gt h.1)⟩,⟨gF (nO h3 h4),gG hu (Int.ne_of_gt h.1)⟩⟩
theorem lat_h {x y d:Int} (h1 : -9223372036854775808<=x) (h2:x<=9223372036854775807) (h3 : -9223372036854775808<=y) (h4:y<=9223372036854775807):HB 5 ⟨x,y,und d⟩:=
 ⟨dint h1 h2,dint h3 h4,dint (bD d).1 (bD d).2⟩
theorem arg2 {P:Program} {f:FuncId} {a b c d:Value} {w:World} {R:Ending->World->Prop} (h:a=b) (h2:c=d) (k:Calls P f #[b,d] w R):Calls P f #[a,c] w R:=by subst h;subst h2;exact k
theorem V0 {s t:ByteArray} {p:Pq} (hs:P9 s p) (ht:P9 t p):s=t:=by
 obtain ⟨a,b,h1,h2,rfl⟩:=hs
 obtain ⟨c,d,h3,h4,rfl⟩:=ht
 rw [U7 h1 h3,U7 h2 h4]
theorem S7 {P:Program} {ρ : Operand->Value} {o:Oper} {t t':TypeId} {x y:Operand} {s u:ByteArray} {W:World} (ho:o.op = .binOp .eql t x y t') (hx : ρ x = .string s) (hy : ρ y = .string u) (h:s=u):(execOp ρ o).run P W = .ok (.value (.bool true)) W:=by
 have hg:eqGuard .eql t x y (.string s) (.string u)=pure ():=by unfold eqGuard;rfl
 have hb:binOp .eql t (.string s) (.string u)=pure (.bool true):=by
  subst h
  have:binOp .eql t (.string s) (.string s)=Op.stringOp .eql s s:=by simp [binOp]
  rw [this];simp [Op.stringOp]
 simp only [execOp,ho,hx,hy,hg,hb,Sem.run_bind,Sem.run_pure,Result.andThen_ok]
theorem LAt_any (w:World) (x y d:Int) (h1 : -9223372036854775808<=x) (h2:x<=9223372036854775807) (h3 : -9223372036854775808<=y) (h4:y<=9223372036854775807) (hTab:Tab w) :
 Calls Tryz.prog 7 #[.agg #[.int .i64 x,.int .i64 y,.int .i64 d]] w (kV w (lat x y d)):=by
 refine A6 B5 Tryz.func7 [sDt x y d] [sZ (und d),sQE (Rat.divInt x (und d)) 0,sZ (und d),sQE (Rat.divInt y (und d)) 0] (.cons rfl .nil) (rs:=[cl 1 27 [ag 3 0],cl 2 26 [on 0,on 1],cl 3 27 [ag 3 0],cl 4 26 [.v false [.an 0 1],on 3]]) (out := .v true [.an 2 0,.an 2 1,.an 2 2,.an 2 3,.an 4 0,.an 4 1,.an 4 2,.an 4 3]) (nc:=5) (by kernel_rfl)
  ⟨fun σ W g h hb=>argl (congrArg (fun v=>[v]) (h 0 rfl)) (X4 W x y d) |>.mono fun _ _ ⟨a,g⟩=>⟨_,a,rfl,g⟩,
  fun σ W g h hb=>arg2 (dt1 (h 0 rfl)) (h 1 rfl) (toQE (FOf_any W x (und d) h1 h2 (bD d).1 (bD d).2 (hTab.kept g (by simp))) (by rw [if_neg (by have:=cJ d;omega)])),
  fun σ W g h hb=>argl (congrArg (fun v=>[v]) (h 0 rfl)) (X4 W x y d) |>.mono fun _ _ ⟨a,g⟩=>⟨_,a,rfl,g⟩,
  fun σ W g h hb=>arg2 (dt2 (h 0 rfl)) (h 3 rfl) (toQE (FOf_any W y (und d) h3 h4 (bD d).1 (bD d).2 (hTab.kept g (by simp))) (by rw [if_neg (by have:=cJ d;omega)])),
  trivial⟩ fun τ W g h=>⟨_,rfl,mkpt (qE (h 2 rfl)) (qE (h 4 rfl)),g⟩
abbrev Dt3:=Int × Int × Int
def DAt (w:World) (b o:Nat) (d:Dt3):Prop:=w.cell? ⟨b,o,none⟩=some (.int .i64 d.1)/\w.cell? ⟨b,o+1,none⟩=some (.int .i64 d.2.1)/\w.cell? ⟨b,o+2,none⟩=some (.int .i64 d.2.2)
theorem eZ {w w':World} {b o:Nat} (h:w'.heap[b]?=w.heap[b]?):w'.cell? ⟨b,o,none⟩=w.cell? ⟨b,o,none⟩:=by unfold World.cell?;rw [h]
theorem pF {w:World} {b o:Nat} {v:Value} (h:w.cell? ⟨b,o,none⟩=some v):b<w.heap.size:=by
 unfold World.cell? at h
 cases hb:w.heap[b]? with
 | none=>simp [hb] at h
 | some x=>exact (Array.getElem?_eq_some_iff.1 hb).1
theorem DAt.same {w w':World} {b o:Nat} {d:Dt3} (h:DAt w b o d) (hb:w'.heap[b]?=w.heap[b]?):DAt w' b o d:=⟨(eZ hb).trans h.1,(eZ hb).trans h.2.1,(eZ hb).trans h.2.2⟩
def DtsV (base:Nat) (w:World) (v:Value) (l:List Dt3):Prop:=∃ s n c,v = .slice s n c/\l.length=n/\n<=c/\(l=[] \/ ∃ b off,s=some ⟨b,off,none⟩/\b<base /\ ∀ i (h:i<l.length),DAt w b (off+3*i) l[i])
theorem DtsV.block {base:Nat} {w:World} {v:Value} {l:List Dt3} (h:DtsV base w v l) {q:Nat} (hq:fpS v q):q<base/\q<w.heap.size:=by
 obtain ⟨s,n,c,rfl,hl,hn,h⟩:=h
 obtain ⟨off,m,c',e⟩:=hq
 cases e
 rcases h with h | ⟨b,off',e,hb,hd⟩
 · rw [h] at hl;simp at hl
 · cases e;exact ⟨hb,pF (hd 0 (by omega)).1⟩
theorem DtsV.keeps {base:Nat} {W W':World} {v:Value} {l:List Dt3} (h:DtsV base W v l) (hq:∀ q,fpS v q->W'.heap[q]?=W.heap[q]?):DtsV base W' v l:=by
 obtain ⟨s,n,c,rfl,hl,hn,h⟩:=h
 refine ⟨s,n,c,rfl,hl,hn, ?_⟩
 by_cases h0:l=[]
 · exact .inl h0
 · obtain ⟨b,off,rfl,hb,hc⟩:=h.resolve_left h0
   obtain ⟨m,rfl⟩:∃ m,n=m+1:=⟨n-1,by have:=List.length_pos_iff.2 h0;omega⟩
   exact .inr ⟨b,off,rfl,hb,fun i hi=>(hc i hi).same (hq b ⟨off,m,c,rfl⟩)⟩
def sDts (base:Nat) (l:List Dt3):Sp where
 sh := .one
 F v W:=DtsV base W v l
 fits v W h:=by obtain ⟨s,n,c,rfl,_⟩:=h;exact ⟨fun _ => .slice s n c,fun _=>rfl,rfl⟩
 row:=true
 fp v _ q:=fpS v q
 lasts v W W' k hq h:=⟨h.keeps hq,fun _ h=>h⟩
 inb v W h q hq:=(h.block hq).2
 flat h:=by cases h
def DaV (base:Nat) (w:World) (v:Value) (d:Dt3):Prop:=∃ b off,v = .pointer (some ⟨b,off,none⟩)/\b<base/\DAt w b off d
theorem DaV.block {base:Nat} {w:World} {v:Value} {d:Dt3} (h:DaV base w v d) {q:Nat} (hq:fpP v q):q<base/\q<w.heap.size:=by
 obtain ⟨b,off,rfl,hb,hd⟩:=h
 obtain ⟨o,e⟩:=hq
 cases e;exact ⟨hb,pF hd.1⟩
def sDa (base:Nat) (d:Dt3):Sp where
 sh := .one
 F v W:=DaV base W v d
 fits v W h:=by obtain ⟨b,off,rfl,_⟩:=h;exact ⟨fun _ => .pointer (some ⟨b,off,none⟩),fun _=>rfl,rfl⟩
 row:=true
 fp v _ q:=fpP v q
 lasts v W W' k hq h:=by
  obtain ⟨b,off,rfl,hb,hc⟩:=h
  exact ⟨⟨b,off,rfl,hb,hc.same (hq b ⟨off,rfl⟩)⟩,fun _ h=>h⟩
 inb v W h q hq:=(h.block hq).2
 flat h:=by cases h
def dg (l:List Dt3) (k:Nat):Dt3:=l.getD k (0,0,0)
theorem dg_at {l:List Dt3} {k:Nat} (h:k<l.length):l[k]=dg l k:=by simp [dg,h]
theorem dg_mem {l:List Dt3} {k:Nat} (h:k<l.length):dg l k ∈ l:=by rw [<- dg_at h];exact List.getElem_mem h
theorem lX {l:List Dt3} {k:Nat} (h:k<l.length):l.take (k+1)=l.take k++[dg l k]:=by rw [<- dg_at h];simp
section
variable {P:Program} {ρ : Operand->Value} {o:Oper} {W:World}
theorem dts_len {t:TypeId} {x:Operand} {v:Value} {l:List Dt3} {base:Nat} (h:DtsV base W v l) (ho:o.op = .call ⟨.builtin .len, #[x], #[t]⟩) (hx : ρ x=v) (hu:∃ el,Tryz.prog.underlying t=some (.slice el)) :
 (execOp ρ o).run Tryz.prog W = .ok (.value (.int .i64 l.length)) W:=by
 obtain ⟨s,n,c,rfl,hl,hn,h⟩:=h
 obtain ⟨el,hu⟩:=hu
 simp [execOp,ho,resolve,invoke,builtin,Builtin.len_,run_underlying hu W,hx,goInt,hl]
theorem dts_at {x y:Operand} {v:Value} {l:List Dt3} {base:Nat} (h:DtsV base W v l) (ho:o.op = .indexAddr 22 x y) (hx : ρ x=v) (k:Nat) (hk:k<l.length) (hy : ρ y = .int .i64 k) :
 ∃ u,(execOp ρ o).run Tryz.prog W = .ok (.value u) W/\DaV base W u (dg l k) /\ ∀ q,fpP u q->fpS v q:=by
 obtain ⟨s,n,c,rfl,hl,hn,h⟩:=h
 obtain ⟨b,off,rfl,hb,hc⟩:=h.resolve_left (fun e=>by rw [e] at hk;simp at hk)
 have hu:Tryz.prog.underlying 22=some (.slice 36):=by kernel_rfl
 have hz:I7 Tryz.prog 36=some 3:=by kernel_rfl
 obtain ⟨m,rfl⟩:∃ m,n=m+1:=⟨n-1,by omega⟩
 have hk':(0:Int)<=(k:Int)/\(k:Int)<((m+1:Nat):Int):=by omega
 refine ⟨.pointer (some ⟨b,off+3*k,none⟩), ?_,⟨b,off+3*k,rfl,hb,by rw [<- dg_at hk];exact hc k hk⟩,fun q ⟨o',e⟩=>by cases e;exact ⟨off,m,c,rfl⟩⟩
 simp only [execOp,ho,hx,hy,Instr.indexAt,asIntOf,Sem.run_bind,Sem.run_pure,run_underlying hu W,Result.andThen_ok,hk',and_self,if_true,D3 Tryz.prog hz W,Instr.sureAddr,Addr.add_mid]
 rw [show (k:Int).toNat*3=3*k by omega]
theorem dts_load {x:Operand} {v:Value} {d:Dt3} {base:Nat} (h:DaV base W v d) (ho:o.op = .load 36 x) (hx : ρ x=v) :
 ∃ u,(execOp ρ o).run Tryz.prog W = .ok (.value u) W/\u = .agg #[.int .i64 d.1,.int .i64 d.2.1,.int .i64 d.2.2]:=by
 obtain ⟨q,off,rfl,hb,h1,h2,h3⟩:=h
 refine ⟨_, ?_,rfl⟩
 have ha:lQ Tryz.prog 36=some true:=by kernel_rfl
 have hz:I7 Tryz.prog 36=some 3:=by kernel_rfl
 have hl:(loadCells ⟨q,off,none⟩ [Value.int .i64 d.1,.int .i64 d.2.1,.int .i64 d.2.2].length).run Tryz.prog W = .ok [Value.int .i64 d.1,.int .i64 d.2.1,.int .i64 d.2.2].toArray W:=
  run_loadCells_list (P:=Tryz.prog) W ⟨q,off,none⟩ _ fun j v hv=>by
   rw [Addr.add_mid]
   match j,hv with
   | 0,hv=>cases hv;simpa using h1
   | 1,hv=>cases hv;simpa using h2
   | 2,hv=>cases hv;simpa using h3
   | n+3,hv=>simp at hv
 simp only [execOp,ho,hx,Instr.loadAt,Instr.sureAddr,loadVar,Sem.run_bind,Sem.run_pure,Result.andThen_ok,M8 Tryz.prog ha W,D3 Tryz.prog hz W,if_true]
 simp only [List.length_cons,List.length_nil] at hl
 rw [hl];rfl
end
def kPt:cG Pq:=⟨33,8,fun w cs p=>PtV w (.agg cs.toArray) p,fun h k=>h.keeps k,by kernel_rfl⟩
def kH:cG H3:=⟨43,6,fun w cs p=>HV w (.agg cs.toArray) p,fun h k=>h.keeps k,by kernel_rfl⟩
theorem OwV.pts {base:Nat} {W:World} {v:Value} {l:List Pq} (h:OwV kPt base W v l):PtsV W v l:=by
 obtain ⟨xs,⟨hl,h2⟩,hA⟩:=h
 rcases h2 with ⟨rfl,h0⟩ | ⟨g,cap,cur,rfl,hbg,hg,hnc,hcm,hcs,htk⟩
 · exact ⟨none,0,0,rfl,h0,Nat.le_refl _,.inl (List.eq_nil_of_length_eq_zero h0)⟩
 · refine ⟨_,_,_,rfl,rfl,hnc,.inr ⟨g,0,cur,rfl,hg,fun i hi=>?_⟩⟩
   have hx:∀ j,j<8->cur[0+8*i+j]?=((xs.drop (8*i)).take 8)[j]?:=fun j hj=>by
    have hlt : 8*i+j<l.length*8:=by omega
    rw [List.getElem?_take_of_lt hj,List.getElem?_drop, <- htk,List.getElem?_take_of_lt (show 8*i+j<l.length*kPt.z from hlt)]
    simp
   have ha:=hA i hi
   obtain ⟨a,b,c,d,e,f,p,q,e1,h1,h2⟩:=ha
   have e2:(xs.drop (8*i)).take 8=[a,b,c,d,e,f,p,q]:=by
    have:=congrArg (fun v=>match v with | Value.agg x=>x.toList | _=>[]) e1
    exact (show (xs.drop (kPt.z*i)).take kPt.z=[a,b,c,d,e,f,p,q] by simpa using this)
   rw [e2] at hx
   exact ⟨a,b,c,d,e,f,p,q,hx 0 (by omega),hx 1 (by omega),hx 2 (by omega),hx 3 (by omega),hx 4 (by omega),hx 5 (by omega),hx 6 (by omega),hx 7 (by omega),mkpt h1 h2⟩
theorem OwV.hr {base:Nat} {W:World} {v:Value} {l:List H3} (h:OwV kH base W v l):HrV W v l:=by
 obtain ⟨xs,⟨hl,h2⟩,hA⟩:=h
 rcases h2 with ⟨rfl,h0⟩ | ⟨g,cap,cur,rfl,hbg,hg,hnc,hcm,hcs,htk⟩
 · exact ⟨none,0,0,rfl,h0,Nat.le_refl _,.inl (List.eq_nil_of_length_eq_zero h0)⟩
 · refine ⟨_,_,_,rfl,rfl,hnc,.inr ⟨g,0,cur,rfl,hg,fun i hi=>?_⟩⟩
   have hx:∀ j,j<6->cur[0+6*i+j]?=((xs.drop (6*i)).take 6)[j]?:=fun j hj=>by
    have hlt : 6*i+j<l.length*6:=by omega
    rw [List.getElem?_take_of_lt hj,List.getElem?_drop, <- htk,List.getElem?_take_of_lt (show 6*i+j<l.length*kH.z from hlt)]
    simp
   obtain ⟨a,b,c,d,e,f,e1,h1,h2,h3⟩:=hA i hi
   have e2:(xs.drop (6*i)).take 6=[a,b,c,d,e,f]:=by
    have:=congrArg (fun v=>match v with | Value.agg x=>x.toList | _=>[]) e1
    exact (show (xs.drop (kH.z*i)).take kH.z=[a,b,c,d,e,f] by simpa using this)
   rw [e2] at hx
   exact ⟨a,b,c,d,e,f,hx 0 (by omega),hx 1 (by omega),hx 2 (by omega),hx 3 (by omega),hx 4 (by omega),hx 5 (by omega),⟨a,b,c,d,e,f,rfl,h1,h2,h3⟩⟩
end Go.Proofs.YtninnifpgpjfhaaGreatDoor
