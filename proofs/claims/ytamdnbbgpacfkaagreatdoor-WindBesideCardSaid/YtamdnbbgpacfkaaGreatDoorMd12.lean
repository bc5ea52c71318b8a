/- What the laws lean on, part 12. -/
import Derived.Below
import Derived.BigCall
import Derived.BigQuiet
import Derived.BigRegion
import Derived.Deep.AppendLies
import Derived.Deep.CutBlock
import Derived.Deep.CutRange
import Derived.Deep.DeepCutAuto
import Derived.Deep.DeepHandedRow
import Derived.Deep.LoopGhost
import Derived.Deep.MidRow
import Derived.Deep.QuietTactic
import Derived.Deep.RegionHeld3
import Derived.Deep.RegionLaw
import Derived.Deep.WholeRow
import Derived.Laws.AppendOwn
import Derived.Laws.Concat
import Derived.Laws.CopyOwn
import Derived.Laws.Externs
import Derived.Laws.IdiomStrings
import Derived.Lib.BitFns
import Derived.Lib.Bytealg
import Derived.Lib.Hide
import Derived.Lib.Slices
import Derived.Lib.Small
import Derived.Lib.Strings
import Derived.Lib.Walk
import Derived.LoopN
import Derived.OpenShut
import Derived.OrdersHeld
import Derived.OrdersIn
import Derived.Outline
import Derived.OwnWalk
import Derived.ProofKit
import Derived.RangeFuncCalls
import Derived.RangeFuncNested
import Derived.RangeFuncOwn
import Derived.Shelf.Bits.Mul64
import Derived.Shelf.Spec.TrailingZeros
import Derived.StillTailTactics
import Derived.WalkKit
import Derived.WalkLawsBesides
import Derived.WalkSpells
import Derived.Test.YtamdnbbgpacfkaaGreatDoorProg
import Derived.Test.YtamdnbbgpacfkaaGreatDoorRows
import Derived.Test.YtamdnbbgpacfkaaGreatDoorMd7
import Derived.Test.YtamdnbbgpacfkaaGreatDoorMd11
set_option linter.unusedVariables false
set_option linter.unusedSimpArgs false
set_option maxRecDepth 100000
namespace Go.Proofs.YtamdnbbgpacfkaaGreatDoor
open Go.RowKit Mat Ex
def RQ (w:World) (v:Value) (r:Rat) (E:Nat):Prop:=∃ (g:Int) (s:Option Addr) (l c:Nat) (g':Int) (s':Option Addr) (l' c':Nat) (n d:Int),v = .agg #[.int .i64 g,.slice s l c,.int .i64 g',.slice s' l' c']/\RIntV w (.agg #[.int .i64 g,.slice s l c]) n/\RIntV w (.agg #[.int .i64 g',.slice s' l' c']) d/\Hid (0<d/\Rat.divInt n d=r/\n.natAbs<D^E/\d.natAbs<D^E)
theorem RQ.kept {w w':World} {v:Value} {r:Rat} {E:Nat} (h:RQ w v r E) (hg:w.grownBy w' none):RQ w' v r E:=by
 obtain ⟨g,s,l,c,g',s',l',c',n,d,e,h1,h2,h3⟩:=h
 exact ⟨g,s,l,c,g',s',l',c',n,d,e,h1.kept hg,h2.kept hg,h3⟩
theorem dpw {a E M:Nat} (h:a<D^E) (hE:E<=M):a<D^M:=Nat.lt_of_lt_of_le h (Nat.pow_le_pow_right bX hE)
theorem dp6 {a E:Nat} (h:a<D^E) (hE:E<=1000000):a<D^1000000:=by
 obtain ⟨M,hM⟩:∃ M,M=1000000:=⟨_,rfl⟩
 rw [<- hM] at hE ⊢
 exact dpw h hE
theorem RQ.mono {w:World} {v:Value} {r:Rat} {E M:Nat} (h:RQ w v r E) (hE:E<=M):RQ w v r M:=by
 obtain ⟨g,s,l,c,g',s',l',c',n,d,e,h1,h2,h3,h4,h5,h6⟩:=h
 exact ⟨g,s,l,c,g',s',l',c',n,d,e,h1,h2,h3,h4,dpw h5 hE,dpw h6 hE⟩
theorem RQ.of {w:World} {g g':Int} {s s':Option Addr} {l c l' c':Nat} {n d:Int} {r:Rat} {E:Nat} (h1:RIntV w (.agg #[.int .i64 g,.slice s l c]) n) (h2:RIntV w (.agg #[.int .i64 g',.slice s' l' c']) d) (h3 : 0<d) (h4:Rat.divInt n d=r) (h5:n.natAbs<D^E) (h6:d.natAbs<D^E):RQ w (.agg #[.int .i64 g,.slice s l c,.int .i64 g',.slice s' l' c']) r E:=
 ⟨g,s,l,c,g',s',l',c',n,d,rfl,h1,h2,h3,h4,h5,h6⟩
theorem A9 {x y:Int} {E F:Nat} (hx:x.natAbs<D^E) (hy:y.natAbs<D^F):(x*y).natAbs<D^(E+F):=by
 rw [Int.natAbs_mul,Nat.pow_add];exact Nat.mul_lt_mul'' hx hy
theorem L7 {x y:Int} {E:Nat} (hx:x.natAbs<D^E) (hy:y.natAbs<D^E):(x+y).natAbs<D^(E+1):=by
 have h1:=Int.natAbs_add_le x y
 rw [Nat.pow_succ]
 have h2:D^E*2<=D^E*D:=Nat.mul_le_mul_left _ (by unfold D;omega)
 omega
theorem L6 {x:Int} {E:Nat} (hx:x.natAbs<D^E):(-x).natAbs<D^E:=by rw [Int.natAbs_neg];exact hx
theorem rq_add {n d m e:Int} {r t:Rat} (hd : 0<d) (he : 0<e) (h1:Rat.divInt n d=r) (h2:Rat.divInt m e=t):Rat.divInt (n*e+m*d) (d*e)=r+t:=by
 rw [<- h1, <- h2,Rat.divInt_add_divInt _ _ (by omega) (by omega)]
theorem rq_add1 {n d m:Int} {r t:Rat} (hd : 0<d) (h1:Rat.divInt n d=r) (h2:Rat.divInt m d=t):Rat.divInt (n+m) d=r+t:=by
 rw [<- rq_add hd hd h1 h2, <- Int.add_mul,Rat.divInt_mul_right (by omega)]
theorem rq_neg {n d:Int} {r:Rat} (h1:Rat.divInt n d=r):Rat.divInt (-n) d = -r:=by rw [<- h1,Rat.neg_divInt]
theorem rq_mul {n d m e:Int} {r t:Rat} (h1:Rat.divInt n d=r) (h2:Rat.divInt m e=t):Rat.divInt (n*m) (d*e)=r*t:=by
 rw [<- h1, <- h2,Rat.divInt_mul_divInt]
theorem RRdo.keeps {W W':World} {sa:Option Addr} {xs:List Nat} (h:RRdo W sa xs) (k:Keeps J1 W W'):RRdo W' sa xs:=by
 rcases h with h | ⟨b,off,cs,e,h1,h2⟩
 · exact Or.inl h
 · exact Or.inr ⟨b,off,cs,e,k b cs _ _ rfl h1,h2⟩
theorem RefV.keeps {W W':World} {v:Value} {n:Nat} (h:RefV W v n) (k:Keeps J1 W W'):RefV W' v n:=by
 obtain ⟨s,l,cap,xs,e,h1,h2,h3,h4⟩:=h
 exact ⟨s,l,cap,xs,e,h1,h2,h3.keeps k,h4⟩
theorem RIntV.keeps {W W':World} {v:Value} {z:Int} (h:RIntV W v z) (k:Keeps J1 W W'):RIntV W' v z:=by
 obtain ⟨g,s,l,c,e,h1,h2⟩:=h
 exact ⟨g,s,l,c,e,h1,h2.keeps k⟩
theorem RQ.keeps {W W':World} {v:Value} {r:Rat} {E:Nat} (h:RQ W v r E) (k:Keeps J1 W W'):RQ W' v r E:=by
 obtain ⟨g,s,l,c,g',s',l',c',n,d,e,h1,h2,h3⟩:=h
 exact ⟨g,s,l,c,g',s',l',c',n,d,e,h1.keeps k,h2.keeps k,h3⟩
def RF (w:World) (v:Value) (n d:Int):Prop:=∃ (g:Int) (s:Option Addr) (l c:Nat) (g':Int) (s':Option Addr) (l' c':Nat),v = .agg #[.int .i64 g,.slice s l c,.int .i64 g',.slice s' l' c']/\RIntV w (.agg #[.int .i64 g,.slice s l c]) n/\RIntV w (.agg #[.int .i64 g',.slice s' l' c']) d
theorem RF.keeps {W W':World} {v:Value} {n d:Int} (h:RF W v n d) (k:Keeps J1 W W'):RF W' v n d:=by
 obtain ⟨g,s,l,c,g',s',l',c',e,h1,h2⟩:=h
 exact ⟨g,s,l,c,g',s',l',c',e,h1.keeps k,h2.keeps k⟩
def sR (z:Int):Sp := .of (.agg 2) (fun v W=>RIntV W v z) (fun v W h=>by
 obtain ⟨g,s,l,c,rfl,_⟩:=h
 exact ⟨E8 [.int .i64 g,.slice s l c],B8 (by simp [Value.oneCell']),rfl⟩) (fun v W W' k h=>h.keeps k)
def sRF (n d:Int):Sp := .of (.agg 4) (fun v W=>RF W v n d) (fun v W h=>by
 obtain ⟨g,s,l,c,g',s',l',c',rfl,_⟩:=h
 exact ⟨E8 [.int .i64 g,.slice s l c,.int .i64 g',.slice s' l' c'],B8 (by simp [Value.oneCell']),rfl⟩) (fun v W W' k h=>h.keeps k)
def sRR (n m:Int):Sp := .of (.tup [(none,3),(none,3)]) (fun v W=>∃ u t,v = .tuple #[u,t]/\RIntV W u n/\RIntV W t m) (fun v W h=>by
 obtain ⟨u,t,rfl,⟨g,s,k,c,rfl,_⟩,g',s',k',c',rfl,_⟩:=h
 exact V8 (u := .bool true) (cs:=[.int .i64 g,.slice s k c,.int .i64 g',.slice s' k' c']) (by simp [Value.oneCell']) rfl) (fun v W W' k h=>by obtain ⟨u,t,e,h,h'⟩:=h;exact ⟨u,t,e,h.keeps k,h'.keeps k⟩)
theorem rr1 {n m:Int} {a b:Value} {W:World} : (sRR n m).F (.tuple #[a,b]) W->RIntV W a n:=by rintro ⟨u,t,e,h,_⟩;cases e;exact h
theorem rr2 {n m:Int} {a b:Value} {W:World} : (sRR n m).F (.tuple #[a,b]) W->RIntV W b m:=by rintro ⟨u,t,e,_,h⟩;cases e;exact h
theorem rs1 {W:World} {a b:Value} {z:Int} : RIntV W (.agg #[a,b]) z->a = .int .i64 z.sign:=by
 rintro ⟨g,s,l,c,e,h1,h2⟩;cases e;rw [show g=z.sign from h1]
theorem rn {W:World} {a b c d:Value} {n m:Int} : RF W (.agg #[a,b,c,d]) n m->RIntV W (.agg #[a,b]) n:=by
 rintro ⟨g,s,l,k,g',s',l',k',e,h,h'⟩;cases e;exact h
theorem rd {W:World} {a b c d:Value} {n m:Int} : RF W (.agg #[a,b,c,d]) n m->RIntV W (.agg #[c,d]) m:=by
 rintro ⟨g,s,l,k,g',s',l',k',e,h,h'⟩;cases e;exact h'
theorem jZ {W:World} {a b c d:Value} {n m:Int} (h:RIntV W (.agg #[a,b]) n) (h':RIntV W (.agg #[c,d]) m):RF W (.agg #[a,b,c,d]) n m:=by
 obtain ⟨g,s,l,k,e,h1⟩:=h
 obtain ⟨g',s',l',k',e',h1'⟩:=h'
 cases e;cases e'
 exact ⟨g,s,l,k,g',s',l',k',rfl,⟨g,s,l,k,rfl,h1⟩,g',s',l',k',rfl,h1'⟩
def oA (w:World) (n d:Int) (e:Ending) (w':World):Prop:=∃ v,e = .returned v/\RF w' v n d/\w.grownBy w' none
section
variable {P:Program} {f:FuncId} {args:Array Value} {W:World}
theorem toRR {n m:Int} (h:Calls P f args W (fun e w'=>∃ v u,e = .returned (.tuple #[v,u])/\RIntV w' v n/\RIntV w' u m/\W.grownBy w' none)):Calls P f args W (Ret W (sRR n m).F):=
 h.mono fun _ _ ⟨v,u,a,h,h',g⟩=>⟨_,a,⟨v,u,rfl,h,h'⟩,g⟩
end
theorem dint {n:Int} (h1 : -9223372036854775808<=n) (h2:n<=9223372036854775807):n.natAbs<D^5:=by
 have:(100000000000000000000:Nat)=D^5:=by unfold D;decide
 omega
theorem dT (w:World) (n d:Int) (h1 : -9223372036854775808<=n) (h2:n<=9223372036854775807) (h3 : -9223372036854775808<=d) (h4:d<=9223372036854775807) :
 Calls Tryz.prog 93 #[.int .i64 n,.int .i64 d] w (oA w n d):=by
 refine A6 B6 Tryz.func93 [sZ n,sZ d] [sR n,sR d] (.cons rfl (.cons rfl .nil)) (rs:=[cl 2 36 [on 0],cl 3 36 [on 1]]) (out := .v true [.an 2 0,.an 2 1,.an 3 0,.an 3 1]) (nc:=4) (by kernel_rfl)
  ⟨fun σ W g h hb=>kE (h 0 rfl) (P5 W n h1 h2),
  fun σ W g h hb=>kE (h 1 rfl) (P5 W d h3 h4),
  trivial⟩ fun τ W g h=>⟨_,rfl,jZ (h 2 rfl) (h 3 rfl),g⟩
theorem rFMul_any (w:World) (va vb:Value) (n d m e:Int) (Ha:RF w va n d) (Hb:RF w vb m e) (E:Nat) (hE:E<=400000) (l1:n.natAbs<D^E) (l2:d.natAbs<D^E) (l3:m.natAbs<D^E) (l4:e.natAbs<D^E) :
 Calls Tryz.prog 96 #[va,vb] w (oA w (n*m) (d*e)):=by
 refine A6 B6 Tryz.func96 [sRF n d,sRF m e] [sR (n*m),sR (d*e)] (.cons Ha (.cons Hb .nil)) (rs:=[cl 2 89 [ag 2 0,ag 2 1],cl 3 89 [.v true [.an 0 2,.an 0 3],.v true [.an 1 2,.an 1 3]]]) (out := .v true [.an 2 0,.an 2 1,.an 3 0,.an 3 1]) (nc:=4) (by kernel_rfl)
  ⟨fun σ W g h hb=>C6 W _ _ _ _ (rn (h 0 rfl)) (rn (h 1 rfl)) (dp6 l1 (by omega)) (dp6 l3 (by omega)),
  fun σ W g h hb=>C6 W _ _ _ _ (rd (h 0 rfl)) (rd (h 1 rfl)) (dp6 l2 (by omega)) (dp6 l4 (by omega)),
  trivial⟩ fun τ W g h=>⟨_,rfl,jZ (h 2 rfl) (h 3 rfl),g⟩
theorem oX {x y:Int} (h:x=y):M0 x y=0:=by unfold M0;rw [if_neg (by omega),if_pos h]
theorem zcmp_ne {x y:Int} (h:x≠y):M0 x y≠0:=by unfold M0;split<;>simp [h]
theorem pG (w:World) (va vb:Value) (n d m e:Int) (Ha:RF w va n d) (Hb:RF w vb m e) (E:Nat) (hE:E<=400000) (l1:n.natAbs<D^E) (l2:d.natAbs<D^E) (l3:m.natAbs<D^E) (l4:e.natAbs<D^E) :
 Calls Tryz.prog 142 #[va,vb] w (fun x w'=>∃ v,x = .returned v/\RF w' v (if d=e then n+m else n*e+m*d) (if d=e then d else d*e)/\w.grownBy w' none):=by
 by_cases h1:d=e
 · skip
   rw [if_pos h1,if_pos h1]
   refine A6 B6 Tryz.func142 [sRF n d,sRF m e] [sV (.int .i64 0),sR (n+m)] (.cons Ha (.cons Hb .nil)) (rs:=[cl 2 43 [.v true [.an 0 2,.an 0 3],.v true [.an 1 2,.an 1 3]],cl 3 90 [ag 2 0,ag 2 1]]) (out := .v true [.an 3 0,.an 3 1,.an 0 2,.an 0 3]) (nc:=4) (by kernel_rfl)
    ⟨fun σ W g h hb=>toV (F9 W _ _ _ _ (rd (h 0 rfl)) (rd (h 1 rfl)) (dp6 l2 (by omega)) (dp6 l4 (by omega))) (by rw [oX h1]),
    fun σ W g h hb=>T1 W _ _ _ _ (rn (h 0 rfl)) (rn (h 1 rfl)) (dp6 l1 (by omega)) (dp6 l3 (by omega)),
    trivial⟩ fun τ W g h=>⟨_,rfl,jZ (h 3 rfl) (rd (h 0 rfl)),g⟩
 · skip
   rw [if_neg h1,if_neg h1]
   refine A6 B6 Tryz.func142 [sRF n d,sRF m e] [sZ (M0 d e),sV (.bool false),sR (n*e),sR (m*d),sR (n*e+m*d),sR (d*e)] (.cons Ha (.cons Hb .nil)) (rs:=[cl 2 43 [.v true [.an 0 2,.an 0 3],.v true [.an 1 2,.an 1 3]],co 3 (.binOp .eql 3 (.tmp 9) (.const (.int .i64 0)) 3) 4 [on 2,.v false [.lit (.int .i64 0)]] [0,1,2] [],cl 4 89 [ag 2 0,.v true [.an 1 2,.an 1 3]],cl 5 89 [ag 2 1,.v true [.an 0 2,.an 0 3]],cl 6 90 [ag 2 4,ag 2 5],cl 7 89 [.v true [.an 0 2,.an 0 3],.v true [.an 1 2,.an 1 3]]]) (out := .v true [.an 6 0,.an 6 1,.an 7 0,.an 7 1]) (nc:=8) (by kernel_rfl)
    ⟨fun σ W g h hb=>toZ (F9 W _ _ _ _ (rd (h 0 rfl)) (rd (h 1 rfl)) (dp6 l2 (by omega)) (dp6 l4 (by omega))) rfl,
    fun σ W g h hb=>fun ρ o ho _ hv=>⟨_,C5 ho ((A0 hv).1.trans (h 2 rfl)) (A0 hv).2 rfl,congrArg Value.bool (beq_eq_false_iff_ne.2 (zcmp_ne h1))⟩,
    fun σ W g h hb=>C6 W _ _ _ _ (rn (h 0 rfl)) (rd (h 1 rfl)) (dp6 l1 (by omega)) (dp6 l4 (by omega)),
    fun σ W g h hb=>C6 W _ _ _ _ (rn (h 1 rfl)) (rd (h 0 rfl)) (dp6 l3 (by omega)) (dp6 l2 (by omega)),
    fun σ W g h hb=>T1 W _ _ _ _ (h 4 rfl) (h 5 rfl) (dp6 (A9 l1 l4) (by omega)) (dp6 (A9 l3 l2) (by omega)),
    fun σ W g h hb=>C6 W _ _ _ _ (rd (h 0 rfl)) (rd (h 1 rfl)) (dp6 l2 (by omega)) (dp6 l4 (by omega)),
    trivial⟩ fun τ W g h=>⟨_,rfl,jZ (h 6 rfl) (h 7 rfl),g⟩
end Go.Proofs.YtamdnbbgpacfkaaGreatDoor
namespace Go.Proofs.YtamdnbbgpacfkaaGreatDoor
open Go.RowKit Mat Ex PM
structure H3 where
 x:Int
 y:Int
 z:Int
def rp (a:H3):Pq:=(Rat.divInt a.x a.z,Rat.divInt a.y a.z)
def HB (E:Nat) (a:H3):Prop:=a.x.natAbs<D^E/\a.y.natAbs<D^E/\a.z.natAbs<D^E
theorem HB.mono {E M:Nat} {a:H3} (h:HB E a) (hE:E<=M):HB M a:=⟨dpw h.1 hE,dpw h.2.1 hE,dpw h.2.2 hE⟩
def HV (w:World) (v:Value) (p:H3):Prop:=∃ a b c d e f:Value,v = .agg #[a,b,c,d,e,f]/\RIntV w (.agg #[a,b]) p.x/\RIntV w (.agg #[c,d]) p.y/\RIntV w (.agg #[e,f]) p.z
theorem HV.keeps {W W':World} {v:Value} {p:H3} (h:HV W v p) (k:Keeps J1 W W'):HV W' v p:=by
 obtain ⟨a,b,c,d,e,f,q,h1,h2,h3⟩:=h
 exact ⟨a,b,c,d,e,f,q,h1.keeps k,h2.keeps k,h3.keeps k⟩
theorem HV.kept {w w':World} {v:Value} {p:H3} (h:HV w v p) (g:w.grownBy w' none):HV w' v p:=by
 obtain ⟨a,b,c,d,e,f,q,h1,h2,h3⟩:=h
 exact ⟨a,b,c,d,e,f,q,h1.kept g,h2.kept g,h3.kept g⟩
theorem RIntV.one {w:World} {a b:Value} {z:Int} (h:RIntV w (.agg #[a,b]) z):a.oneCell'=true/\b.oneCell'=true:=by
 obtain ⟨g,s,l,c,e,_⟩:=h;cases e;exact ⟨rfl,rfl⟩
theorem HV.one {w:World} {a b c d e f:Value} {p:H3} (h:HV w (.agg #[a,b,c,d,e,f]) p):∀ x ∈ [a,b,c,d,e,f],x.oneCell'=true:=by
 obtain ⟨_,_,_,_,_,_,q,h1,h2,h3⟩:=h
 cases q
 simp [h1.one,h2.one,h3.one]
def sH (p:H3):Sp := .of (.agg 6) (fun v W=>HV W v p) (fun v W h=>by
 have h0:=h
 obtain ⟨a,b,c,d,e,f,rfl,_⟩:=h
 exact ⟨E8 [a,b,c,d,e,f],B8 h0.one,rfl⟩) (fun v W W' k h=>h.keeps k)
theorem h31 {W:World} {a b c d e f:Value} {p:H3} : HV W (.agg #[a,b,c,d,e,f]) p->RIntV W (.agg #[a,b]) p.x:=by rintro ⟨_,_,_,_,_,_,q,h1,h2,h3⟩;cases q;exact h1
theorem h32 {W:World} {a b c d e f:Value} {p:H3} : HV W (.agg #[a,b,c,d,e,f]) p->RIntV W (.agg #[c,d]) p.y:=by rintro ⟨_,_,_,_,_,_,q,h1,h2,h3⟩;cases q;exact h2
theorem h33 {W:World} {a b c d e f:Value} {p:H3} : HV W (.agg #[a,b,c,d,e,f]) p->RIntV W (.agg #[e,f]) p.z:=by rintro ⟨_,_,_,_,_,_,q,h1,h2,h3⟩;cases q;exact h3
theorem mkh {W:World} {a b c d e f:Value} {p:H3} (h1:RIntV W (.agg #[a,b]) p.x) (h2:RIntV W (.agg #[c,d]) p.y) (h3:RIntV W (.agg #[e,f]) p.z):HV W (.agg #[a,b,c,d,e,f]) p:=⟨_,_,_,_,_,_,rfl,h1,h2,h3⟩
def RetH (w:World) (p:H3) (e:Ending) (w':World):Prop:=∃ v,e = .returned v/\HV w' v p/\w.grownBy w' none
def HsV (w:World) (v:Value) (p q:H3):Prop:=∃ a b c d e f a' b' c' d' e' f':Value,v = .agg #[a,b,c,d,e,f,a',b',c',d',e',f']/\HV w (.agg #[a,b,c,d,e,f]) p/\HV w (.agg #[a',b',c',d',e',f']) q
theorem HsV.keeps {W W':World} {v:Value} {p q:H3} (h:HsV W v p q) (k:Keeps J1 W W'):HsV W' v p q:=by
 obtain ⟨a,b,c,d,e,f,a',b',c',d',e',f',e1,h1,h2⟩:=h
 exact ⟨a,b,c,d,e,f,a',b',c',d',e',f',e1,h1.keeps k,h2.keeps k⟩
def sHs (p q:H3):Sp := .of (.agg 12) (fun v W=>HsV W v p q) (fun v W h=>by
 obtain ⟨a,b,c,d,e,f,a',b',c',d',e',f',rfl,h1,h2⟩:=h
 refine ⟨E8 [a,b,c,d,e,f,a',b',c',d',e',f'],B8 (fun x hx=>?_),rfl⟩
 rcases List.mem_append.1 (show x ∈ [a,b,c,d,e,f]++[a',b',c',d',e',f'] from hx) with hx | hx
 · exact h1.one x hx
 · exact h2.one x hx) (fun v W W' k h=>h.keeps k)
theorem hs1 {W:World} {a b c d e f a' b' c' d' e' f':Value} {p q:H3} : HsV W (.agg #[a,b,c,d,e,f,a',b',c',d',e',f']) p q->HV W (.agg #[a,b,c,d,e,f]) p:=by
 rintro ⟨_,_,_,_,_,_,_,_,_,_,_,_,e,h1,h2⟩;cases e;exact h1
theorem hs2 {W:World} {a b c d e f a' b' c' d' e' f':Value} {p q:H3} : HsV W (.agg #[a,b,c,d,e,f,a',b',c',d',e',f']) p q->HV W (.agg #[a',b',c',d',e',f']) q:=by
 rintro ⟨_,_,_,_,_,_,_,_,_,_,_,_,e,h1,h2⟩;cases e;exact h2
theorem gJ {W:World} {a b c d e f a' b' c' d' e' f':Value} {p q:H3} (h1:HV W (.agg #[a,b,c,d,e,f]) p) (h2:HV W (.agg #[a',b',c',d',e',f']) q):HsV W (.agg #[a,b,c,d,e,f,a',b',c',d',e',f']) p q:=⟨_,_,_,_,_,_,_,_,_,_,_,_,rfl,h1,h2⟩
def jT (n m k:Int):Sp := .of (.tup [(none,3),(none,3),(none,3)]) (fun v W=>∃ u t s,v = .tuple #[u,t,s]/\RIntV W u n/\RIntV W t m/\RIntV W s k) (fun v W h=>by
 obtain ⟨u,t,s,rfl,⟨g,a,b,c,rfl,_⟩,⟨g',a',b',c',rfl,_⟩,g2,a2,b2,c2,rfl,_⟩:=h
 exact V8 (u := .bool true) (cs:=[.int .i64 g,.slice a b c,.int .i64 g',.slice a' b' c',.int .i64 g2,.slice a2 b2 c2]) (by simp [Value.oneCell']) rfl) (fun v W W' k h=>by obtain ⟨u,t,s,e,h1,h2,h3⟩:=h;exact ⟨u,t,s,e,h1.keeps k,h2.keeps k,h3.keeps k⟩)
theorem jV {n m k:Int} {a b c:Value} {W:World} : (jT n m k).F (.tuple #[a,b,c]) W->RIntV W a n:=by rintro ⟨u,t,s,e,h1,h2,h3⟩;cases e;exact h1
theorem jU {n m k:Int} {a b c:Value} {W:World} : (jT n m k).F (.tuple #[a,b,c]) W->RIntV W b m:=by rintro ⟨u,t,s,e,h1,h2,h3⟩;cases e;exact h2
theorem rrr3 {n m k:Int} {a b c:Value} {W:World} : (jT n m k).F (.tuple #[a,b,c]) W->RIntV W c k:=by rintro ⟨u,t,s,e,h1,h2,h3⟩;cases e;exact h3
def HAt (w:World) (cs:Array Value) (o:Nat) (p:H3):Prop:=∃ a b c d e f:Value,cs[o]?=some a/\cs[o+1]?=some b/\cs[o+2]?=some c/\cs[o+3]?=some d/\cs[o+4]?=some e/\cs[o+5]?=some f/\HV w (.agg #[a,b,c,d,e,f]) p
theorem HAt.keeps {W W':World} {cs:Array Value} {o:Nat} {p:H3} (h:HAt W cs o p) (k:Keeps J1 W W'):HAt W' cs o p:=by
 obtain ⟨a,b,c,d,e,f,h1,h2,h3,h4,h5,h6,h7⟩:=h
 exact ⟨a,b,c,d,e,f,h1,h2,h3,h4,h5,h6,h7.keeps k⟩
def HrV (w:World) (v:Value) (l:List H3):Prop:=∃ s n c,v = .slice s n c/\l.length=n/\n<=c/\(l=[] \/ ∃ b off cs,s=some ⟨b,off,none⟩/\w.heap[b]?=some (.cells cs 34 (0,0)) /\ ∀ i (h:i<l.length),HAt w cs (off+6*i) l[i])
theorem HrV.keeps {W W':World} {v:Value} {l:List H3} (h:HrV W v l) (k:Keeps J1 W W') (hq:∀ q,fpS v q->W'.heap[q]?=W.heap[q]?):HrV W' v l:=by
 obtain ⟨s,n,c,rfl,hl,hn,h⟩:=h
 refine ⟨s,n,c,rfl,hl,hn, ?_⟩
 by_cases h0:l=[]
 · exact .inl h0
 · obtain ⟨b,off,cs,rfl,hb,hc⟩:=h.resolve_left h0
   obtain ⟨m,rfl⟩:∃ m,n=m+1:=⟨n-1,by have:=List.length_pos_iff.2 h0;omega⟩
   exact .inr ⟨b,off,cs,rfl,by rw [hq b ⟨off,m,c,rfl⟩];exact hb,fun i hi=>(hc i hi).keeps k⟩
theorem HrV.inb {W:World} {v:Value} {l:List H3} (h:HrV W v l) (q:Nat) (hq:fpS v q):q<W.heap.size:=by
 obtain ⟨s,n,c,rfl,hl,hn,h⟩:=h
 obtain ⟨off,m,c',e⟩:=hq
 cases e
 rcases h with h | ⟨b,off',cs,e,hb,_⟩
 · rw [h] at hl;simp at hl
 · cases e;exact (Array.getElem?_eq_some_iff.1 hb).1
def sHr (s0:Nat) (l:List H3):Sp where
 sh := .one
 F v W:=HrV W v l /\ ∀ q,fpS v q->s0<=q
 fits v W h:=by obtain ⟨⟨s,n,c,rfl,_⟩,_⟩:=h;exact ⟨fun _ => .slice s n c,fun _=>rfl,rfl⟩
 row:=true
 fp v _ q:=fpS v q
 lasts v W W' k hq h:=⟨⟨h.1.keeps k hq,h.2⟩,fun _ h=>h⟩
 inb v W h q hq:=h.1.inb q hq
 flat h:=by cases h
def HaV (w:World) (v:Value) (p:H3):Prop:=∃ b off cs,v = .pointer (some ⟨b,off,none⟩)/\w.heap[b]?=some (.cells cs 34 (0,0))/\HAt w cs off p
def sHa (p:H3):Sp where
 sh := .one
 F v W:=HaV W v p
 fits v W h:=by obtain ⟨b,off,cs,rfl,_⟩:=h;exact ⟨fun _ => .pointer (some ⟨b,off,none⟩),fun _=>rfl,rfl⟩
 row:=true
 fp v _ q:=fpP v q
 lasts v W W' k hq h:=by
  obtain ⟨b,off,cs,rfl,hb,hc⟩:=h
  exact ⟨⟨b,off,cs,rfl,by rw [hq b ⟨off,rfl⟩];exact hb,hc.keeps k⟩,fun _ h=>h⟩
 inb v W h q hq:=by
  obtain ⟨b,off,cs,rfl,hb,hc⟩:=h
  obtain ⟨o,e⟩:=hq
  cases e;exact (Array.getElem?_eq_some_iff.1 hb).1
 flat h:=by cases h
def RetHr (w:World) (l:List H3) (e:Ending) (w':World):Prop:=∃ v,e = .returned v/\HrV w' v l/\w.grownBy w' none /\ ∀ q,fpS v q->w.heap.size<=q
section
variable {P:Program} {ρ : Operand->Value} {o:Oper} {W:World}
theorem bK {t:TypeId} {x:Operand} {v:Value} {l:List H3} (h:HrV W v l) (ho:o.op = .call ⟨.builtin .len, #[x], #[t]⟩) (hx : ρ x=v) (hu:∃ el,Tryz.prog.underlying t=some (.slice el)) :
 (execOp ρ o).run Tryz.prog W = .ok (.value (.int .i64 l.length)) W:=by
 obtain ⟨s,n,c,rfl,hl,hn,h⟩:=h
 obtain ⟨el,hu⟩:=hu
 simp [execOp,ho,resolve,invoke,builtin,Builtin.len_,run_underlying hu W,hx,goInt,hl]
theorem hr_at {x y:Operand} {v:Value} {l:List H3} (h:HrV W v l) (ho:o.op = .indexAddr 25 x y) (hx : ρ x=v) (k:Nat) (hk:k<l.length) (hy : ρ y = .int .i64 k) :
 ∃ u,(execOp ρ o).run Tryz.prog W = .ok (.value u) W/\HaV W u l[k] /\ ∀ q,fpP u q->fpS v q:=by
 obtain ⟨s,n,c,rfl,hl,hn,h⟩:=h
 obtain ⟨b,off,cs,rfl,hb,hc⟩:=h.resolve_left (fun e=>by rw [e] at hk;simp at hk)
 have hu:Tryz.prog.underlying 25=some (.slice 34):=by kernel_rfl
 have hz:M3 Tryz.prog 34=some 6:=by kernel_rfl
 obtain ⟨m,rfl⟩:∃ m,n=m+1:=⟨n-1,by omega⟩
 have hk':(0:Int)<=(k:Int)/\(k:Int)<((m+1:Nat):Int):=by omega
 refine ⟨.pointer (some ⟨b,off+6*k,none⟩), ?_,⟨b,off+6*k,cs,rfl,hb,hc k hk⟩,fun q ⟨o',e⟩=>by cases e;exact ⟨off,m,c,rfl⟩⟩
 simp only [execOp,ho,hx,hy,Instr.indexAt,asIntOf,Sem.run_bind,Sem.run_pure,run_underlying hu W,Result.andThen_ok,hk',and_self,if_true,E7 Tryz.prog hz W,Instr.sureAddr,Addr.add_mid]
 rw [show (k:Int).toNat*6=6*k by omega]
theorem cP {x:Operand} {v:Value} {p:H3} (h:HaV W v p) (ho:o.op = .load 34 x) (hx : ρ x=v) :
 ∃ u,(execOp ρ o).run Tryz.prog W = .ok (.value u) W/\HV W u p:=by
 obtain ⟨q,off,cs,rfl,hb,a,b,c,d,e,f,h1,h2,h3,h4,h5,h6,hp⟩:=h
 refine ⟨_, ?_,hp⟩
 have ha:nS Tryz.prog 34=some true:=by kernel_rfl
 have hz:M3 Tryz.prog 34=some 6:=by kernel_rfl
 have hl:(loadCells ⟨q,off,none⟩ [a,b,c,d,e,f].length).run Tryz.prog W = .ok [a,b,c,d,e,f].toArray W:=
  run_loadCells_list (P:=Tryz.prog) W ⟨q,off,none⟩ _ fun j v hv=>by
   rw [Addr.add_mid]
   simp only [World.cell?,hb]
   match j,hv with
   | 0,hv=>cases hv;simpa using h1
   | 1,hv=>cases hv;simpa using h2
   | 2,hv=>cases hv;simpa using h3
   | 3,hv=>cases hv;simpa using h4
   | 4,hv=>cases hv;simpa using h5
   | 5,hv=>cases hv;simpa using h6
   | n+6,hv=>simp at hv
 simp only [execOp,ho,hx,Instr.loadAt,Instr.sureAddr,loadVar,Sem.run_bind,Sem.run_pure,Result.andThen_ok,O1 Tryz.prog ha W,E7 Tryz.prog hz W,if_true]
 simp only [List.length_cons,List.length_nil] at hl
 rw [hl];rfl
end
theorem hr_one {w:World} {b n c:Nat} {cs:Array Value} {a0 a1 a2 a3 a4 a5:Value} {p:H3} (hb:w.heap[b]?=some (.cells cs 34 (0,0))) (hn:n=1) (hc:n<=c) (h0:cs[0]?=some a0) (h1:cs[1]?=some a1) (h2:cs[2]?=some a2) (h3:cs[3]?=some a3) (h4:cs[4]?=some a4) (h5:cs[5]?=some a5) (hp:HV w (.agg #[a0,a1,a2,a3,a4,a5]) p):HrV w (.slice (some ⟨b,0,none⟩) n c) [p]:=by
 refine ⟨_,_,_,rfl,hn.symm,hc,.inr ⟨b,0,_,rfl,hb,fun i hi=>?_⟩⟩
 obtain rfl:i=0:=by simpa using hi
 exact ⟨_,_,_,_,_,_,h0,h1,h2,h3,h4,h5,hp⟩
theorem hr_two {w:World} {b:Nat} {a0 a1 a2 a3 a4 a5 c0 c1 c2 c3 c4 c5:Value} {p q:H3} (hb:w.heap[b]?=some (.cells #[a0,a1,a2,a3,a4,a5,c0,c1,c2,c3,c4,c5] 34 (0,0))) (hp:HV w (.agg #[a0,a1,a2,a3,a4,a5]) p) (hq:HV w (.agg #[c0,c1,c2,c3,c4,c5]) q):HrV w (.slice (some ⟨b,0,none⟩) 2 2) [p,q]:=by
 refine ⟨_,_,_,rfl,rfl,Nat.le_refl _,.inr ⟨b,0,_,rfl,hb,fun i hi=>?_⟩⟩
 match i,hi with
 | 0,_=>exact ⟨_,_,_,_,_,_,rfl,rfl,rfl,rfl,rfl,rfl,hp⟩
 | 1,_=>exact ⟨_,_,_,_,_,_,rfl,rfl,rfl,rfl,rfl,rfl,hq⟩
 | n+2,hi=>exact absurd hi (by simp)
theorem hr_nil (w:World):HrV w (.slice none 0 0) []:=⟨none,0,0,rfl,rfl,Nat.le_refl _,.inl rfl⟩
def hlx (a b:H3):Int:=b.x*a.z-a.x*b.z
def hly (a b:H3):Int:=b.y*a.z-a.y*b.z
def hcr (a b c:H3):Int:=hlx a b*hly a c-hly a b*hlx a c
def hdt (a b c:H3):Int:=hlx a b*hlx a c+hly a b*hly a c
def hdn (a b c:H3):Int:=a.z*a.z*(b.z*c.z)
theorem HB.less {E:Nat} {a b:H3} (ha:HB E a) (hb:HB E b):(hlx a b).natAbs<D^(E+E+1)/\(hly a b).natAbs<D^(E+E+1):=by
 unfold hlx hly
 constructor<;>rw [Int.sub_eq_add_neg]
 · exact L7 (A9 hb.1 ha.2.2) (L6 (A9 ha.1 hb.2.2))
 · exact L7 (A9 hb.2.1 ha.2.2) (L6 (A9 ha.2.1 hb.2.2))
theorem HB.cr {E:Nat} {a b c:H3} (ha:HB E a) (hb:HB E b) (hc:HB E c):(hcr a b c).natAbs<D^(4*E+3)/\(hdt a b c).natAbs<D^(4*E+3)/\(hdn a b c).natAbs<D^(4*E+3):=by
 have h1:=ha.less hb
 have h2:=ha.less hc
 refine ⟨?_, ?_, ?_⟩
 · unfold hcr;rw [Int.sub_eq_add_neg]
   exact dpw (L7 (A9 h1.1 h2.2) (L6 (A9 h1.2 h2.1))) (by omega)
 · unfold hdt
   exact dpw (L7 (A9 h1.1 h2.1) (A9 h1.2 h2.2)) (by omega)
 · unfold hdn
   exact dpw (A9 (A9 ha.2.2 ha.2.2) (A9 hb.2.2 hc.2.2)) (by omega)
theorem jW {n d:Int} : Rat.divInt n d=(n:Rat) / (d:Rat):=Rat.divInt_eq_div n d
theorem hz {z:Int} (h : 0<z):(z:Rat)≠0:=by
 intro e
 have:z=0:=by exact_mod_cast e
 omega
theorem hdn_pos {a b c:H3} (ha : 0<a.z) (hb : 0<b.z) (hc : 0<c.z) : 0<hdn a b c:=Int.mul_pos (Int.mul_pos ha ha) (Int.mul_pos hb hc)
theorem rp_cross {a b c:H3} (ha : 0<a.z) (hb : 0<b.z) (hc : 0<c.z):Rat.divInt (hcr a b c) (hdn a b c)=A4 (rp a) (rp b) (rp c):=by
 have h1:=hz ha;have h2:=hz hb;have h3:=hz hc
 unfold hcr hdn hlx hly A4 rp
 simp only [jW,Rat.intCast_mul,Rat.intCast_sub]
 generalize (a.z:Rat)=az at *;generalize (b.z:Rat)=bz at *;generalize (c.z:Rat)=cz at *
 generalize (a.x:Rat)=ax;generalize (b.x:Rat)=bx;generalize (c.x:Rat)=cx
 generalize (a.y:Rat)=ay;generalize (b.y:Rat)=byy;generalize (c.y:Rat)=cy
 grind
theorem rp_dot {a b c:H3} (ha : 0<a.z) (hb : 0<b.z) (hc : 0<c.z):Rat.divInt (hdt a b c) (hdn a b c)=lS (rp a) (rp b) (rp c):=by
 have h1:=hz ha;have h2:=hz hb;have h3:=hz hc
 unfold hdt hdn hlx hly lS rp
 simp only [jW,Rat.intCast_mul,Rat.intCast_sub,Rat.intCast_add]
 generalize (a.z:Rat)=az at *;generalize (b.z:Rat)=bz at *;generalize (c.z:Rat)=cz at *
 generalize (a.x:Rat)=ax;generalize (b.x:Rat)=bx;generalize (c.x:Rat)=cx
 generalize (a.y:Rat)=ay;generalize (b.y:Rat)=byy;generalize (c.y:Rat)=cy
 grind
theorem hcr_sign {a b c:H3} (ha : 0<a.z) (hb : 0<b.z) (hc : 0<c.z):(hcr a b c).sign=rsg (A4 (rp a) (rp b) (rp c)):=by
 rw [<- rp_cross ha hb hc,Q8 (hdn_pos ha hb hc)]
theorem hdt_sign {a b c:H3} (ha : 0<a.z) (hb : 0<b.z) (hc : 0<c.z):(hdt a b c).sign=rsg (lS (rp a) (rp b) (rp c)):=by
 rw [<- rp_dot ha hb hc,Q8 (hdn_pos ha hb hc)]
theorem gY {a b:H3} (ha : 0<a.z) (hb : 0<b.z):M0 (a.x*b.z) (b.x*a.z)=E9 (rp a).1 (rp b).1/\M0 (a.y*b.z) (b.y*a.z)=E9 (rp a).2 (rp b).2:=⟨(jA ha hb).symm,(jA ha hb).symm⟩
end Go.Proofs.YtamdnbbgpacfkaaGreatDoor
namespace Go.Proofs.YtamdnbbgpacfkaaGreatDoor
open Go.RowKit Mat
set_option maxHeartbeats 8000000 in
theorem rZSub_any (w:World) (va vb:Value) (x y:Int) (Ha:RIntV w va x) (Hb:RIntV w vb y) (la':x.natAbs<D^1000000) (lb':y.natAbs<D^1000000) :
 Calls Tryz.prog 185 #[va,vb] w (G7 w (x-y)):=by
 have Hla:=Lib.hid la'
 have Hlb:=Lib.hid lb'
 clear la' lb'
 obtain ⟨ga,sa,la,ca,rfl,ha,ma⟩:=Ha
 obtain ⟨gb,sb,lb,cb,rfl,hb,mb⟩:=Hb
 have hG:w.grownBy (((w.alloc (.cells #[.int .i64 ga,.slice sa la ca] 32)).alloc (.cells #[.int .i64 gb,.slice sb lb cb] 32)).alloc (.cells #[.int .i64 0,.slice none 0 0] 32)) none:=(A7 (A7 (World.grownBy_alloc _ _ _) _) _)
 have Ba:=A1 (A7 (World.grownBy_alloc _ (.cells #[.int .i64 gb,.slice sb lb cb] 32) none) (.cells #[.int .i64 0,.slice none 0 0] 32)) (A8 w (.cells #[.int .i64 ga,.slice sa la ca] 32) (w.heap.size) rfl)
 have Bb:=A1 (World.grownBy_alloc _ (.cells #[.int .i64 0,.slice none 0 0] 32) none) (A8 (w.alloc (.cells #[.int .i64 ga,.slice sa la ca] 32)) (.cells #[.int .i64 gb,.slice sb lb cb] 32) (w.heap.size+1) (by simp))
 have Bq:=(A8 ((w.alloc (.cells #[.int .i64 ga,.slice sa la ca] 32)).alloc (.cells #[.int .i64 gb,.slice sb lb cb] 32)) (.cells #[.int .i64 0,.slice none 0 0] 32) (w.heap.size+1+1) (by simp))
 have ra:RIntV (((w.alloc (.cells #[.int .i64 ga,.slice sa la ca] 32)).alloc (.cells #[.int .i64 gb,.slice sb lb cb] 32)).alloc (.cells #[.int .i64 0,.slice none 0 0] 32)) (.agg #[.int .i64 ga,.slice sa la ca]) (x):=⟨ga,sa,la,ca,rfl,ha,ma.kept hG⟩
 have rb:RIntV (((w.alloc (.cells #[.int .i64 ga,.slice sa la ca] 32)).alloc (.cells #[.int .i64 gb,.slice sb lb cb] 32)).alloc (.cells #[.int .i64 0,.slice none 0 0] 32)) (.agg #[.int .i64 gb,.slice sb lb cb]) (y):=⟨gb,sb,lb,cb,rfl,hb,mb.kept hG⟩
 have oa:RIntV w (.agg #[.int .i64 ga,.slice sa la ca]) (x):=⟨ga,sa,la,ca,rfl,ha,ma⟩
 clear ma
 have ob:RIntV w (.agg #[.int .i64 gb,.slice sb lb cb]) (y):=⟨gb,sb,lb,cb,rfl,hb,mb⟩
 clear mb
 go_enter Tryz.func185,Tryz.ntmps185
 have HN:Hid ((-y).natAbs<D^1000000):=Lib.hid (neg_lt Hlb.out)
 have HE:Hid (x + -y=x-y):=by show _=_;omega
 obtain ⟨Ca0,Ca1,Fa0,Fa1⟩:=A3 Ba
 obtain ⟨Cb0,Cb1,Fb0,Fb1⟩:=A3 Bb
 obtain ⟨Cq0,Cq1,Fq0,Fq1⟩:=A3 Bq
 go_wp2_with fail
 generalize (((w.alloc (.cells #[.int .i64 ga,.slice sa la ca] 32)).alloc (.cells #[.int .i64 gb,.slice sb lb cb] 32)).alloc (.cells #[.int .i64 0,.slice none 0 0] 32))=w0 at *
 go_region_held3 (fun w'=>w'.cell? ⟨w.heap.size,0,none⟩=some (.int .i64 ga)/\w'.cell? ⟨w.heap.size,1,none⟩=some (.slice sa la ca)/\w'.cell? ⟨w.heap.size+1,0,none⟩=some (.int .i64 gb)/\w'.cell? ⟨w.heap.size+1,1,none⟩=some (.slice sb lb cb))
  (first | assumption | exact ⟨Ca0,Ca1,Cb0,Cb1⟩ | exact HSw1_20 | go_keep)
  (first
   | (go_at_call 167;(with_reducible refine (bC w0.drew _ y (rb.kept (C4 (B0 _ _)))).mono ?_);rintro e w1_1 ⟨vp,rfl,rp,gw1_1⟩;have hGw1_1:=H5 w0 gw1_1 rfl rfl rfl rfl;have hSw1_1:=(And.intro (hGw1_1.cell Ca0 (by simp)) (And.intro (hGw1_1.cell Ca1 (by simp)) (And.intro (hGw1_1.cell Cb0 (by simp)) (hGw1_1.cell Cb1 (by simp)))));clear gw1_1)
   | (go_at_call 90;(with_reducible refine (T1 w1_1 _ _ x (-y) (ra.kept hGw1_1) rp Hla.out HN.out).mono ?_);rintro e w1_2 ⟨_,rfl,⟨gd,sd,ld,cd,rfl,hd,md⟩,gw1_2⟩;have hGw1_2:=A2 hGw1_1 gw1_2;replace rp:=rp.kept gw1_2;have rd:RIntV w1_2 (.agg #[.int .i64 gd,.slice sd ld cd]) (x + -y):=⟨gd,sd,ld,cd,rfl,hd,md⟩;have hSw1_2:=(And.intro (hGw1_2.cell Ca0 (by simp)) (And.intro (hGw1_2.cell Ca1 (by simp)) (And.intro (hGw1_2.cell Cb0 (by simp)) (hGw1_2.cell Cb1 (by simp)))));clear gw1_2;clear md;(obtain ⟨dq0,dq1,dq2,dq3⟩:=A3 (A1 hGw1_2 Bq));have HSw1_20:=(And.intro ((A3 (B9 (A1 hGw1_2 Ba) (show w.heap.size≠w.heap.size+1+1 by omega) (.int .i64 gd) (.slice sd ld cd))).1) (And.intro ((A3 (B9 (A1 hGw1_2 Ba) (show w.heap.size≠w.heap.size+1+1 by omega) (.int .i64 gd) (.slice sd ld cd))).2.1) (And.intro ((A3 (B9 (A1 hGw1_2 Bb) (show w.heap.size+1≠w.heap.size+1+1 by omega) (.int .i64 gd) (.slice sd ld cd))).1) ((A3 (B9 (A1 hGw1_2 Bb) (show w.heap.size+1≠w.heap.size+1+1 by omega) (.int .i64 gd) (.slice sd ld cd))).2.1))))))
 replace Ba:=A1 hGw1_2 Ba
 replace Bb:=A1 hGw1_2 Bb
 replace Bq:=A1 hGw1_2 Bq
 replace ra:=ra.kept hGw1_2
 replace rb:=rb.kept hGw1_2
 replace hG:=A2 hG hGw1_2
 clear Ca0 Fa0 Ca1 Fa1 Cb0 Fb0 Cb1 Fb1 Cq0 Fq0 Cq1 Fq1
 rw [<- HE.out]
 obtain ⟨k90,k91,k92,k93⟩:=A3 Bq
 obtain ⟨q90,q91,q92,q93⟩:=A3 (D5 Bq (.int .i64 gd) (.slice sd ld cd))
 have hF:Hid (G7 w (x + -y) (.returned (.agg #[.int .i64 gd,.slice sd ld cd])) ((w1_2.setCell ⟨w.heap.size+1+1,0,none⟩ (.int .i64 gd)).setCell ⟨w.heap.size+1+1,1,none⟩ (.slice sd ld cd))):=O8 hG Bq (by omega) rd
 clear ra rb rp rd
 go_wp2_with fail
 exact bodyPost_ret (v := .agg #[.int .i64 gd,.slice sd ld cd]) (by simp [results,Tryz.results185,go_sem,q90,q91]) rfl hF.out
end Go.Proofs.YtamdnbbgpacfkaaGreatDoor
namespace Go.Proofs.YtamdnbbgpacfkaaGreatDoor
open Go.RowKit Mat Ex PM
def RetRR (w:World) (n m:Int) (e:Ending) (w':World):Prop:=∃ v u,e = .returned (.tuple #[v,u])/\RIntV w' v n/\RIntV w' u m/\w.grownBy w' none
def RetRRR (w:World) (n m k:Int) (e:Ending) (w':World):Prop:=∃ v u t,e = .returned (.tuple #[v,u,t])/\RIntV w' v n/\RIntV w' u m/\RIntV w' t k/\w.grownBy w' none
theorem iU {P:Program} {f:FuncId} {args:Array Value} {W:World} {n m k:Int} (h:Calls P f args W (RetRRR W n m k)):Calls P f args W (Ret W (jT n m k).F):=
 h.mono fun _ _ ⟨v,u,t,a,h1,h2,h3,g⟩=>⟨_,a,⟨v,u,t,rfl,h1,h2,h3⟩,g⟩
def sDt (x y d:Int):Sp := .of (.agg 3) (fun v _=>v = .agg #[.int .i64 x,.int .i64 y,.int .i64 d]) (fun v W h=>⟨E8 [.int .i64 x,.int .i64 y,.int .i64 d],B8 (by simp [Value.oneCell']),h⟩) (fun _ _ _ _ h=>h)
theorem dt1 {x y d:Int} {a b c:Value} {W:World} : (sDt x y d).F (.agg #[a,b,c]) W->a = .int .i64 x:=fun h=>by cases h;rfl
theorem dt2 {x y d:Int} {a b c:Value} {W:World} : (sDt x y d).F (.agg #[a,b,c]) W->b = .int .i64 y:=fun h=>by cases h;rfl
theorem dt3 {x y d:Int} {a b c:Value} {W:World} : (sDt x y d).F (.agg #[a,b,c]) W->c = .int .i64 d:=fun h=>by cases h;rfl
def und (d:Int):Int:=1+(IntKind.u64.wrap d)%60
theorem V2 (d:Int) : 0<und d/\und d<=60:=by unfold und;omega
theorem wrap_at (d:Int) : 0<=IntKind.u64.wrap d/\IntKind.u64.wrap d<18446744073709551616:=by
 simp [IntKind.wrap,IntKind.signed,IntKind.bits];omega
theorem D3 {ρ : Operand->Value} {x:Operand} {u:Value} (h:[x].map ρ=[u]) : ρ x=u:=by simpa using h
theorem conv_int {P:Program} {ρ : Operand->Value} {o:Oper} {t t':TypeId} {x:Operand} {k k0 k1:IntKind} {d:Int} {W:World} (ho:o.op = .convert t t' x) (hx : ρ x = .int k0 d) (h0:P.underlying t=some (.int k1)) (h1:P.underlying t'=some (.int k)):(execOp ρ o).run P W = .ok (.value (.int k (k.wrap d))) W:=by
 simp only [execOp,ho,hx,convert,Sem.run_bind,run_underlying h0 W,run_underlying h1 W,Result.andThen_ok,Conv.intToInt,Sem.run_pure]
theorem conv_ui {ρ : Operand->Value} {o:Oper} {x:Operand} {d:Int} {W:World} (ho:o.op = .convert 3 75 x) (hx : ρ x = .int .i64 d):(execOp ρ o).run Tryz.prog W = .ok (.value (.int .u64 (IntKind.u64.wrap d))) W:=
 conv_int (k1 := .i64) ho hx (by kernel_rfl) (by kernel_rfl)
theorem conv_iu {ρ : Operand->Value} {o:Oper} {x:Operand} {d:Int} {W:World} (ho:o.op = .convert 75 3 x) (hx : ρ x = .int .u64 d) (h0 : 0<=d) (h1:d<=1000):(execOp ρ o).run Tryz.prog W = .ok (.value (.int .i64 d)) W:=by
 rw [conv_int (k1 := .u64) (k := .i64) ho hx (by kernel_rfl) (by kernel_rfl),show IntKind.i64.wrap d=d by simp [IntKind.wrap,IntKind.signed,IntKind.bits];omega]
theorem rem_told {P:Program} {ρ : Operand->Value} {o:Oper} {t t':TypeId} {x y:Operand} {d k:Int} {W:World} (ho:o.op = .binOp .rem t x y t') (hx : ρ x = .int .u64 (IntKind.u64.wrap d)) (hy : ρ y = .int .u64 k) (hk : 0<k:=by omega):(execOp ρ o).run P W = .ok (.value (.int .u64 (IntKind.u64.wrap d%k))) W:=by
 have h0:=wrap_at d
 have hm:(IntKind.u64.wrap d).tmod k=IntKind.u64.wrap d%k:=Int.tmod_eq_emod_of_nonneg h0.1
 have hg:eqGuard .rem t x y (.int .u64 (IntKind.u64.wrap d)) (.int .u64 k)=pure ():=by unfold eqGuard;rfl
 have hb:binOp .rem t (.int .u64 (IntKind.u64.wrap d)) (.int .u64 k)=pure (.int .u64 (IntKind.u64.wrap d%k)):=by
  rw [<- hm]
  show Op.intDiv .rem .u64 _ k=_
  unfold Op.intDiv
  rw [if_neg (by omega)]
 simp only [execOp,ho,hx,hy,hg,hb,Sem.run_bind,Sem.run_pure,Result.andThen_ok]
theorem add_100 {t:TypeId} {x y:Int} (h0 : 0<=x+y) (h1:x+y<=1000):binOp .add t (.int .i64 x) (.int .i64 y) = .pure (.int .i64 (x+y)):=by
 show Sem.pure (Value.int .i64 (IntKind.i64.wrap (x+y)))=_
 rw [show IntKind.i64.wrap (x+y)=x+y by simp [IntKind.wrap,IntKind.signed,IntKind.bits];omega]
theorem bD (w:World) (x y d:Int) :
 Calls Tryz.prog 37 #[.agg #[.int .i64 x,.int .i64 y,.int .i64 d]] w (fun e w'=>e = .returned (.int .i64 (und d))/\w.grownBy w' none):=by
 refine A6 B6 Tryz.func37 [sDt x y d] [sC (.int .u64 (IntKind.u64.wrap d)) rfl,sC (.int .u64 (IntKind.u64.wrap d%60)) rfl,sZ (IntKind.u64.wrap d%60),sZ (und d)] (.cons rfl .nil) (rs:=[co 1 (.convert 3 75 (.tmp 4)) 75 [.v false [.an 0 2]] [0] [],co 2 (.binOp .rem 75 (.tmp 5) (.const (.int .u64 60)) 75) 75 [on 1,.v false [.lit (.int .u64 60)]] [0,1] [],co 3 (.convert 75 3 (.tmp 6)) 3 [on 2] [0,1,2] [],co 4 (.binOp .add 3 (.const (.int .i64 1)) (.tmp 7) 3) 3 [.v false [.lit (.int .i64 1)],on 3] [0,1,2,3] []]) (out:=on 4) (nc:=5) (by kernel_rfl)
  ⟨fun σ W g h hb=>fun ρ o ho _ hv=>⟨_,conv_ui ho ((D3 hv).trans (dt3 (h 0 rfl))),rfl⟩,
  fun σ W g h hb=>fun ρ o ho _ hv=>⟨_,rem_told ho ((A0 hv).1.trans (h 1 rfl)) (A0 hv).2,rfl⟩,
  fun σ W g h hb=>fun ρ o ho _ hv=>⟨_,conv_iu ho ((D3 hv).trans (h 2 rfl)) (by omega) (by omega),rfl⟩,
  fun σ W g h hb=>fun ρ o ho _ hv=>⟨_,C5 ho (A0 hv).1 ((A0 hv).2.trans (h 3 rfl)) (add_100 (by omega) (by omega)),rfl⟩,
  trivial⟩ fun τ W g h=>⟨congrArg Ending.returned (h 4 rfl),g⟩
theorem dJ (d:Int) : -9223372036854775808<=und d/\und d<=9223372036854775807:=by have:=V2 d;omega
theorem X7 (w:World) (x y d:Int) (h1 : -9223372036854775808<=x) (h2:x<=9223372036854775807) (h3 : -9223372036854775808<=y) (h4:y<=9223372036854775807) :
 Calls Tryz.prog 10 #[.agg #[.int .i64 x,.int .i64 y,.int .i64 d]] w (RetH w ⟨x,y,und d⟩):=by
 refine A6 B6 Tryz.func10 [sDt x y d] [sR x,sR y,sZ (und d),sR (und d)] (.cons rfl .nil) (rs:=[cl 1 36 [on 0],cl 2 36 [.v false [.an 0 1]],cl 3 37 [ag 3 0],cl 4 36 [on 3]]) (out := .v true [.an 1 0,.an 1 1,.an 2 0,.an 2 1,.an 4 0,.an 4 1]) (nc:=5) (by kernel_rfl)
  ⟨fun σ W g h hb=>kE (dt1 (h 0 rfl)) (P5 W x h1 h2),
  fun σ W g h hb=>kE (dt2 (h 0 rfl)) (P5 W y h3 h4),
  fun σ W g h hb=>dG (congrArg (fun v=>[v]) (h 0 rfl)) (bD W x y d) |>.mono fun _ _ ⟨a,g⟩=>⟨_,a,rfl,g⟩,
  fun σ W g h hb=>kE (h 3 rfl) (P5 W _ (dJ d).1 (dJ d).2),
  trivial⟩ fun τ W g h=>⟨_,rfl,mkh (h 1 rfl) (h 2 rfl) (h 4 rfl),g⟩
theorem rHOf_any (w:World) (x y:Int) (h1 : -9223372036854775808<=x) (h2:x<=9223372036854775807) (h3 : -9223372036854775808<=y) (h4:y<=9223372036854775807) :
 Calls Tryz.prog 35 #[.int .i64 x,.int .i64 y] w (RetH w ⟨x,y,1⟩):=by
 refine A6 B6 Tryz.func35 [sZ x,sZ y] [sR x,sR y,sR 1] (.cons rfl (.cons rfl .nil)) (rs:=[cl 2 36 [on 0],cl 3 36 [on 1],cl 4 36 [.v false [.lit (.int .i64 1)]]]) (out := .v true [.an 2 0,.an 2 1,.an 3 0,.an 3 1,.an 4 0,.an 4 1]) (nc:=5) (by kernel_rfl)
  ⟨fun σ W g h hb=>kE (h 0 rfl) (P5 W x h1 h2),
  fun σ W g h hb=>kE (h 1 rfl) (P5 W y h3 h4),
  fun σ W g h hb=>P5 W 1 (by omega) (by omega),
  trivial⟩ fun τ W g h=>⟨_,rfl,mkh (h 2 rfl) (h 3 rfl) (h 4 rfl),g⟩
theorem C0 (w:World) (va vb:Value) (x y:Int) (E:Nat) (Ha:RIntV w va x) (Hb:RIntV w vb y) (hE:E<=1000000) (l1:x.natAbs<D^E) (l2:y.natAbs<D^E) :
 Calls Tryz.prog 44 #[va,vb] w (G7 w (x*y)):=by
 refine A6 B6 Tryz.func44 [sR x,sR y] [sR (x*y)] (.cons Ha (.cons Hb .nil)) (rs:=[cl 2 89 [ag 2 0,ag 2 1]]) (out:=ag 2 2) (nc:=3) (by kernel_rfl)
  ⟨fun σ W g h hb=>C6 W _ _ _ _ (h 0 rfl) (h 1 rfl) (dp6 l1 hE) (dp6 l2 hE),
  trivial⟩ fun τ W g h=>⟨_,rfl,h 2 rfl,g⟩
theorem J8 (w:World) (va vb:Value) (x y:Int) (E:Nat) (Ha:RIntV w va x) (Hb:RIntV w vb y) (hE:E<=1000000) (l1:x.natAbs<D^E) (l2:y.natAbs<D^E) :
 Calls Tryz.prog 140 #[va,vb] w (G7 w (x-y)):=by
 refine A6 B6 Tryz.func140 [sR x,sR y] [sR (x-y)] (.cons Ha (.cons Hb .nil)) (rs:=[cl 2 185 [ag 2 0,ag 2 1]]) (out:=ag 2 2) (nc:=3) (by kernel_rfl)
  ⟨fun σ W g h hb=>rZSub_any W _ _ _ _ (h 0 rfl) (h 1 rfl) (dp6 l1 hE) (dp6 l2 hE),
  trivial⟩ fun τ W g h=>⟨_,rfl,h 2 rfl,g⟩
theorem rHadd_any (w:World) (va vb:Value) (x y:Int) (E:Nat) (Ha:RIntV w va x) (Hb:RIntV w vb y) (hE:E<=1000000) (l1:x.natAbs<D^E) (l2:y.natAbs<D^E) :
 Calls Tryz.prog 139 #[va,vb] w (G7 w (x+y)):=by
 refine A6 B6 Tryz.func139 [sR x,sR y] [sR (x+y)] (.cons Ha (.cons Hb .nil)) (rs:=[cl 2 90 [ag 2 0,ag 2 1]]) (out:=ag 2 2) (nc:=3) (by kernel_rfl)
  ⟨fun σ W g h hb=>T1 W _ _ _ _ (h 0 rfl) (h 1 rfl) (dp6 l1 hE) (dp6 l2 hE),
  trivial⟩ fun τ W g h=>⟨_,rfl,h 2 rfl,g⟩
theorem aC (w:World) (va vb:Value) (a b:H3) (E:Nat) (Ha:HV w va a) (Hb:HV w vb b) (hE:E<=10000) (ba:HB E a) (bb:HB E b) :
 Calls Tryz.prog 92 #[va,vb] w (RetRR w (hlx a b) (hly a b)):=by
 refine A6 B6 Tryz.func92 [sH a,sH b] [sR (b.x*a.z),sR (a.x*b.z),sR (hlx a b),sR (b.y*a.z),sR (a.y*b.z),sR (hly a b)] (.cons Ha (.cons Hb .nil)) (rs:=[cl 2 44 [ag 2 1,.v true [.an 0 4,.an 0 5]],cl 3 44 [ag 2 0,.v true [.an 1 4,.an 1 5]],cl 4 140 [ag 2 2,ag 2 3],cl 5 44 [.v true [.an 1 2,.an 1 3],.v true [.an 0 4,.an 0 5]],cl 6 44 [.v true [.an 0 2,.an 0 3],.v true [.an 1 4,.an 1 5]],cl 7 140 [ag 2 5,ag 2 6]]) (out := .tup [(true,[.an 4 0,.an 4 1]),(true,[.an 7 0,.an 7 1])]) (nc:=8) (by kernel_rfl)
  ⟨fun σ W g h hb=>C0 W _ _ _ _ E (h31 (h 1 rfl)) (h33 (h 0 rfl)) (by omega) bb.1 ba.2.2,
  fun σ W g h hb=>C0 W _ _ _ _ E (h31 (h 0 rfl)) (h33 (h 1 rfl)) (by omega) ba.1 bb.2.2,
  fun σ W g h hb=>J8 W _ _ _ _ (E+E) (h 2 rfl) (h 3 rfl) (by omega) (A9 bb.1 ba.2.2) (A9 ba.1 bb.2.2),
  fun σ W g h hb=>C0 W _ _ _ _ E (h32 (h 1 rfl)) (h33 (h 0 rfl)) (by omega) bb.2.1 ba.2.2,
  fun σ W g h hb=>C0 W _ _ _ _ E (h32 (h 0 rfl)) (h33 (h 1 rfl)) (by omega) ba.2.1 bb.2.2,
  fun σ W g h hb=>J8 W _ _ _ _ (E+E) (h 5 rfl) (h 6 rfl) (by omega) (A9 bb.2.1 ba.2.2) (A9 ba.2.1 bb.2.2),
  trivial⟩ fun τ W g h=>⟨_,_,rfl,h 4 rfl,h 7 rfl,g⟩
theorem D2 (w:World) (va vb:Value) (a b:H3) (E:Nat) (Ha:HV w va a) (Hb:HV w vb b) (hE:E<=10000) (ba:HB E a) (bb:HB E b) (za : 0<a.z) (zb : 0<b.z) :
 Calls Tryz.prog 15 #[va,vb] w (fun e w'=>e = .returned (.int .i64 (F0 (rp a) (rp b)))/\w.grownBy w' none):=by
 by_cases h1:E9 (rp a).1 (rp b).1=0
 · skip
   unfold F0
   rw [if_pos h1]
   refine A6 B6 Tryz.func15 [sH a,sH b] [sR (a.x*b.z),sR (b.x*a.z),sZ (E9 (rp a).1 (rp b).1),sV (.bool false),sR (a.y*b.z),sR (b.y*a.z),sZ (E9 (rp a).2 (rp b).2)] (.cons Ha (.cons Hb .nil)) (rs:=[cl 2 44 [ag 2 0,.v true [.an 1 4,.an 1 5]],cl 3 44 [ag 2 1,.v true [.an 0 4,.an 0 5]],cl 4 43 [ag 2 2,ag 2 3],co 5 (.binOp .neq 3 (.tmp 17) (.const (.int .i64 0)) 3) 4 [on 4,.v false [.lit (.int .i64 0)]] [0,1,2,3,4] [],cl 6 44 [.v true [.an 0 2,.an 0 3],.v true [.an 1 4,.an 1 5]],cl 7 44 [.v true [.an 1 2,.an 1 3],.v true [.an 0 4,.an 0 5]],cl 8 43 [ag 2 6,ag 2 7]]) (out:=on 8) (nc:=9) (by kernel_rfl)
    ⟨fun σ W g h hb=>C0 W _ _ _ _ E (h31 (h 0 rfl)) (h33 (h 1 rfl)) (by omega) ba.1 bb.2.2,
    fun σ W g h hb=>C0 W _ _ _ _ E (h31 (h 1 rfl)) (h33 (h 0 rfl)) (by omega) bb.1 ba.2.2,
    fun σ W g h hb=>toZ (F9 W _ _ _ _ (h 2 rfl) (h 3 rfl) (dp6 (A9 ba.1 bb.2.2) (by omega)) (dp6 (A9 bb.1 ba.2.2) (by omega))) (gY za zb).1,
    fun σ W g h hb=>fun ρ o ho _ hv=>⟨_,N0 false ho ((A0 hv).1.trans (h 4 rfl)) (A0 hv).2 (decide_eq_true h1),rfl⟩,
    fun σ W g h hb=>C0 W _ _ _ _ E (h32 (h 0 rfl)) (h33 (h 1 rfl)) (by omega) ba.2.1 bb.2.2,
    fun σ W g h hb=>C0 W _ _ _ _ E (h32 (h 1 rfl)) (h33 (h 0 rfl)) (by omega) bb.2.1 ba.2.2,
    fun σ W g h hb=>toZ (F9 W _ _ _ _ (h 6 rfl) (h 7 rfl) (dp6 (A9 ba.2.1 bb.2.2) (by omega)) (dp6 (A9 bb.2.1 ba.2.2) (by omega))) (gY za zb).2,
    trivial⟩ fun τ W g h=>⟨congrArg Ending.returned (h 8 rfl),g⟩
 · skip
   unfold F0
   rw [if_neg h1]
   refine A6 B6 Tryz.func15 [sH a,sH b] [sR (a.x*b.z),sR (b.x*a.z),sZ (E9 (rp a).1 (rp b).1),sV (.bool true)] (.cons Ha (.cons Hb .nil)) (rs:=[cl 2 44 [ag 2 0,.v true [.an 1 4,.an 1 5]],cl 3 44 [ag 2 1,.v true [.an 0 4,.an 0 5]],cl 4 43 [ag 2 2,ag 2 3],co 5 (.binOp .neq 3 (.tmp 17) (.const (.int .i64 0)) 3) 4 [on 4,.v false [.lit (.int .i64 0)]] [0,1,2,3,4] []]) (out:=on 4) (nc:=6) (by kernel_rfl)
    ⟨fun σ W g h hb=>C0 W _ _ _ _ E (h31 (h 0 rfl)) (h33 (h 1 rfl)) (by omega) ba.1 bb.2.2,
    fun σ W g h hb=>C0 W _ _ _ _ E (h31 (h 1 rfl)) (h33 (h 0 rfl)) (by omega) bb.1 ba.2.2,
    fun σ W g h hb=>toZ (F9 W _ _ _ _ (h 2 rfl) (h 3 rfl) (dp6 (A9 ba.1 bb.2.2) (by omega)) (dp6 (A9 bb.1 ba.2.2) (by omega))) (gY za zb).1,
    fun σ W g h hb=>fun ρ o ho _ hv=>⟨_,N0 true ho ((A0 hv).1.trans (h 4 rfl)) (A0 hv).2 (decide_eq_false h1),rfl⟩,
    trivial⟩ fun τ W g h=>⟨congrArg Ending.returned (h 4 rfl),g⟩
theorem jC (w:World) (va vb vc:Value) (a b c:H3) (E:Nat) (Ha:HV w va a) (Hb:HV w vb b) (Hc:HV w vc c) (hE:E<=10000) (ba:HB E a) (bb:HB E b) (bc:HB E c) :
 Calls Tryz.prog 91 #[va,vb,vc] w (oA w (hdt a b c) (hdn a b c)):=by
 have l1:=ba.less bb
 have l2:=ba.less bc
 refine A6 B6 Tryz.func91 [sH a,sH b,sH c] [sRR (hlx a b) (hly a b),sRR (hlx a c) (hly a c),sR (hlx a b*hlx a c),sR (hly a b*hly a c),sR (hdt a b c),sR (a.z*a.z),sR (b.z*c.z),sR (hdn a b c)] (.cons Ha (.cons Hb (.cons Hc .nil))) (rs:=[cl 3 92 [ag 6 0,ag 6 1],cl 4 92 [ag 6 0,ag 6 2],cl 5 44 [ag 2 3,ag 2 4],cl 6 44 [.v true [.an 3 2,.an 3 3],.v true [.an 4 2,.an 4 3]],cl 7 139 [ag 2 5,ag 2 6],cl 8 44 [.v true [.an 0 4,.an 0 5],.v true [.an 0 4,.an 0 5]],cl 9 44 [.v true [.an 1 4,.an 1 5],.v true [.an 2 4,.an 2 5]],cl 10 44 [ag 2 8,ag 2 9]]) (out := .v true [.an 7 0,.an 7 1,.an 10 0,.an 10 1]) (nc:=11) (by kernel_rfl)
  ⟨fun σ W g h hb=>toRR (aC W _ _ a b E (h 0 rfl) (h 1 rfl) hE ba bb),
  fun σ W g h hb=>toRR (aC W _ _ a c E (h 0 rfl) (h 2 rfl) hE ba bc),
  fun σ W g h hb=>C0 W _ _ _ _ (E+E+1) (rr1 (h 3 rfl)) (rr1 (h 4 rfl)) (by omega) l1.1 l2.1,
  fun σ W g h hb=>C0 W _ _ _ _ (E+E+1) (rr2 (h 3 rfl)) (rr2 (h 4 rfl)) (by omega) l1.2 l2.2,
  fun σ W g h hb=>rHadd_any W _ _ _ _ (E+E+1+(E+E+1)) (h 5 rfl) (h 6 rfl) (by omega) (A9 l1.1 l2.1) (A9 l1.2 l2.2),
  fun σ W g h hb=>C0 W _ _ _ _ E (h33 (h 0 rfl)) (h33 (h 0 rfl)) (by omega) ba.2.2 ba.2.2,
  fun σ W g h hb=>C0 W _ _ _ _ E (h33 (h 1 rfl)) (h33 (h 2 rfl)) (by omega) bb.2.2 bc.2.2,
  fun σ W g h hb=>C0 W _ _ _ _ (E+E) (h 8 rfl) (h 9 rfl) (by omega) (A9 ba.2.2 ba.2.2) (A9 bb.2.2 bc.2.2),
  trivial⟩ fun τ W g h=>⟨_,rfl,jZ (h 7 rfl) (h 10 rfl),g⟩
theorem H7 (w:World) (va vb vc:Value) (a b c:H3) (E:Nat) (Ha:HV w va a) (Hb:HV w vb b) (Hc:HV w vc c) (hE:E<=10000) (ba:HB E a) (bb:HB E b) (bc:HB E c) (za : 0<a.z) (zb : 0<b.z) (zc : 0<c.z) :
 Calls Tryz.prog 47 #[va,vb,vc] w (fun e w'=>e = .returned (.int .i64 (rsg (A4 (rp a) (rp b) (rp c))))/\w.grownBy w' none):=by
 have l1:=ba.less bb
 have l2:=ba.less bc
 refine A6 B6 Tryz.func47 [sH a,sH b,sH c] [sRR (hlx a b) (hly a b),sRR (hlx a c) (hly a c),sR (hlx a b*hly a c),sR (hly a b*hlx a c),sZ (rsg (A4 (rp a) (rp b) (rp c)))] (.cons Ha (.cons Hb (.cons Hc .nil))) (rs:=[cl 3 92 [ag 6 0,ag 6 1],cl 4 92 [ag 6 0,ag 6 2],cl 5 44 [ag 2 3,.v true [.an 4 2,.an 4 3]],cl 6 44 [.v true [.an 3 2,.an 3 3],ag 2 4],cl 7 43 [ag 2 5,ag 2 6]]) (out:=on 7) (nc:=8) (by kernel_rfl)
  ⟨fun σ W g h hb=>toRR (aC W _ _ a b E (h 0 rfl) (h 1 rfl) hE ba bb),
  fun σ W g h hb=>toRR (aC W _ _ a c E (h 0 rfl) (h 2 rfl) hE ba bc),
  fun σ W g h hb=>C0 W _ _ _ _ (E+E+1) (rr1 (h 3 rfl)) (rr2 (h 4 rfl)) (by omega) l1.1 l2.2,
  fun σ W g h hb=>C0 W _ _ _ _ (E+E+1) (rr2 (h 3 rfl)) (rr1 (h 4 rfl)) (by omega) l1.2 l2.1,
  fun σ W g h hb=>toZ (F9 W _ _ _ _ (h 5 rfl) (h 6 rfl) (dp6 (A9 l1.1 l2.2) (by omega)) (dp6 (A9 l1.2 l2.1) (by omega))) (by rw [<- hcr_sign za zb zc, <- fW];rfl),
  trivial⟩ fun τ W g h=>⟨congrArg Ending.returned (h 7 rfl),g⟩
theorem rsg_le {r:Rat} : rsg r<=0 ↔ r<=0:=by
 have h1:=@rsg_pos r
 rcases F4 r with e | e | e
 · have:=rsg_nz.1 e;constructor<;>intro _<;>first | omega | grind
 · have:=rsg_zero.1 e;constructor<;>intro _<;>first | omega | grind
 · have:=h1.1 e;constructor<;>intro _<;>first | omega | grind
theorem C7 (w:World) (va vb:Value) (a b c:H3) (E:Nat) (Ha:HsV w va a b) (Hb:HV w vb c) (hE:E<=10000) (ba:HB E a) (bb:HB E b) (bc:HB E c) (za : 0<a.z) (zb : 0<b.z) (zc : 0<c.z) :
 Calls Tryz.prog 46 #[va,vb] w (RetB w (dec (InS (rp a) (rp b) (rp c)))):=by
 rcases (show A4 (rp a) (rp b) (rp c)≠0\/(A4 (rp a) (rp b) (rp c)=0 /\ ¬ lS (rp c) (rp a) (rp b)<=0)\/(A4 (rp a) (rp b) (rp c)=0/\lS (rp c) (rp a) (rp b)<=0) by grind) with h1 | ⟨h1,h2⟩ | ⟨h1,h2⟩
 · skip
   rw [I1 (fun q=>h1 (ins_doc.1 q).1)]
   refine A6 B6 Tryz.func46 [sHs a b,sH c] [sZ (rsg (A4 (rp a) (rp b) (rp c))),sV (.bool false)] (.cons Ha (.cons Hb .nil)) (rs:=[cl 2 47 [ag 6 0,.v true [.an 0 6,.an 0 7,.an 0 8,.an 0 9,.an 0 10,.an 0 11],ag 6 1],co 3 (.binOp .eql 3 (.tmp 10) (.const (.int .i64 0)) 3) 4 [on 2,.v false [.lit (.int .i64 0)]] [0,1,2] []]) (out := .v false [.lit (.bool false)]) (nc:=4) (by kernel_rfl)
    ⟨fun σ W g h hb=>toZ (H7 W _ _ _ a b c E (hs1 (h 0 rfl)) (hs2 (h 0 rfl)) (h 1 rfl) hE ba bb bc za zb zc) rfl,
    fun σ W g h hb=>fun ρ o ho _ hv=>⟨_,D7 false ho ((A0 hv).1.trans (h 2 rfl)) (A0 hv).2 (decide_eq_false (fun q=>h1 (rsg_zero.1 q))),rfl⟩,
    trivial⟩ fun τ W g h=>⟨rfl,g⟩
 · skip
   rw [I1 (fun q=>h2 (ins_doc.1 q).2)]
   refine A6 B6 Tryz.func46 [sHs a b,sH c] [sZ (rsg (A4 (rp a) (rp b) (rp c))),sV (.bool true),sRF (hdt c a b) (hdn c a b),sV (.bool false)] (.cons Ha (.cons Hb .nil)) (rs:=[cl 2 47 [ag 6 0,.v true [.an 0 6,.an 0 7,.an 0 8,.an 0 9,.an 0 10,.an 0 11],ag 6 1],co 3 (.binOp .eql 3 (.tmp 10) (.const (.int .i64 0)) 3) 4 [on 2,.v false [.lit (.int .i64 0)]] [0,1,2] [],cl 4 91 [ag 6 1,ag 6 0,.v true [.an 0 6,.an 0 7,.an 0 8,.an 0 9,.an 0 10,.an 0 11]],co 5 (.binOp .leq 3 (.tmp 20) (.const (.int .i64 0)) 3) 4 [on 4,.v false [.lit (.int .i64 0)]] [0,1,2,3,4] []]) (out := .v false [.lit (.bool false)]) (nc:=6) (by kernel_rfl)
    ⟨fun σ W g h hb=>toZ (H7 W _ _ _ a b c E (hs1 (h 0 rfl)) (hs2 (h 0 rfl)) (h 1 rfl) hE ba bb bc za zb zc) rfl,
    fun σ W g h hb=>fun ρ o ho _ hv=>⟨_,D7 true ho ((A0 hv).1.trans (h 2 rfl)) (A0 hv).2 (decide_eq_true (rsg_zero.2 h1)),rfl⟩,
    fun σ W g h hb=>jC W _ _ _ c a b E (h 1 rfl) (hs1 (h 0 rfl)) (hs2 (h 0 rfl)) hE bc ba bb,
    fun σ W g h hb=>fun ρ o ho _ hv=>⟨_,L5 false ho ((A0 hv).1.trans (rs1 (rn (h 4 rfl)))) (A0 hv).2 (decide_eq_false (by rw [hdt_sign zc za zb];exact fun q=>h2 (rsg_le.1 q))),rfl⟩,
    trivial⟩ fun τ W g h=>⟨rfl,g⟩
 · skip
   rw [O0 (ins_doc.2 ⟨h1,h2⟩)]
   refine A6 B6 Tryz.func46 [sHs a b,sH c] [sZ (rsg (A4 (rp a) (rp b) (rp c))),sV (.bool true),sRF (hdt c a b) (hdn c a b),sV (.bool true)] (.cons Ha (.cons Hb .nil)) (rs:=[cl 2 47 [ag 6 0,.v true [.an 0 6,.an 0 7,.an 0 8,.an 0 9,.an 0 10,.an 0 11],ag 6 1],co 3 (.binOp .eql 3 (.tmp 10) (.const (.int .i64 0)) 3) 4 [on 2,.v false [.lit (.int .i64 0)]] [0,1,2] [],cl 4 91 [ag 6 1,ag 6 0,.v true [.an 0 6,.an 0 7,.an 0 8,.an 0 9,.an 0 10,.an 0 11]],co 5 (.binOp .leq 3 (.tmp 20) (.const (.int .i64 0)) 3) 4 [on 4,.v false [.lit (.int .i64 0)]] [0,1,2,3,4] []]) (out := .v false [.lit (.bool true)]) (nc:=6) (by kernel_rfl)
    ⟨fun σ W g h hb=>toZ (H7 W _ _ _ a b c E (hs1 (h 0 rfl)) (hs2 (h 0 rfl)) (h 1 rfl) hE ba bb bc za zb zc) rfl,
    fun σ W g h hb=>fun ρ o ho _ hv=>⟨_,D7 true ho ((A0 hv).1.trans (h 2 rfl)) (A0 hv).2 (decide_eq_true (rsg_zero.2 h1)),rfl⟩,
    fun σ W g h hb=>jC W _ _ _ c a b E (h 1 rfl) (hs1 (h 0 rfl)) (hs2 (h 0 rfl)) hE bc ba bb,
    fun σ W g h hb=>fun ρ o ho _ hv=>⟨_,L5 true ho ((A0 hv).1.trans (rs1 (rn (h 4 rfl)))) (A0 hv).2 (decide_eq_true (by rw [hdt_sign zc za zb];exact rsg_le.2 h2)),rfl⟩,
    trivial⟩ fun τ W g h=>⟨rfl,g⟩
theorem jI {p:Prop} (h:dec p=true):p:=Classical.byContradiction fun h2=>by rw [I1 h2] at h;cases h
theorem decNo {p:Prop} (h:dec p=false):¬ p:=fun h2=>by rw [O0 h2] at h;cases h
noncomputable def arN (l:List Pq) (p:Pq):Int:=if dec (OnR l p)=true then 0 else oY l p
theorem ge_told {P:Program} {ρ : Operand->Value} {o:Oper} {t t':TypeId} {x y:Operand} {a:Int} {W:World} (b:Bool) (ho:o.op = .binOp .geq t x y t') (hx : ρ x = .int .i64 a) (hy : ρ y = .int .i64 0) (h:decide (0<=a)=b):(execOp ρ o).run P W = .ok (.value (.bool b)) W:=
 C5 ho hx hy (by rw [<- h];rfl)
theorem w_sm {z:Int} (h0 : -1000<=z) (h1:z<=1000):IntKind.i64.wrap z=z:=by simp [IntKind.wrap,IntKind.signed,IntKind.bits];omega
theorem K9 {t:TypeId} {x y:Int} (h0 : -1000<=x+y) (h1:x+y<=1000):binOp .add t (.int .i64 x) (.int .i64 y) = .pure (.int .i64 (x+y)):=by
 show Sem.pure (Value.int .i64 (IntKind.i64.wrap (x+y)))=_;rw [w_sm h0 h1]
theorem sub_sm {t:TypeId} {x y:Int} (h0 : -1000<=x-y) (h1:x-y<=1000):binOp .sub t (.int .i64 x) (.int .i64 y) = .pure (.int .i64 (x-y)):=by
 show Sem.pure (Value.int .i64 (IntKind.i64.wrap (x-y)))=_;rw [w_sm h0 h1]
theorem mul_sm {t:TypeId} {x y:Int} (h0 : -1000<=x*y) (h1:x*y<=1000):binOp .mul t (.int .i64 x) (.int .i64 y) = .pure (.int .i64 (x*y)):=by
 show Sem.pure (Value.int .i64 (IntKind.i64.wrap (x*y)))=_;rw [w_sm h0 h1]
theorem rE {P:Program} {ρ : Operand->Value} {o:Oper} {t t':TypeId} {x y:Operand} {a k:Int} {W:World} (ho:o.op = .binOp .rem t x y t') (hx : ρ x = .int .i64 a) (hy : ρ y = .int .i64 k) (h0 : 0<=a) (h1:a<=1000) (hk : 0<k):(execOp ρ o).run P W = .ok (.value (.int .i64 (a%k))) W:=by
 have hm:a.tmod k=a%k:=Int.tmod_eq_emod_of_nonneg h0
 have h2 : 0<=a%k:=Int.emod_nonneg _ (by omega)
 have h3:a%k<=a:=by rw [<- hm,Int.tmod_eq_emod_of_nonneg h0];have:=Int.emod_add_mul_ediv a k;have h4 : 0<=k*(a / k):=Int.mul_nonneg (by omega) (Int.ediv_nonneg h0 (by omega));omega
 have hg:eqGuard .rem t x y (.int .i64 a) (.int .i64 k)=pure ():=by unfold eqGuard;rfl
 have hb:binOp .rem t (.int .i64 a) (.int .i64 k)=pure (.int .i64 (a%k)):=by
  show Op.intDiv .rem .i64 _ k=_
  unfold Op.intDiv
  rw [if_neg (by omega),hm]
 simp only [execOp,ho,hx,hy,hg,hb,Sem.run_bind,Sem.run_pure,Result.andThen_ok]
theorem quo_sm {P:Program} {ρ : Operand->Value} {o:Oper} {t t':TypeId} {x y:Operand} {a:Int} {W:World} (ho:o.op = .binOp .quo t x y t') (hx : ρ x = .int .i64 (4*a)) (hy : ρ y = .int .i64 4) (h0 : -1000<=a) (h1:a<=1000):(execOp ρ o).run P W = .ok (.value (.int .i64 a)) W:=by
 have hm:(4*a).tdiv 4=a:=Int.mul_tdiv_cancel_left a (by omega)
 have hg:eqGuard .quo t x y (.int .i64 (4*a)) (.int .i64 4)=pure ():=by unfold eqGuard;rfl
 have hb:binOp .quo t (.int .i64 (4*a)) (.int .i64 4)=pure (.int .i64 a):=by
  show Op.intDiv .quo .i64 _ 4=_
  unfold Op.intDiv
  rw [if_neg (by omega),hm]
  show Sem.pure (Value.int .i64 (IntKind.i64.wrap a))=_
  rw [w_sm (by omega) (by omega)];rfl
 simp only [execOp,ho,hx,hy,hg,hb,Sem.run_bind,Sem.run_pure,Result.andThen_ok]
theorem rQtr_any (w:World) (va vb:Value) (a b:H3) (E:Nat) (Ha:HV w va a) (Hb:HV w vb b) (hE:E<=10000) (ba:HB E a) (bb:HB E b) (za : 0<a.z) (zb : 0<b.z) :
 Calls Tryz.prog 143 #[va,vb] w (fun e w'=>e = .returned (.int .i64 (qtr (rp a) (rp b)))/\w.grownBy w' none):=by
 rcases (show (0<E9 (rp b).1 (rp a).1/\0<=E9 (rp b).2 (rp a).2)\/(0<E9 (rp b).1 (rp a).1 /\ ¬ 0<=E9 (rp b).2 (rp a).2)\/(E9 (rp b).1 (rp a).1<=0/\0<E9 (rp b).2 (rp a).2)\/(E9 (rp b).1 (rp a).1<0/\E9 (rp b).2 (rp a).2<=0)\/(E9 (rp b).1 (rp a).1=0/\E9 (rp b).2 (rp a).2<=0) by omega) with h1 | h1 | h1 | h1 | h1
 · skip
   rw [show qtr (rp a) (rp b)=0 by unfold qtr;repeat (first | rw [if_pos (by omega)] | rw [if_neg (by omega)])]
   refine A6 B6 Tryz.func143 [sH a,sH b] [sR (b.x*a.z),sR (a.x*b.z),sZ (E9 (rp b).1 (rp a).1),sR (b.y*a.z),sR (a.y*b.z),sZ (E9 (rp b).2 (rp a).2),sV (.bool true),sV (.bool true)] (.cons Ha (.cons Hb .nil)) (rs:=[cl 2 89 [ag 2 1,.v true [.an 0 4,.an 0 5]],cl 3 89 [ag 2 0,.v true [.an 1 4,.an 1 5]],cl 4 43 [ag 2 2,ag 2 3],cl 5 89 [.v true [.an 1 2,.an 1 3],.v true [.an 0 4,.an 0 5]],cl 6 89 [.v true [.an 0 2,.an 0 3],.v true [.an 1 4,.an 1 5]],cl 7 43 [ag 2 5,ag 2 6],co 8 (.binOp .gtr 3 (.tmp 29) (.const (.int .i64 0)) 3) 4 [on 4,.v false [.lit (.int .i64 0)]] [0,1,2,3,4,5,6,7] [],co 9 (.binOp .geq 3 (.tmp 32) (.const (.int .i64 0)) 3) 4 [on 7,.v false [.lit (.int .i64 0)]] [0,1,2,3,4,5,6,7,8] []]) (out := .v false [.lit (.int .i64 0)]) (nc:=10) (by kernel_rfl)
    ⟨fun σ W g h hb=>C6 W _ _ _ _ (h31 (h 1 rfl)) (h33 (h 0 rfl)) (dp6 bb.1 (by omega)) (dp6 ba.2.2 (by omega)),
    fun σ W g h hb=>C6 W _ _ _ _ (h31 (h 0 rfl)) (h33 (h 1 rfl)) (dp6 ba.1 (by omega)) (dp6 bb.2.2 (by omega)),
    fun σ W g h hb=>toZ (F9 W _ _ _ _ (h 2 rfl) (h 3 rfl) (dp6 (A9 bb.1 ba.2.2) (by omega)) (dp6 (A9 ba.1 bb.2.2) (by omega))) (gY zb za).1,
    fun σ W g h hb=>C6 W _ _ _ _ (h32 (h 1 rfl)) (h33 (h 0 rfl)) (dp6 bb.2.1 (by omega)) (dp6 ba.2.2 (by omega)),
    fun σ W g h hb=>C6 W _ _ _ _ (h32 (h 0 rfl)) (h33 (h 1 rfl)) (dp6 ba.2.1 (by omega)) (dp6 bb.2.2 (by omega)),
    fun σ W g h hb=>toZ (F9 W _ _ _ _ (h 5 rfl) (h 6 rfl) (dp6 (A9 bb.2.1 ba.2.2) (by omega)) (dp6 (A9 ba.2.1 bb.2.2) (by omega))) (gY zb za).2,
    fun σ W g h hb=>fun ρ o ho _ hv=>⟨_,G6 true ho ((A0 hv).1.trans (h 4 rfl)) (A0 hv).2 (decide_eq_true (by omega)),rfl⟩,
    fun σ W g h hb=>fun ρ o ho _ hv=>⟨_,ge_told true ho ((A0 hv).1.trans (h 7 rfl)) (A0 hv).2 (decide_eq_true (by omega)),rfl⟩,
    trivial⟩ fun τ W g h=>⟨rfl,g⟩
 · skip
   rw [show qtr (rp a) (rp b)=3 by unfold qtr;repeat (first | rw [if_pos (by omega)] | rw [if_neg (by omega)])]
   refine A6 B6 Tryz.func143 [sH a,sH b] [sR (b.x*a.z),sR (a.x*b.z),sZ (E9 (rp b).1 (rp a).1),sR (b.y*a.z),sR (a.y*b.z),sZ (E9 (rp b).2 (rp a).2),sV (.bool true),sV (.bool false),sV (.bool false),sV (.bool false)] (.cons Ha (.cons Hb .nil)) (rs:=[cl 2 89 [ag 2 1,.v true [.an 0 4,.an 0 5]],cl 3 89 [ag 2 0,.v true [.an 1 4,.an 1 5]],cl 4 43 [ag 2 2,ag 2 3],cl 5 89 [.v true [.an 1 2,.an 1 3],.v true [.an 0 4,.an 0 5]],cl 6 89 [.v true [.an 0 2,.an 0 3],.v true [.an 1 4,.an 1 5]],cl 7 43 [ag 2 5,ag 2 6],co 8 (.binOp .gtr 3 (.tmp 29) (.const (.int .i64 0)) 3) 4 [on 4,.v false [.lit (.int .i64 0)]] [0,1,2,3,4,5,6,7] [],co 9 (.binOp .geq 3 (.tmp 32) (.const (.int .i64 0)) 3) 4 [on 7,.v false [.lit (.int .i64 0)]] [0,1,2,3,4,5,6,7,8] [],co 10 (.binOp .leq 3 (.tmp 35) (.const (.int .i64 0)) 3) 4 [on 4,.v false [.lit (.int .i64 0)]] [0,1,2,3,4,5,6,7,8,9] [],co 11 (.binOp .lss 3 (.tmp 41) (.const (.int .i64 0)) 3) 4 [on 4,.v false [.lit (.int .i64 0)]] [0,1,2,3,4,5,6,7,8,9,10] []]) (out := .v false [.lit (.int .i64 3)]) (nc:=12) (by kernel_rfl)
    ⟨fun σ W g h hb=>C6 W _ _ _ _ (h31 (h 1 rfl)) (h33 (h 0 rfl)) (dp6 bb.1 (by omega)) (dp6 ba.2.2 (by omega)),
    fun σ W g h hb=>C6 W _ _ _ _ (h31 (h 0 rfl)) (h33 (h 1 rfl)) (dp6 ba.1 (by omega)) (dp6 bb.2.2 (by omega)),
    fun σ W g h hb=>toZ (F9 W _ _ _ _ (h 2 rfl) (h 3 rfl) (dp6 (A9 bb.1 ba.2.2) (by omega)) (dp6 (A9 ba.1 bb.2.2) (by omega))) (gY zb za).1,
    fun σ W g h hb=>C6 W _ _ _ _ (h32 (h 1 rfl)) (h33 (h 0 rfl)) (dp6 bb.2.1 (by omega)) (dp6 ba.2.2 (by omega)),
    fun σ W g h hb=>C6 W _ _ _ _ (h32 (h 0 rfl)) (h33 (h 1 rfl)) (dp6 ba.2.1 (by omega)) (dp6 bb.2.2 (by omega)),
    fun σ W g h hb=>toZ (F9 W _ _ _ _ (h 5 rfl) (h 6 rfl) (dp6 (A9 bb.2.1 ba.2.2) (by omega)) (dp6 (A9 ba.2.1 bb.2.2) (by omega))) (gY zb za).2,
    fun σ W g h hb=>fun ρ o ho _ hv=>⟨_,G6 true ho ((A0 hv).1.trans (h 4 rfl)) (A0 hv).2 (decide_eq_true (by omega)),rfl⟩,
    fun σ W g h hb=>fun ρ o ho _ hv=>⟨_,ge_told false ho ((A0 hv).1.trans (h 7 rfl)) (A0 hv).2 (decide_eq_false (by omega)),rfl⟩,
    fun σ W g h hb=>fun ρ o ho _ hv=>⟨_,L5 false ho ((A0 hv).1.trans (h 4 rfl)) (A0 hv).2 (decide_eq_false (by omega)),rfl⟩,
    fun σ W g h hb=>fun ρ o ho _ hv=>⟨_,P8 false ho ((A0 hv).1.trans (h 4 rfl)) (A0 hv).2 (decide_eq_false (by omega)),rfl⟩,
    trivial⟩ fun τ W g h=>⟨rfl,g⟩
 · skip
   rw [show qtr (rp a) (rp b)=1 by unfold qtr;repeat (first | rw [if_pos (by omega)] | rw [if_neg (by omega)])]
   refine A6 B6 Tryz.func143 [sH a,sH b] [sR (b.x*a.z),sR (a.x*b.z),sZ (E9 (rp b).1 (rp a).1),sR (b.y*a.z),sR (a.y*b.z),sZ (E9 (rp b).2 (rp a).2),sV (.bool false),sV (.bool true),sV (.bool true)] (.cons Ha (.cons Hb .nil)) (rs:=[cl 2 89 [ag 2 1,.v true [.an 0 4,.an 0 5]],cl 3 89 [ag 2 0,.v true [.an 1 4,.an 1 5]],cl 4 43 [ag 2 2,ag 2 3],cl 5 89 [.v true [.an 1 2,.an 1 3],.v true [.an 0 4,.an 0 5]],cl 6 89 [.v true [.an 0 2,.an 0 3],.v true [.an 1 4,.an 1 5]],cl 7 43 [ag 2 5,ag 2 6],co 8 (.binOp .gtr 3 (.tmp 29) (.const (.int .i64 0)) 3) 4 [on 4,.v false [.lit (.int .i64 0)]] [0,1,2,3,4,5,6,7] [],co 9 (.binOp .leq 3 (.tmp 35) (.const (.int .i64 0)) 3) 4 [on 4,.v false [.lit (.int .i64 0)]] [0,1,2,3,4,5,6,7,8] [],co 10 (.binOp .gtr 3 (.tmp 38) (.const (.int .i64 0)) 3) 4 [on 7,.v false [.lit (.int .i64 0)]] [0,1,2,3,4,5,6,7,8,9] []]) (out := .v false [.lit (.int .i64 1)]) (nc:=11) (by kernel_rfl)
    ⟨fun σ W g h hb=>C6 W _ _ _ _ (h31 (h 1 rfl)) (h33 (h 0 rfl)) (dp6 bb.1 (by omega)) (dp6 ba.2.2 (by omega)),
    fun σ W g h hb=>C6 W _ _ _ _ (h31 (h 0 rfl)) (h33 (h 1 rfl)) (dp6 ba.1 (by omega)) (dp6 bb.2.2 (by omega)),
    fun σ W g h hb=>toZ (F9 W _ _ _ _ (h 2 rfl) (h 3 rfl) (dp6 (A9 bb.1 ba.2.2) (by omega)) (dp6 (A9 ba.1 bb.2.2) (by omega))) (gY zb za).1,
    fun σ W g h hb=>C6 W _ _ _ _ (h32 (h 1 rfl)) (h33 (h 0 rfl)) (dp6 bb.2.1 (by omega)) (dp6 ba.2.2 (by omega)),
    fun σ W g h hb=>C6 W _ _ _ _ (h32 (h 0 rfl)) (h33 (h 1 rfl)) (dp6 ba.2.1 (by omega)) (dp6 bb.2.2 (by omega)),
    fun σ W g h hb=>toZ (F9 W _ _ _ _ (h 5 rfl) (h 6 rfl) (dp6 (A9 bb.2.1 ba.2.2) (by omega)) (dp6 (A9 ba.2.1 bb.2.2) (by omega))) (gY zb za).2,
    fun σ W g h hb=>fun ρ o ho _ hv=>⟨_,G6 false ho ((A0 hv).1.trans (h 4 rfl)) (A0 hv).2 (decide_eq_false (by omega)),rfl⟩,
    fun σ W g h hb=>fun ρ o ho _ hv=>⟨_,L5 true ho ((A0 hv).1.trans (h 4 rfl)) (A0 hv).2 (decide_eq_true (by omega)),rfl⟩,
    fun σ W g h hb=>fun ρ o ho _ hv=>⟨_,G6 true ho ((A0 hv).1.trans (h 7 rfl)) (A0 hv).2 (decide_eq_true (by omega)),rfl⟩,
    trivial⟩ fun τ W g h=>⟨rfl,g⟩
 · skip
   rw [show qtr (rp a) (rp b)=2 by unfold qtr;repeat (first | rw [if_pos (by omega)] | rw [if_neg (by omega)])]
   refine A6 B6 Tryz.func143 [sH a,sH b] [sR (b.x*a.z),sR (a.x*b.z),sZ (E9 (rp b).1 (rp a).1),sR (b.y*a.z),sR (a.y*b.z),sZ (E9 (rp b).2 (rp a).2),sV (.bool false),sV (.bool true),sV (.bool false),sV (.bool true),sV (.bool true)] (.cons Ha (.cons Hb .nil)) (rs:=[cl 2 89 [ag 2 1,.v true [.an 0 4,.an 0 5]],cl 3 89 [ag 2 0,.v true [.an 1 4,.an 1 5]],cl 4 43 [ag 2 2,ag 2 3],cl 5 89 [.v true [.an 1 2,.an 1 3],.v true [.an 0 4,.an 0 5]],cl 6 89 [.v true [.an 0 2,.an 0 3],.v true [.an 1 4,.an 1 5]],cl 7 43 [ag 2 5,ag 2 6],co 8 (.binOp .gtr 3 (.tmp 29) (.const (.int .i64 0)) 3) 4 [on 4,.v false [.lit (.int .i64 0)]] [0,1,2,3,4,5,6,7] [],co 9 (.binOp .leq 3 (.tmp 35) (.const (.int .i64 0)) 3) 4 [on 4,.v false [.lit (.int .i64 0)]] [0,1,2,3,4,5,6,7,8] [],co 10 (.binOp .gtr 3 (.tmp 38) (.const (.int .i64 0)) 3) 4 [on 7,.v false [.lit (.int .i64 0)]] [0,1,2,3,4,5,6,7,8,9] [],co 11 (.binOp .lss 3 (.tmp 41) (.const (.int .i64 0)) 3) 4 [on 4,.v false [.lit (.int .i64 0)]] [0,1,2,3,4,5,6,7,8,9,10] [],co 12 (.binOp .leq 3 (.tmp 44) (.const (.int .i64 0)) 3) 4 [on 7,.v false [.lit (.int .i64 0)]] [0,1,2,3,4,5,6,7,8,9,10,11] []]) (out := .v false [.lit (.int .i64 2)]) (nc:=13) (by kernel_rfl)
    ⟨fun σ W g h hb=>C6 W _ _ _ _ (h31 (h 1 rfl)) (h33 (h 0 rfl)) (dp6 bb.1 (by omega)) (dp6 ba.2.2 (by omega)),
    fun σ W g h hb=>C6 W _ _ _ _ (h31 (h 0 rfl)) (h33 (h 1 rfl)) (dp6 ba.1 (by omega)) (dp6 bb.2.2 (by omega)),
    fun σ W g h hb=>toZ (F9 W _ _ _ _ (h 2 rfl) (h 3 rfl) (dp6 (A9 bb.1 ba.2.2) (by omega)) (dp6 (A9 ba.1 bb.2.2) (by omega))) (gY zb za).1,
    fun σ W g h hb=>C6 W _ _ _ _ (h32 (h 1 rfl)) (h33 (h 0 rfl)) (dp6 bb.2.1 (by omega)) (dp6 ba.2.2 (by omega)),
    fun σ W g h hb=>C6 W _ _ _ _ (h32 (h 0 rfl)) (h33 (h 1 rfl)) (dp6 ba.2.1 (by omega)) (dp6 bb.2.2 (by omega)),
    fun σ W g h hb=>toZ (F9 W _ _ _ _ (h 5 rfl) (h 6 rfl) (dp6 (A9 bb.2.1 ba.2.2) (by omega)) (dp6 (A9 ba.2.1 bb.2.2) (by omega))) (gY zb za).2,
    fun σ W g h hb=>fun ρ o ho _ hv=>⟨_,G6 false ho ((A0 hv).1.trans (h 4 rfl)) (A0 hv).2 (decide_eq_false (by omega)),rfl⟩,
    fun σ W g h hb=>fun ρ o ho _ hv=>⟨_,L5 true ho ((A0 hv).1.trans (h 4 rfl)) (A0 hv).2 (decide_eq_true (by omega)),rfl⟩,
    fun σ W g h hb=>fun ρ o ho _ hv=>⟨_,G6 false ho ((A0 hv).1.trans (h 7 rfl)) (A0 hv).2 (decide_eq_false (by omega)),rfl⟩,
    fun σ W g h hb=>fun ρ o ho _ hv=>⟨_,P8 true ho ((A0 hv).1.trans (h 4 rfl)) (A0 hv).2 (decide_eq_true (by omega)),rfl⟩,
    fun σ W g h hb=>fun ρ o ho _ hv=>⟨_,L5 true ho ((A0 hv).1.trans (h 7 rfl)) (A0 hv).2 (decide_eq_true (by omega)),rfl⟩,
    trivial⟩ fun τ W g h=>⟨rfl,g⟩
 · skip
   rw [show qtr (rp a) (rp b)=3 by unfold qtr;repeat (first | rw [if_pos (by omega)] | rw [if_neg (by omega)])]
   refine A6 B6 Tryz.func143 [sH a,sH b] [sR (b.x*a.z),sR (a.x*b.z),sZ (E9 (rp b).1 (rp a).1),sR (b.y*a.z),sR (a.y*b.z),sZ (E9 (rp b).2 (rp a).2),sV (.bool false),sV (.bool true),sV (.bool false),sV (.bool false)] (.cons Ha (.cons Hb .nil)) (rs:=[cl 2 89 [ag 2 1,.v true [.an 0 4,.an 0 5]],cl 3 89 [ag 2 0,.v true [.an 1 4,.an 1 5]],cl 4 43 [ag 2 2,ag 2 3],cl 5 89 [.v true [.an 1 2,.an 1 3],.v true [.an 0 4,.an 0 5]],cl 6 89 [.v true [.an 0 2,.an 0 3],.v true [.an 1 4,.an 1 5]],cl 7 43 [ag 2 5,ag 2 6],co 8 (.binOp .gtr 3 (.tmp 29) (.const (.int .i64 0)) 3) 4 [on 4,.v false [.lit (.int .i64 0)]] [0,1,2,3,4,5,6,7] [],co 9 (.binOp .leq 3 (.tmp 35) (.const (.int .i64 0)) 3) 4 [on 4,.v false [.lit (.int .i64 0)]] [0,1,2,3,4,5,6,7,8] [],co 10 (.binOp .gtr 3 (.tmp 38) (.const (.int .i64 0)) 3) 4 [on 7,.v false [.lit (.int .i64 0)]] [0,1,2,3,4,5,6,7,8,9] [],co 11 (.binOp .lss 3 (.tmp 41) (.const (.int .i64 0)) 3) 4 [on 4,.v false [.lit (.int .i64 0)]] [0,1,2,3,4,5,6,7,8,9,10] []]) (out := .v false [.lit (.int .i64 3)]) (nc:=12) (by kernel_rfl)
    ⟨fun σ W g h hb=>C6 W _ _ _ _ (h31 (h 1 rfl)) (h33 (h 0 rfl)) (dp6 bb.1 (by omega)) (dp6 ba.2.2 (by omega)),
    fun σ W g h hb=>C6 W _ _ _ _ (h31 (h 0 rfl)) (h33 (h 1 rfl)) (dp6 ba.1 (by omega)) (dp6 bb.2.2 (by omega)),
    fun σ W g h hb=>toZ (F9 W _ _ _ _ (h 2 rfl) (h 3 rfl) (dp6 (A9 bb.1 ba.2.2) (by omega)) (dp6 (A9 ba.1 bb.2.2) (by omega))) (gY zb za).1,
    fun σ W g h hb=>C6 W _ _ _ _ (h32 (h 1 rfl)) (h33 (h 0 rfl)) (dp6 bb.2.1 (by omega)) (dp6 ba.2.2 (by omega)),
    fun σ W g h hb=>C6 W _ _ _ _ (h32 (h 0 rfl)) (h33 (h 1 rfl)) (dp6 ba.2.1 (by omega)) (dp6 bb.2.2 (by omega)),
    fun σ W g h hb=>toZ (F9 W _ _ _ _ (h 5 rfl) (h 6 rfl) (dp6 (A9 bb.2.1 ba.2.2) (by omega)) (dp6 (A9 ba.2.1 bb.2.2) (by omega))) (gY zb za).2,
    fun σ W g h hb=>fun ρ o ho _ hv=>⟨_,G6 false ho ((A0 hv).1.trans (h 4 rfl)) (A0 hv).2 (decide_eq_false (by omega)),rfl⟩,
    fun σ W g h hb=>fun ρ o ho _ hv=>⟨_,L5 true ho ((A0 hv).1.trans (h 4 rfl)) (A0 hv).2 (decide_eq_true (by omega)),rfl⟩,
    fun σ W g h hb=>fun ρ o ho _ hv=>⟨_,G6 false ho ((A0 hv).1.trans (h 7 rfl)) (A0 hv).2 (decide_eq_false (by omega)),rfl⟩,
    fun σ W g h hb=>fun ρ o ho _ hv=>⟨_,P8 false ho ((A0 hv).1.trans (h 4 rfl)) (A0 hv).2 (decide_eq_false (by omega)),rfl⟩,
    trivial⟩ fun τ W g h=>⟨rfl,g⟩
end Go.Proofs.YtamdnbbgpacfkaaGreatDoor
namespace Go.Proofs.YtamdnbbgpacfkaaGreatDoor.PM
def pX (p q:Pq):Rat:=p.1*q.2-p.2*q.1
end Go.Proofs.YtamdnbbgpacfkaaGreatDoor.PM
