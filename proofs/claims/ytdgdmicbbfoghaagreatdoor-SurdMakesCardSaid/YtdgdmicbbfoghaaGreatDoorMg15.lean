/- What the laws lean on, part 15. -/
import Derived.Below
import Derived.BigCall
import Derived.BigQuiet
import Derived.BigRegion
import Derived.Deep.AppendLies
import Derived.Deep.CutBlock
import Derived.Deep.CutRange
import Derived.Deep.DeepCutAuto
import Derived.Deep.DeepHandedRow
import Derived.Deep.LoopGhost
import Derived.Deep.MidRow
import Derived.Deep.QuietTactic
import Derived.Deep.RegionHeld3
import Derived.Deep.RegionLaw
import Derived.Deep.WholeRow
import Derived.Laws.AppendOwn
import Derived.Laws.Concat
import Derived.Laws.CopyOwn
import Derived.Laws.Externs
import Derived.Laws.IdiomStrings
import Derived.Lib.BitFns
import Derived.Lib.Bytealg
import Derived.Lib.Hide
import Derived.Lib.Slices
import Derived.Lib.Small
import Derived.Lib.Strings
import Derived.Lib.Walk
import Derived.LoopN
import Derived.OpenShut
import Derived.OrdersHeld
import Derived.OrdersIn
import Derived.Outline
import Derived.OwnWalk
import Derived.ProofKit
import Derived.RangeFuncCalls
import Derived.RangeFuncNested
import Derived.RangeFuncOwn
import Derived.Shelf.Bits.Mul64
import Derived.Shelf.Spec.TrailingZeros
import Derived.StillTailTactics
import Derived.WalkKit
import Derived.WalkLawsBesides
import Derived.WalkSpells
import Derived.Test.YtdgdmicbbfoghaaGreatDoorProg
import Derived.Test.YtdgdmicbbfoghaaGreatDoorRows
import Derived.Test.YtdgdmicbbfoghaaGreatDoorMg12
set_option linter.unusedVariables false
set_option linter.unusedSimpArgs false
set_option maxRecDepth 100000
namespace Go.Proofs.YtdgdmicbbfoghaaGreatDoor
open Go.RowKit Mat
def Far (g:Nat) (w:World) (s:Option Addr) (xs:List Nat):Prop:=xs=[] \/ ∃ (b off:Nat) (cs:Array Value),s=some ⟨b,off,none⟩/\b≠g/\RBlk w b cs/\RAt cs off xs
theorem Far.rd {g:Nat} {w:World} {s:Option Addr} {xs:List Nat} (h:Far g w s xs):RRdo w s xs:=by
 rcases h with h | ⟨b,off,cs,e,_,h1,h2⟩
 · exact Or.inl h
 · exact Or.inr ⟨b,off,cs,e,h1,h2⟩
theorem Far.kept {g:Nat} {w w':World} {s:Option Addr} {xs:List Nat} (h:Far g w s xs) (hg:w.grownBy w' none):Far g w' s xs:=by
 rcases h with h | ⟨b,off,cs,e,hn,h1,h2⟩
 · exact Or.inl h
 · exact Or.inr ⟨b,off,cs,e,hn,h1.kept hg (by simp),h2⟩
theorem Far.setCell {g:Nat} {w:World} {s:Option Addr} {xs:List Nat} (h:Far g w s xs) (o:Nat) (v:Value):Far g (w.setCell ⟨g,o,none⟩ v) s xs:=by
 rcases h with h | ⟨b,off,cs,e,hn,h1,h2⟩
 · exact Or.inl h
 · refine Or.inr ⟨b,off,cs,e,hn,(Below.heap_setCell _ _ _ _ ?_).trans h1,h2⟩
   simpa using hn
theorem Ints.kept {w w':World} {g:Nat} {zs:List Nat} (h:Ints w g zs) (hg:w.grownBy w' none):Ints w' g zs:=RBlk.kept h hg (by simp)
def Boxed (w:World) (b n:Nat):Prop:=∃ s k c,w.heap[b]?=some (.cells #[.slice s k c] 53 (0,0))/\RefV w (.agg #[.slice s k c]) n
theorem Far.take {g:Nat} {w:World} {s:Option Addr} {xs:List Nat} (h:Far g w s xs) (k:Nat):Far g w s (xs.take k):=by
 rcases h with h | ⟨b,off,cs,e,hn,h1,h2⟩
 · exact Or.inl (by rw [h];simp)
 · exact Or.inr ⟨b,off,cs,e,hn,h1,h2.take k⟩
theorem Far.set_other {w:World} {s:Option Addr} {xs:List Nat} {g b7:Nat} {c:Array Value} {t:TypeId} (h:Far g w s xs) (hbox:w.heap[b7]?=some (.cells c t (0,0))) (ht:t≠3) (o:Nat) (u:Value):Far g (w.setCell ⟨b7,o,none⟩ u) s xs:=by
 rcases h with h | ⟨b,off,cs,e,hn,h1,h2⟩
 · exact Or.inl h
 · refine Or.inr ⟨b,off,cs,e,hn,(Below.heap_setCell _ _ _ _ ?_).trans h1,h2⟩
   intro e2
   simp only at e2
   unfold RBlk at h1
   subst e2
   rw [hbox] at h1
   simp at h1
   exact ht h1.2
theorem Boxed.cell {w:World} {b n:Nat} (h:Boxed w b n):∃ s k c,w.heap[b]?=some (.cells #[.slice s k c] 53 (0,0))/\RefV w (.agg #[.slice s k c]) n:=h
theorem Boxed.kept {w w':World} {b n:Nat} (h:Boxed w b n) (hg:w.grownBy w' none):Boxed w' b n:=by
 obtain ⟨s,k,c,h1,h2⟩:=h
 exact ⟨s,k,c,A1 hg h1,h2.kept hg⟩
theorem Boxed.set {w:World} {b n:Nat} {u:Value} {s:Option Addr} {k c:Nat} (h:w.heap[b]?=some (.cells #[u] 53 (0,0))) (hv:RefV w (.agg #[.slice s k c]) n):Boxed (w.setCell ⟨b,0,none⟩ (.slice s k c)) b n:=
 ⟨s,k,c,jU h _,hv.set_other h (by decide) 0 _⟩
end Go.Proofs.YtdgdmicbbfoghaaGreatDoor
namespace Go.Proofs.YtdgdmicbbfoghaaGreatDoor
open Go.RowKit Mat Ex
def RQ (w:World) (v:Value) (r:Rat) (E:Nat):Prop:=∃ (g:Int) (s:Option Addr) (l c:Nat) (g':Int) (s':Option Addr) (l' c':Nat) (n d:Int),v = .agg #[.int .i64 g,.slice s l c,.int .i64 g',.slice s' l' c']/\RIntV w (.agg #[.int .i64 g,.slice s l c]) n/\RIntV w (.agg #[.int .i64 g',.slice s' l' c']) d/\Hid (0<d/\Rat.divInt n d=r/\n.natAbs<D^E/\d.natAbs<D^E)
theorem RQ.kept {w w':World} {v:Value} {r:Rat} {E:Nat} (h:RQ w v r E) (hg:w.grownBy w' none):RQ w' v r E:=by
 obtain ⟨g,s,l,c,g',s',l',c',n,d,e,h1,h2,h3⟩:=h
 exact ⟨g,s,l,c,g',s',l',c',n,d,e,h1.kept hg,h2.kept hg,h3⟩
theorem dpw {a E M:Nat} (h:a<D^E) (hE:E<=M):a<D^M:=Nat.lt_of_lt_of_le h (Nat.pow_le_pow_right mS hE)
theorem RQ.mono {w:World} {v:Value} {r:Rat} {E M:Nat} (h:RQ w v r E) (hE:E<=M):RQ w v r M:=by
 obtain ⟨g,s,l,c,g',s',l',c',n,d,e,h1,h2,h3,h4,h5,h6⟩:=h
 exact ⟨g,s,l,c,g',s',l',c',n,d,e,h1,h2,h3,h4,dpw h5 hE,dpw h6 hE⟩
def RetRQ (w:World) (r:Rat) (E:Nat) (e:Ending) (w':World):Prop:=∃ v,e = .returned v/\RQ w' v r E/\w.grownBy w' none
def dB (w:World) (r:Rat) (E:Nat) (code:Int) (e:Ending) (w':World):Prop:=∃ v,e = .returned (.tuple #[v,.int .i64 code])/\RQ w' v r E/\w.grownBy w' none
theorem RQ.of {w:World} {g g':Int} {s s':Option Addr} {l c l' c':Nat} {n d:Int} {r:Rat} {E:Nat} (h1:RIntV w (.agg #[.int .i64 g,.slice s l c]) n) (h2:RIntV w (.agg #[.int .i64 g',.slice s' l' c']) d) (h3 : 0<d) (h4:Rat.divInt n d=r) (h5:n.natAbs<D^E) (h6:d.natAbs<D^E):RQ w (.agg #[.int .i64 g,.slice s l c,.int .i64 g',.slice s' l' c']) r E:=
 ⟨g,s,l,c,g',s',l',c',n,d,rfl,h1,h2,h3,h4,h5,h6⟩
theorem dneg_bd {x:Int} {E:Nat} (hx:x.natAbs<D^E):(-x).natAbs<D^E:=by rw [Int.natAbs_neg];exact hx
theorem RRdo.keeps {W W':World} {sa:Option Addr} {xs:List Nat} (h:RRdo W sa xs) (k:Keeps L6 W W'):RRdo W' sa xs:=by
 rcases h with h | ⟨b,off,cs,e,h1,h2⟩
 · exact Or.inl h
 · exact Or.inr ⟨b,off,cs,e,k b cs _ _ rfl h1,h2⟩
theorem RefV.keeps {W W':World} {v:Value} {n:Nat} (h:RefV W v n) (k:Keeps L6 W W'):RefV W' v n:=by
 obtain ⟨s,l,cap,xs,e,h1,h2,h3,h4⟩:=h
 exact ⟨s,l,cap,xs,e,h1,h2,h3.keeps k,h4⟩
theorem RIntV.keeps {W W':World} {v:Value} {z:Int} (h:RIntV W v z) (k:Keeps L6 W W'):RIntV W' v z:=by
 obtain ⟨g,s,l,c,e,h1,h2⟩:=h
 exact ⟨g,s,l,c,e,h1,h2.keeps k⟩
theorem RQ.keeps {W W':World} {v:Value} {r:Rat} {E:Nat} (h:RQ W v r E) (k:Keeps L6 W W'):RQ W' v r E:=by
 obtain ⟨g,s,l,c,g',s',l',c',n,d,e,h1,h2,h3⟩:=h
 exact ⟨g,s,l,c,g',s',l',c',n,d,e,h1.keeps k,h2.keeps k,h3⟩
def RF (w:World) (v:Value) (n d:Int):Prop:=∃ (g:Int) (s:Option Addr) (l c:Nat) (g':Int) (s':Option Addr) (l' c':Nat),v = .agg #[.int .i64 g,.slice s l c,.int .i64 g',.slice s' l' c']/\RIntV w (.agg #[.int .i64 g,.slice s l c]) n/\RIntV w (.agg #[.int .i64 g',.slice s' l' c']) d
theorem RF.keeps {W W':World} {v:Value} {n d:Int} (h:RF W v n d) (k:Keeps L6 W W'):RF W' v n d:=by
 obtain ⟨g,s,l,c,g',s',l',c',e,h1,h2⟩:=h
 exact ⟨g,s,l,c,g',s',l',c',e,h1.keeps k,h2.keeps k⟩
theorem RF.rq {w:World} {v:Value} {n d:Int} {r:Rat} {E:Nat} (h:RF w v n d) (h0 : 0<d) (hr:Rat.divInt n d=r) (hn:n.natAbs<D^E) (hd:d.natAbs<D^E):RQ w v r E:=by
 obtain ⟨g,s,l,c,g',s',l',c',e,h1,h2⟩:=h
 exact ⟨g,s,l,c,g',s',l',c',n,d,e,h1,h2,h0,hr,hn,hd⟩
def sR (z:Int):Sp := .of (.agg 2) (fun v W=>RIntV W v z) (fun v W h=>by
 obtain ⟨g,s,l,c,rfl,_⟩:=h
 exact ⟨P5 [.int .i64 g,.slice s l c],F4 (by simp [Value.oneCell']),rfl⟩) (fun v W W' k h=>h.keeps k)
theorem rs1 {W:World} {a b:Value} {z:Int} : RIntV W (.agg #[a,b]) z->a = .int .i64 z.sign:=by
 rintro ⟨g,s,l,c,e,h1,h2⟩;cases e;rw [show g=z.sign from h1]
theorem rn {W:World} {a b c d:Value} {n m:Int} : RF W (.agg #[a,b,c,d]) n m->RIntV W (.agg #[a,b]) n:=by
 rintro ⟨g,s,l,k,g',s',l',k',e,h,h'⟩;cases e;exact h
theorem rd {W:World} {a b c d:Value} {n m:Int} : RF W (.agg #[a,b,c,d]) n m->RIntV W (.agg #[c,d]) m:=by
 rintro ⟨g,s,l,k,g',s',l',k',e,h,h'⟩;cases e;exact h'
theorem mkrf {W:World} {a b c d:Value} {n m:Int} (h:RIntV W (.agg #[a,b]) n) (h':RIntV W (.agg #[c,d]) m):RF W (.agg #[a,b,c,d]) n m:=by
 obtain ⟨g,s,l,k,e,h1⟩:=h
 obtain ⟨g',s',l',k',e',h1'⟩:=h'
 cases e;cases e'
 exact ⟨g,s,l,k,g',s',l',k',rfl,⟨g,s,l,k,rfl,h1⟩,g',s',l',k',rfl,h1'⟩
def RetRF (w:World) (n d:Int) (e:Ending) (w':World):Prop:=∃ v,e = .returned v/\RF w' v n d/\w.grownBy w' none
section
variable {P:Program} {f:FuncId} {args:Array Value} {W:World}
end
theorem d51:(1:Int).natAbs<D^5:=by unfold D;decide
theorem dint {n:Int} (h1 : -9223372036854775808<=n) (h2:n<=9223372036854775807):n.natAbs<D^5:=by
 have:(100000000000000000000:Nat)=D^5:=by unfold D;decide
 omega
theorem rFOf_any (w:World) (n:Int) (h1 : -9223372036854775808<=n) (h2:n<=9223372036854775807) :
 Calls Tryz.prog 115 #[.int .i64 n] w (RetRF w n 1):=by
 refine A6 B5 Tryz.func115 [sZ n] [sR n,sR 1] (.cons rfl .nil) (rs:=[cl 1 61 [on 0],cl 2 61 [.v false [.lit (.int .i64 1)]]]) (out := .v true [.an 1 0,.an 1 1,.an 2 0,.an 2 1]) (nc:=3) (by kernel_rfl)
  ⟨fun σ W g h hb=>R0 (h 0 rfl) (dV W n h1 h2),
  fun σ W g h hb=>dV W 1 (by omega) (by omega),
  trivial⟩ fun τ W g h=>⟨_,rfl,mkrf (h 1 rfl) (h 2 rfl),g⟩
def sRQ (r:Rat) (E:Nat):Sp := .of (.agg 4) (fun v W=>RQ W v r E) (fun v W h=>by
 obtain ⟨g,s,l,c,g',s',l',c',n,d,rfl,_⟩:=h
 exact ⟨P5 [.int .i64 g,.slice s l c,.int .i64 g',.slice s' l' c'],F4 (by simp [Value.oneCell']),rfl⟩) (fun v W W' k h=>h.keeps k)
def sZc (p:Prop) (z:Int):Sp := .of .one (fun v _=>v = .int .i64 z/\p) (fun v W e=>⟨fun _ => .int .i64 z,fun _=>rfl,e.1⟩) (fun _ _ _ _ h=>h)
theorem rFMake_any (w:World) (va vb:Value) (n d:Int) (Ha:RIntV w va n) (Hb:RIntV w vb d) :
 Calls Tryz.prog 123 #[va,vb] w (RetRF w (if d<0 then -n else n) (if d<0 then -d else d)):=by
 by_cases h1:d<0
 · skip
   rw [if_pos h1,if_pos h1]
   refine A6 B5 Tryz.func123 [sR n,sR d] [sV (.bool true),sR (-n),sR (-d)] (.cons Ha (.cons Hb .nil)) (rs:=[co 2 (.binOp .lss 3 (.tmp 6) (.const (.int .i64 0)) 3) 4 [on 1,.v false [.lit (.int .i64 0)]] [0,1] [],cl 3 128 [ag 2 0],cl 4 128 [ag 2 1]]) (out := .v true [.an 3 0,.an 3 1,.an 4 0,.an 4 1]) (nc:=5) (by kernel_rfl)
    ⟨fun σ W g h hb=>fun ρ o ho _ hv=>⟨_,A5 ho ((A0 hv).1.trans (rs1 (h 1 rfl))) (A0 hv).2 rfl,congrArg Value.bool (decide_eq_true (Int.sign_eq_neg_one_of_neg h1 ▸ by decide))⟩,
    fun σ W g h hb=>rNeg_any W _ n (h 0 rfl),
    fun σ W g h hb=>rNeg_any W _ d (h 1 rfl),
    trivial⟩ fun τ W g h=>⟨_,rfl,mkrf (h 3 rfl) (h 4 rfl),g⟩
 · skip
   rw [if_neg h1,if_neg h1]
   refine A6 B5 Tryz.func123 [sR n,sR d] [sV (.bool false)] (.cons Ha (.cons Hb .nil)) (rs:=[co 2 (.binOp .lss 3 (.tmp 6) (.const (.int .i64 0)) 3) 4 [on 1,.v false [.lit (.int .i64 0)]] [0,1] []]) (out := .v true [.an 0 0,.an 0 1,.an 1 0,.an 1 1]) (nc:=3) (by kernel_rfl)
    ⟨fun σ W g h hb=>fun ρ o ho _ hv=>⟨_,A5 ho ((A0 hv).1.trans (rs1 (h 1 rfl))) (A0 hv).2 rfl,congrArg Value.bool (decide_eq_false (fun z=>h1 (Int.sign_neg_iff.1 (by omega))))⟩,
    trivial⟩ fun τ W g h=>⟨_,rfl,mkrf (h 0 rfl) (h 1 rfl),g⟩
theorem dW (w:World) (n:Int) (h1 : -9223372036854775808<=n) (h2:n<=9223372036854775807):Calls Tryz.prog 115 #[.int .i64 n] w (RetRQ w (n:Rat) 5):=
 (rFOf_any w n h1 h2).mono fun _ _ ⟨v,e,h,g⟩=>⟨v,e,h.rq (by omega) (by rw [Rat.divInt_eq_div,show ((1:Int):Rat)=1 from rfl,Rat.div_def];grind) (dint h1 h2) d51,g⟩
theorem RQ.eq {w:World} {v:Value} {r t:Rat} {E:Nat} (e:r=t) (h:RQ w v t E):RQ w v r E:=e ▸ h
theorem pE (w:World) (va vb:Value) (x y:Int) (E:Nat) (Ha:RIntV w va x) (Hb:RIntV w vb y) (h0:y≠0) (la:x.natAbs<D^E) (lb:y.natAbs<D^E) :
 Calls Tryz.prog 123 #[va,vb] w (RetRQ w (Rat.divInt x y) E):=by
 refine (rFMake_any w va vb x y Ha Hb).mono fun e w' ⟨v,e1,h,g⟩=>⟨v,e1, ?_,g⟩
 by_cases h1:y<0
 · rw [if_pos h1,if_pos h1] at h
   exact h.rq (by omega) (Rat.neg_divInt_neg x y) (dneg_bd la) (dneg_bd lb)
 · rw [if_neg h1,if_neg h1] at h
   exact h.rq (by omega) rfl la lb
end Go.Proofs.YtdgdmicbbfoghaaGreatDoor
namespace Go.Proofs.YtdgdmicbbfoghaaGreatDoor
open Go.RowKit Mat
def G0 (w:World) (z:Int) (code:Int) (e:Ending) (w':World):Prop:=∃ v,e = .returned (.tuple #[v,.int .i64 code])/\RIntV w' v z/\w.grownBy w' none
theorem aC {w w':World} {z code:Int} {g:Nat} {a0 a1 v0 v1:Value} (hg:w.grownBy w' none) (hbox:w'.heap[g]?=some (.cells #[a0,a1] 55 (0,0))) (hl:w.heap.size<=g) (h:RIntV w' (.agg #[v0,v1]) z) :
 G0 w z code (.returned (.tuple #[.agg #[v0,v1],.int .i64 code])) ((w'.setCell ⟨g,0,none⟩ v0).setCell ⟨g,1,none⟩ v1):=
 ⟨_,rfl,(h.set_other hbox (by decide) 0 v0).set_other (mJ hbox v0) (by decide) 1 v1,bT hg hl v0 v1⟩
theorem dec_why {s:ByteArray} (h:¬ S9 (bts s)):s.size=0\/(∃ hp : 0<s.size,(s[0]'hp).toNat=48/\1<s.size)\/(0<s.size/\(∀ hp : 0<s.size,1<s.size->(s[0]'hp).toNat≠48) /\ ¬ ∀ j (h:j<s.size),j<s.size->48<=(s[j]'h).toNat/\(s[j]'h).toNat<=57):=by
 rcases Nat.eq_zero_or_pos s.size with h0 | h0
 · exact Or.inl h0
 · right
   by_cases h1 : 1<s.size/\(s[0]'h0).toNat=48
   · left;exact ⟨h0,h1.2,h1.1⟩
   · right
     refine ⟨h0,fun hp h2 h3=>h1 ⟨h2,h3⟩,fun hd=>h ?_⟩
     refine ⟨fun k hk=>?_, ?_⟩
     · have hk':k<s.size:=by rw [C7] at hk;exact hk
       rw [Q7 s k hk'];exact hd k hk' hk'
     · by_cases h2:s.size=1
       · have hl:(bts s).length=1:=by rw [C7];exact h2
         obtain ⟨y,hy⟩:=List.length_eq_one_iff.1 hl
         by_cases h48:y=48
         · left;rw [hy,h48]
         · right;rw [hy];simpa using h48
       · right
         refine ⟨fun e=>?_,fun e=>?_⟩
         · have:=C7 s;rw [e] at this;simp at this;omega
         · rw [Q0 s h0] at e
           exact h1 ⟨by omega,Option.some.inj e⟩
theorem dec_how {s:ByteArray} (h:S9 (bts s)) : 0<s.size/\(∀ hp : 0<s.size,1<s.size->(s[0]'hp).toNat≠48)/\(∀ j (h:j<s.size),j<s.size->48<=(s[j]'h).toNat/\(s[j]'h).toNat<=57):=by
 have h0 : 0<s.size:=by
  rcases Nat.eq_zero_or_pos s.size with h1 | h1
  · have h3:bts s=[]:=List.length_eq_zero_iff.1 (by rw [C7];exact h1)
    rcases h.2 with h4 | h4
    · rw [h3] at h4;simp at h4
    · exact absurd h3 h4.1
  · exact h1
 refine ⟨h0,fun hp h1 e=>?_,fun j hj _=>?_⟩
 · rcases h.2 with h4 | h4
   · have:=C7 s;rw [h4] at this;simp at this;omega
   · exact h4.2 (by rw [Q0 s hp,e])
 · have:=h.1 j (by rw [C7];exact hj)
   rw [Q7 s j hj] at this;exact this
theorem dec_one48 {s:ByteArray} (h0 : 0<s.size) (h:S9 (bts s)) (hm:G7 (bts s)≠0):(s[0]'h0).toNat≠48:=by
 intro e
 rcases h.2 with h4 | h4
 · rw [h4] at hm;exact hm (by decide +kernel)
 · exact h4.2 (by rw [Q0 s h0,e])
theorem sign_one (m:Nat):m=0\/(m:Int).sign=1:=by
 rcases iV (m:Int) with ⟨h,e⟩ | ⟨h,e⟩ | ⟨h,e⟩
 · omega
 · left;omega
 · right;exact e
set_option maxHeartbeats 16000000 in
theorem aR (w:World) (s:ByteArray) :
 Calls Tryz.prog 122 #[.string s] w (G0 w (I3 s) (U6 s)):=by
 by_cases h0 : 4097<s.size
 · skip
   obtain ⟨e1,e2⟩:=zc_long h0
   rw [e1,e2]
   clear e1 e2
   have f1:decide ((4097:Int)<(s.size:Int))=true:=decide_eq_true (by omega)
   have hG:w.grownBy (w.alloc (.cells #[.int .i64 0,.slice none 0 0] 55)) none:=(World.grownBy_alloc _ _ _)
   have Bq:=(A4 w (.cells #[.int .i64 0,.slice none 0 0] 55) (w.heap.size) rfl)
   go_enter Tryz.func122,Tryz.ntmps122
   obtain ⟨Cq0,Cq1,Fq0,Fq1⟩:=A3 Bq
   have hG':w.grownBy (w.alloc (.cells #[.int .i64 0,.slice none 0 0] 55)) none:=(World.grownBy_alloc _ _ _)
   have hF:Hid (G0 w (0) 2 (.returned (.tuple #[.agg #[.int .i64 0,.slice none 0 0],.int .i64 2])) (w.alloc (.cells #[.int .i64 0,.slice none 0 0] 55))):=⟨_,rfl,(RIntV.zero _),hG'⟩
   clear hG'
   go_wp2_with fail
   exact bodyPost_ret (v := .tuple #[.agg #[.int .i64 0,.slice none 0 0],.int .i64 2]) (by simp [results,Tryz.results122,go_sem]) rfl hF.out
 have f1:decide ((4097:Int)<(s.size:Int))=false:=decide_eq_false (by omega)
 have hs:s.size<=4097:=by omega
 clear h0
 cases hn:gQ (bts s)
 · skip
   have HB4:=Lib.hid hs
   have hz:=zdig_pos hn
   have hsig:(decide (0<s.size)=false/\decide ((0:Int)<(s.size:Int))=false)\/(decide (0<s.size)=true/\decide ((0:Int)<(s.size:Int))=true /\ ∃ hp : 0<s.size,∃ x:Nat,(s[0]'hp).toNat=x/\((x:Int) == 45)=false):=by
    rcases Nat.eq_zero_or_pos s.size with h | h
    · left;exact ⟨decide_eq_false (by omega),decide_eq_false (by omega)⟩
    · right;refine ⟨decide_eq_true h,decide_eq_true (by omega),h,_,rfl, ?_⟩
      refine beq_eq_false_iff_ne.2 (fun e=>?_)
      have:gQ (bts s)=true:=by unfold gQ;rw [Q0 s h];have e2:(s[0]'h).toNat=45:=by omega
                               rw [e2];rfl
      rw [hn] at this;cases this
   by_cases hd:S9 (bts s)
   · skip
     have hok:zok (bts s)=true:=(Q4 _).2 ⟨by rw [hz];exact hd,by rw [hn];simp⟩
     obtain ⟨hp9,hx9,hw9⟩:=dec_how hd
     obtain ⟨f2,f3,f4⟩:decide (0<s.size)=true/\decide ((0:Int)<(s.size:Int))=true/\(((s[0]'hp9).toNat:Int) == 45)=false:=by
      rcases hsig with ⟨h,_⟩ | ⟨h1,h2,hp,x,ex,h3⟩
      · exact absurd hp9 (of_decide_eq_false h)
      · exact ⟨h1,h2,by rw [ex];exact h3⟩
     have HX:=Lib.hid hx9
     have HW:=Lib.hid hw9
     clear hw9 hx9 hsig
     by_cases h4:s.size<=4096
     · skip
       obtain ⟨e1,e2⟩:=uG hs hok (by rw [hz,C7];exact h4)
       obtain ⟨m,hm⟩:∃ m,G7 (bts s)=m:=⟨_,rfl⟩
       rw [e1,e2,show mU (bts s)=(m:Int) from by unfold mU;rw [hn,hz,hm];rfl]
       clear e1 e2 hok hz hs hn
       have HD:=Lib.hid hd
       have HZ:=Lib.hid h4
       have HV:=Lib.hid hm
       clear hd h4 hm
       obtain ⟨x0,ex0⟩:∃ x,(s[0]'hp9).toNat=x:=⟨_,rfl⟩
       have HX2:Hid (1<s.size->x0≠48):=fun h=>by rw [<- ex0];exact HX.out hp9 h
       have EX0:=Lib.hid ex0
       clear ex0
       clear HX
       by_cases hx0:x0=48
       · skip
         subst hx0
         have h1:s.size<=1:=by have:=HX2.out;omega
         clear HX2
         have g0:((s.size:Int) == 0)=false:=beq_eq_false_iff_ne.2 (by omega)
         have g1:decide ((1:Int)<(s.size:Int))=false:=decide_eq_false (by omega)
         have ex:(s[0]'hp9).toNat=48:=EX0.out
         clear h1
         have hG:w.grownBy (w.alloc (.cells #[.int .i64 0,.slice none 0 0] 55)) none:=(World.grownBy_alloc _ _ _)
         have Bq:=(A4 w (.cells #[.int .i64 0,.slice none 0 0] 55) (w.heap.size) rfl)
         go_enter Tryz.func122,Tryz.ntmps122
         obtain ⟨Cq0,Cq1,Fq0,Fq1⟩:=A3 Bq
         go_upto_region 8 with fail
         go_wp2_with fail
         generalize (w.alloc (.cells #[.int .i64 0,.slice none 0 0] 55))=w0 at *
         have hb4:s.size<=4097:=HB4.out
         go_loopw [6] (fun i wr=>∃ k:Nat,k<=s.size/\i = .int .i64 k/\w0=wr) (fun i _=>s.size-(intOf i).toNat)
         case atStart=>exact ⟨0,Nat.zero_le _,rfl,rfl⟩
         case round=>
          obtain ⟨k,hk,rfl,rfl⟩:=hrel
          by_cases hlt:k<s.size
          · skip
            obtain ⟨y,ey⟩:∃ y,(s[k]'hlt).toNat=y:=⟨_,rfl⟩
            have hy : 48<=y/\y<=57:=ey ▸ HW.out k hlt hlt
            have f5:decide ((y:Int)<48)=false:=decide_eq_false (by omega)
            have f6:decide ((57:Int)<(y:Int))=false:=decide_eq_false (by omega)
            go_wp2_with fail
            go_roundw
            case rel=>exact ⟨k+1,by omega,by go_num,by trivial⟩
            case measure=>simp [intOf];omega
          · skip
            obtain rfl:k=s.size:=by omega
            go_wp2_with fail
            clear Cq0 Fq0 Cq1 Fq1
            refine (aV w0 s HZ.out HD.out).mono ?_
            rintro e w1 ⟨_,rfl,⟨sn,ln,cn,yn,rfl,hn⟩,gw1⟩
            have mn:RefV w1 (.agg #[.slice sn ln cn]) (G7 (bts s)):=⟨sn,ln,cn,yn,rfl,hn⟩
            replace Bq:=A1 gw1 Bq
            replace hG:=A2 hG gw1
            clear gw1
            clear hn
            obtain ⟨Cq0,Cq1,Fq0,Fq1⟩:=A3 Bq
            have gbw1:=(World.grownBy_alloc w1 (.cells #[.slice sn ln cn] 53) none)
            have Bn:=(A4 w1 (.cells #[.slice sn ln cn] 53) (w1.heap.size) rfl)
            have hzw1:Hid (w.heap.size<=w1.heap.size):=Lib.hid hG.size
            have hlqw1:Hid (w.heap.size<w1.heap.size):=Lib.hid (Array.getElem?_eq_some_iff.1 Bq).1
            clear Cq0 Fq0 Cq1 Fq1
            replace Bq:=A1 gbw1 Bq
            replace mn:=mn.kept gbw1
            replace hG:=A2 hG gbw1
            clear gbw1
            obtain ⟨Cq0,Cq1,Fq0,Fq1⟩:=A3 Bq
            obtain ⟨Cn0,Fn0⟩:=A7 Bn
            go_wp2_with fail
            generalize (w1.alloc (.cells #[.slice sn ln cn] 53))=w2 at *
            generalize w1.heap.size=aw1 at *
            replace hzw1:=hzw1.out
            replace hlqw1:=hlqw1.out
            clear Cq0 Fq0 Cq1 Fq1 Cn0 Fn0
            refine (T6 w2 _ 1 (G7 (bts s)) (m:Int) mn (by rw [HV.out];omega) (by rw [HV.out];exact sign_one m)).mono ?_
            rintro e w3 ⟨_,rfl,⟨gd,sd,ld,cd,rfl,hd,md⟩,gw3⟩
            have rd:RIntV w3 (.agg #[.int .i64 gd,.slice sd ld cd]) ((m:Int)):=⟨gd,sd,ld,cd,rfl,hd,md⟩
            replace Bq:=A1 gw3 Bq
            replace Bn:=A1 gw3 Bn
            replace mn:=mn.kept gw3
            replace hG:=A2 hG gw3
            clear gw3
            clear md
            obtain ⟨Cq0,Cq1,Fq0,Fq1⟩:=A3 Bq
            obtain ⟨Cn0,Fn0⟩:=A7 Bn
            clear Cq0 Fq0 Cq1 Fq1 Cn0 Fn0
            obtain ⟨k90,k91,k92,k93⟩:=A3 Bq
            obtain ⟨q90,q91,q92,q93⟩:=A3 (B7 Bq (.int .i64 gd) (.slice sd ld cd))
            have hF:Hid (G0 w ((m:Int)) 0 (.returned (.tuple #[.agg #[.int .i64 gd,.slice sd ld cd],.int .i64 0])) ((w3.setCell ⟨w.heap.size,0,none⟩ (.int .i64 gd)).setCell ⟨w.heap.size,1,none⟩ (.slice sd ld cd))):=aC hG Bq (by omega) rd
            clear mn rd
            obtain ⟨Cn0,Fn0⟩:=A7 Bn
            go_wp2_with fail
            exact bodyPost_ret (v := .tuple #[.agg #[.int .i64 gd,.slice sd ld cd],.int .i64 0]) (by simp [results,Tryz.results122,go_sem,q90,q91]) rfl hF.out
       · skip
         have g2:((x0:Int) == 48)=false:=beq_eq_false_iff_ne.2 (by omega)
         clear hx0 HX2
         have ex:(s[0]'hp9).toNat=x0:=EX0.out
         have g0:((s.size:Int) == 0)=false:=beq_eq_false_iff_ne.2 (by omega)
         have hG:w.grownBy (w.alloc (.cells #[.int .i64 0,.slice none 0 0] 55)) none:=(World.grownBy_alloc _ _ _)
         have Bq:=(A4 w (.cells #[.int .i64 0,.slice none 0 0] 55) (w.heap.size) rfl)
         go_enter Tryz.func122,Tryz.ntmps122
         obtain ⟨Cq0,Cq1,Fq0,Fq1⟩:=A3 Bq
         go_upto_region 8 with fail
         go_wp2_with fail
         generalize (w.alloc (.cells #[.int .i64 0,.slice none 0 0] 55))=w0 at *
         have hb4:s.size<=4097:=HB4.out
         go_loopw [6] (fun i wr=>∃ k:Nat,k<=s.size/\i = .int .i64 k/\w0=wr) (fun i _=>s.size-(intOf i).toNat)
         case atStart=>exact ⟨0,Nat.zero_le _,rfl,rfl⟩
         case round=>
          obtain ⟨k,hk,rfl,rfl⟩:=hrel
          by_cases hlt:k<s.size
          · skip
            obtain ⟨y,ey⟩:∃ y,(s[k]'hlt).toNat=y:=⟨_,rfl⟩
            have hy : 48<=y/\y<=57:=ey ▸ HW.out k hlt hlt
            have f5:decide ((y:Int)<48)=false:=decide_eq_false (by omega)
            have f6:decide ((57:Int)<(y:Int))=false:=decide_eq_false (by omega)
            go_wp2_with fail
            go_roundw
            case rel=>exact ⟨k+1,by omega,by go_num,by trivial⟩
            case measure=>simp [intOf];omega
          · skip
            obtain rfl:k=s.size:=by omega
            go_wp2_with fail
            clear Cq0 Fq0 Cq1 Fq1
            refine (aV w0 s HZ.out HD.out).mono ?_
            rintro e w1 ⟨_,rfl,⟨sn,ln,cn,yn,rfl,hn⟩,gw1⟩
            have mn:RefV w1 (.agg #[.slice sn ln cn]) (G7 (bts s)):=⟨sn,ln,cn,yn,rfl,hn⟩
            replace Bq:=A1 gw1 Bq
            replace hG:=A2 hG gw1
            clear gw1
            clear hn
            obtain ⟨Cq0,Cq1,Fq0,Fq1⟩:=A3 Bq
            have gbw1:=(World.grownBy_alloc w1 (.cells #[.slice sn ln cn] 53) none)
            have Bn:=(A4 w1 (.cells #[.slice sn ln cn] 53) (w1.heap.size) rfl)
            have hzw1:Hid (w.heap.size<=w1.heap.size):=Lib.hid hG.size
            have hlqw1:Hid (w.heap.size<w1.heap.size):=Lib.hid (Array.getElem?_eq_some_iff.1 Bq).1
            clear Cq0 Fq0 Cq1 Fq1
            replace Bq:=A1 gbw1 Bq
            replace mn:=mn.kept gbw1
            replace hG:=A2 hG gbw1
            clear gbw1
            obtain ⟨Cq0,Cq1,Fq0,Fq1⟩:=A3 Bq
            obtain ⟨Cn0,Fn0⟩:=A7 Bn
            go_wp2_with fail
            generalize (w1.alloc (.cells #[.slice sn ln cn] 53))=w2 at *
            generalize w1.heap.size=aw1 at *
            replace hzw1:=hzw1.out
            replace hlqw1:=hlqw1.out
            clear Cq0 Fq0 Cq1 Fq1 Cn0 Fn0
            refine (T6 w2 _ 1 (G7 (bts s)) (m:Int) mn (by rw [HV.out];omega) (by rw [HV.out];exact sign_one m)).mono ?_
            rintro e w3 ⟨_,rfl,⟨gd,sd,ld,cd,rfl,hd,md⟩,gw3⟩
            have rd:RIntV w3 (.agg #[.int .i64 gd,.slice sd ld cd]) ((m:Int)):=⟨gd,sd,ld,cd,rfl,hd,md⟩
            replace Bq:=A1 gw3 Bq
            replace Bn:=A1 gw3 Bn
            replace mn:=mn.kept gw3
            replace hG:=A2 hG gw3
            clear gw3
            clear md
            obtain ⟨Cq0,Cq1,Fq0,Fq1⟩:=A3 Bq
            obtain ⟨Cn0,Fn0⟩:=A7 Bn
            clear Cq0 Fq0 Cq1 Fq1 Cn0 Fn0
            obtain ⟨k90,k91,k92,k93⟩:=A3 Bq
            obtain ⟨q90,q91,q92,q93⟩:=A3 (B7 Bq (.int .i64 gd) (.slice sd ld cd))
            have hF:Hid (G0 w ((m:Int)) 0 (.returned (.tuple #[.agg #[.int .i64 gd,.slice sd ld cd],.int .i64 0])) ((w3.setCell ⟨w.heap.size,0,none⟩ (.int .i64 gd)).setCell ⟨w.heap.size,1,none⟩ (.slice sd ld cd))):=aC hG Bq (by omega) rd
            clear mn rd
            obtain ⟨Cn0,Fn0⟩:=A7 Bn
            go_wp2_with fail
            exact bodyPost_ret (v := .tuple #[.agg #[.int .i64 gd,.slice sd ld cd],.int .i64 0]) (by simp [results,Tryz.results122,go_sem,q90,q91]) rfl hF.out
     · skip
       have h5 : 4096<s.size:=by omega
       obtain ⟨e1,e2⟩:=zc_many hs hok (by rw [hz,C7];exact h5)
       rw [e1,e2]
       clear e1 e2 hok hz h4 hn hs
       have HD:=Lib.hid hd
       have HZ:=Lib.hid h5
       clear hd h5
       obtain ⟨x0,ex0⟩:∃ x,(s[0]'hp9).toNat=x:=⟨_,rfl⟩
       have HX2:Hid (1<s.size->x0≠48):=fun h=>by rw [<- ex0];exact HX.out hp9 h
       have EX0:=Lib.hid ex0
       clear ex0
       clear HX
       by_cases hx0:x0=48
       · skip
         subst hx0
         have h1:s.size<=1:=by have:=HX2.out;omega
         clear HX2
         have g0:((s.size:Int) == 0)=false:=beq_eq_false_iff_ne.2 (by omega)
         have g1:decide ((1:Int)<(s.size:Int))=false:=decide_eq_false (by omega)
         have ex:(s[0]'hp9).toNat=48:=EX0.out
         clear h1
         have hG:w.grownBy (w.alloc (.cells #[.int .i64 0,.slice none 0 0] 55)) none:=(World.grownBy_alloc _ _ _)
         have Bq:=(A4 w (.cells #[.int .i64 0,.slice none 0 0] 55) (w.heap.size) rfl)
         go_enter Tryz.func122,Tryz.ntmps122
         obtain ⟨Cq0,Cq1,Fq0,Fq1⟩:=A3 Bq
         go_upto_region 8 with fail
         go_wp2_with fail
         generalize (w.alloc (.cells #[.int .i64 0,.slice none 0 0] 55))=w0 at *
         have hb4:s.size<=4097:=HB4.out
         go_loopw [6] (fun i wr=>∃ k:Nat,k<=s.size/\i = .int .i64 k/\w0=wr) (fun i _=>s.size-(intOf i).toNat)
         case atStart=>exact ⟨0,Nat.zero_le _,rfl,rfl⟩
         case round=>
          obtain ⟨k,hk,rfl,rfl⟩:=hrel
          by_cases hlt:k<s.size
          · skip
            obtain ⟨y,ey⟩:∃ y,(s[k]'hlt).toNat=y:=⟨_,rfl⟩
            have hy : 48<=y/\y<=57:=ey ▸ HW.out k hlt hlt
            have f5:decide ((y:Int)<48)=false:=decide_eq_false (by omega)
            have f6:decide ((57:Int)<(y:Int))=false:=decide_eq_false (by omega)
            go_wp2_with fail
            go_roundw
            case rel=>exact ⟨k+1,by omega,by go_num,by trivial⟩
            case measure=>simp [intOf];omega
          · skip
            obtain rfl:k=s.size:=by omega
            go_wp2_with fail
            clear Cq0 Fq0 Cq1 Fq1
            refine (mE w0 s HZ.out).mono ?_
            rintro e w1 ⟨_,rfl,⟨sn,ln,cn,yn,rfl,hn⟩,gw1⟩
            have mn:RefV w1 (.agg #[.slice sn ln cn]) (0):=⟨sn,ln,cn,yn,rfl,hn⟩
            replace Bq:=A1 gw1 Bq
            replace hG:=A2 hG gw1
            clear gw1
            clear hn
            obtain ⟨Cq0,Cq1,Fq0,Fq1⟩:=A3 Bq
            have gbw1:=(World.grownBy_alloc w1 (.cells #[.slice sn ln cn] 53) none)
            have Bn:=(A4 w1 (.cells #[.slice sn ln cn] 53) (w1.heap.size) rfl)
            have hzw1:Hid (w.heap.size<=w1.heap.size):=Lib.hid hG.size
            have hlqw1:Hid (w.heap.size<w1.heap.size):=Lib.hid (Array.getElem?_eq_some_iff.1 Bq).1
            clear Cq0 Fq0 Cq1 Fq1
            replace Bq:=A1 gbw1 Bq
            replace mn:=mn.kept gbw1
            replace hG:=A2 hG gbw1
            clear gbw1
            obtain ⟨Cq0,Cq1,Fq0,Fq1⟩:=A3 Bq
            obtain ⟨Cn0,Fn0⟩:=A7 Bn
            clear Cq0 Fq0 Cq1 Fq1 Cn0 Fn0
            obtain ⟨k90,k91,k92,k93⟩:=A3 Bq
            obtain ⟨q90,q91,q92,q93⟩:=A3 (B7 Bq (.int .i64 0) (.slice none 0 0))
            have hF:Hid (G0 w (0) 2 (.returned (.tuple #[.agg #[.int .i64 0,.slice none 0 0],.int .i64 2])) (((w1.alloc (.cells #[.slice sn ln cn] 53)).setCell ⟨w.heap.size,0,none⟩ (.int .i64 0)).setCell ⟨w.heap.size,1,none⟩ (.slice none 0 0))):=aC hG Bq (by omega) (RIntV.zero _)
            clear mn
            obtain ⟨Cn0,Fn0⟩:=A7 Bn
            go_wp2_with fail
            exact bodyPost_ret (v := .tuple #[.agg #[.int .i64 0,.slice none 0 0],.int .i64 2]) (by simp [results,Tryz.results122,go_sem,q90,q91]) rfl hF.out
       · skip
         have g2:((x0:Int) == 48)=false:=beq_eq_false_iff_ne.2 (by omega)
         clear hx0 HX2
         have ex:(s[0]'hp9).toNat=x0:=EX0.out
         have g0:((s.size:Int) == 0)=false:=beq_eq_false_iff_ne.2 (by omega)
         have hG:w.grownBy (w.alloc (.cells #[.int .i64 0,.slice none 0 0] 55)) none:=(World.grownBy_alloc _ _ _)
         have Bq:=(A4 w (.cells #[.int .i64 0,.slice none 0 0] 55) (w.heap.size) rfl)
         go_enter Tryz.func122,Tryz.ntmps122
         obtain ⟨Cq0,Cq1,Fq0,Fq1⟩:=A3 Bq
         go_upto_region 8 with fail
         go_wp2_with fail
         generalize (w.alloc (.cells #[.int .i64 0,.slice none 0 0] 55))=w0 at *
         have hb4:s.size<=4097:=HB4.out
         go_loopw [6] (fun i wr=>∃ k:Nat,k<=s.size/\i = .int .i64 k/\w0=wr) (fun i _=>s.size-(intOf i).toNat)
         case atStart=>exact ⟨0,Nat.zero_le _,rfl,rfl⟩
         case round=>
          obtain ⟨k,hk,rfl,rfl⟩:=hrel
          by_cases hlt:k<s.size
          · skip
            obtain ⟨y,ey⟩:∃ y,(s[k]'hlt).toNat=y:=⟨_,rfl⟩
            have hy : 48<=y/\y<=57:=ey ▸ HW.out k hlt hlt
            have f5:decide ((y:Int)<48)=false:=decide_eq_false (by omega)
            have f6:decide ((57:Int)<(y:Int))=false:=decide_eq_false (by omega)
            go_wp2_with fail
            go_roundw
            case rel=>exact ⟨k+1,by omega,by go_num,by trivial⟩
            case measure=>simp [intOf];omega
          · skip
            obtain rfl:k=s.size:=by omega
            go_wp2_with fail
            clear Cq0 Fq0 Cq1 Fq1
            refine (mE w0 s HZ.out).mono ?_
            rintro e w1 ⟨_,rfl,⟨sn,ln,cn,yn,rfl,hn⟩,gw1⟩
            have mn:RefV w1 (.agg #[.slice sn ln cn]) (0):=⟨sn,ln,cn,yn,rfl,hn⟩
            replace Bq:=A1 gw1 Bq
            replace hG:=A2 hG gw1
            clear gw1
            clear hn
            obtain ⟨Cq0,Cq1,Fq0,Fq1⟩:=A3 Bq
            have gbw1:=(World.grownBy_alloc w1 (.cells #[.slice sn ln cn] 53) none)
            have Bn:=(A4 w1 (.cells #[.slice sn ln cn] 53) (w1.heap.size) rfl)
            have hzw1:Hid (w.heap.size<=w1.heap.size):=Lib.hid hG.size
            have hlqw1:Hid (w.heap.size<w1.heap.size):=Lib.hid (Array.getElem?_eq_some_iff.1 Bq).1
            clear Cq0 Fq0 Cq1 Fq1
            replace Bq:=A1 gbw1 Bq
            replace mn:=mn.kept gbw1
            replace hG:=A2 hG gbw1
            clear gbw1
            obtain ⟨Cq0,Cq1,Fq0,Fq1⟩:=A3 Bq
            obtain ⟨Cn0,Fn0⟩:=A7 Bn
            clear Cq0 Fq0 Cq1 Fq1 Cn0 Fn0
            obtain ⟨k90,k91,k92,k93⟩:=A3 Bq
            obtain ⟨q90,q91,q92,q93⟩:=A3 (B7 Bq (.int .i64 0) (.slice none 0 0))
            have hF:Hid (G0 w (0) 2 (.returned (.tuple #[.agg #[.int .i64 0,.slice none 0 0],.int .i64 2])) (((w1.alloc (.cells #[.slice sn ln cn] 53)).setCell ⟨w.heap.size,0,none⟩ (.int .i64 0)).setCell ⟨w.heap.size,1,none⟩ (.slice none 0 0))):=aC hG Bq (by omega) (RIntV.zero _)
            clear mn
            obtain ⟨Cn0,Fn0⟩:=A7 Bn
            go_wp2_with fail
            exact bodyPost_ret (v := .tuple #[.agg #[.int .i64 0,.slice none 0 0],.int .i64 2]) (by simp [results,Tryz.results122,go_sem,q90,q91]) rfl hF.out
   · skip
     obtain ⟨e1,e2⟩:=fB hs (fun h=>hd (by have:=((Q4 _).1 h).1;rw [hz] at this;exact this))
     rw [e1,e2]
     clear e1 e2 hz hn hs
     have HD:=Lib.hid hd
     clear hd
     rcases hsig with ⟨f2,f3⟩ | ⟨f2,f3,hp8,x8,ex8,f4⟩
     · skip
       have h9:s.size=0:=by have:=of_decide_eq_false f2;omega
       have g0:((s.size:Int) == 0)=true:=by rw [h9];rfl
       clear h9
       have hG:w.grownBy (w.alloc (.cells #[.int .i64 0,.slice none 0 0] 55)) none:=(World.grownBy_alloc _ _ _)
       have Bq:=(A4 w (.cells #[.int .i64 0,.slice none 0 0] 55) (w.heap.size) rfl)
       go_enter Tryz.func122,Tryz.ntmps122
       obtain ⟨Cq0,Cq1,Fq0,Fq1⟩:=A3 Bq
       have hG':w.grownBy (w.alloc (.cells #[.int .i64 0,.slice none 0 0] 55)) none:=(World.grownBy_alloc _ _ _)
       have hF:Hid (G0 w (0) 3 (.returned (.tuple #[.agg #[.int .i64 0,.slice none 0 0],.int .i64 3])) (w.alloc (.cells #[.int .i64 0,.slice none 0 0] 55))):=⟨_,rfl,(RIntV.zero _),hG'⟩
       clear hG'
       go_wp2_with fail
       exact bodyPost_ret (v := .tuple #[.agg #[.int .i64 0,.slice none 0 0],.int .i64 3]) (by simp [results,Tryz.results122,go_sem]) rfl hF.out
     · skip
       rw [<- ex8] at f4
       clear ex8 x8
       rcases dec_why HD.out with h9 | ⟨hp9,ex9,h9⟩ | ⟨hp9,hx9,hw9⟩
       · omega
       · skip
         rw [ex9] at f4
         have g0:((s.size:Int) == 0)=false:=beq_eq_false_iff_ne.2 (by omega)
         have g1:decide ((1:Int)<(s.size:Int))=true:=decide_eq_true (by omega)
         have hG:w.grownBy (w.alloc (.cells #[.int .i64 0,.slice none 0 0] 55)) none:=(World.grownBy_alloc _ _ _)
         have Bq:=(A4 w (.cells #[.int .i64 0,.slice none 0 0] 55) (w.heap.size) rfl)
         go_enter Tryz.func122,Tryz.ntmps122
         obtain ⟨Cq0,Cq1,Fq0,Fq1⟩:=A3 Bq
         have hG':w.grownBy (w.alloc (.cells #[.int .i64 0,.slice none 0 0] 55)) none:=(World.grownBy_alloc _ _ _)
         have hF:Hid (G0 w (0) 3 (.returned (.tuple #[.agg #[.int .i64 0,.slice none 0 0],.int .i64 3])) (w.alloc (.cells #[.int .i64 0,.slice none 0 0] 55))):=⟨_,rfl,(RIntV.zero _),hG'⟩
         clear hG'
         go_wp2_with fail
         exact bodyPost_ret (v := .tuple #[.agg #[.int .i64 0,.slice none 0 0],.int .i64 3]) (by simp [results,Tryz.results122,go_sem]) rfl hF.out
       · skip
         have HW:=Lib.hid hw9
         have HX:=Lib.hid hx9
         clear hw9 hx9
         obtain ⟨x0,ex0⟩:∃ x,(s[0]'hp9).toNat=x:=⟨_,rfl⟩
         have HX2:Hid (1<s.size->x0≠48):=fun h=>by rw [<- ex0];exact HX.out hp9 h
         have EX0:=Lib.hid ex0
         clear ex0
         clear HX
         by_cases hx0:x0=48
         · skip
           subst hx0
           have h1:s.size<=1:=by have:=HX2.out;omega
           clear HX2
           have g0:((s.size:Int) == 0)=false:=beq_eq_false_iff_ne.2 (by omega)
           have g1:decide ((1:Int)<(s.size:Int))=false:=decide_eq_false (by omega)
           have ex:(s[0]'hp9).toNat=48:=EX0.out
           clear h1
           have hG:w.grownBy (w.alloc (.cells #[.int .i64 0,.slice none 0 0] 55)) none:=(World.grownBy_alloc _ _ _)
           have Bq:=(A4 w (.cells #[.int .i64 0,.slice none 0 0] 55) (w.heap.size) rfl)
           go_enter Tryz.func122,Tryz.ntmps122
           obtain ⟨Cq0,Cq1,Fq0,Fq1⟩:=A3 Bq
           go_upto_region 8 with fail
           go_wp2_with fail
           generalize (w.alloc (.cells #[.int .i64 0,.slice none 0 0] 55))=w0 at *
           have hb4:s.size<=4097:=HB4.out
           go_loopw [6] (fun i wr=>∃ k:Nat,k<=s.size/\i = .int .i64 k/\w0=wr/\Hid (∀ j (h:j<s.size),j<k->48<=(s[j]'h).toNat/\(s[j]'h).toNat<=57)) (fun i _=>s.size-(intOf i).toNat)
           case atStart=>exact ⟨0,Nat.zero_le _,rfl,rfl,fun j h h0=>absurd h0 (by omega)⟩
           case round=>
            obtain ⟨k,hk,rfl,rfl,hd⟩:=hrel
            by_cases hlt:k<s.size
            · skip
              obtain ⟨y,ey⟩:∃ y,(s[k]'hlt).toNat=y:=⟨_,rfl⟩
              by_cases hy : 48<=y/\y<=57
              · skip
                have f5:decide ((y:Int)<48)=false:=decide_eq_false (by omega)
                have f6:decide ((57:Int)<(y:Int))=false:=decide_eq_false (by omega)
                go_wp2_with fail
                go_roundw
                case rel=>
                 refine ⟨k+1,by omega,by go_num,by trivial,fun j h hj=>?_⟩
                 rcases Nat.lt_or_ge j k with h1 | h1
                 · exact hd.out j h h1
                 · obtain rfl:j=k:=by omega
                   rw [ey];exact hy
                case measure=>simp [intOf];omega
              · skip
                have hF:Hid (∀ u v,G0 w 0 3 (.returned (.tuple #[.agg #[.int .i64 0,.slice none 0 0],.int .i64 3])) ((w0.setCell ⟨w.heap.size,0,none⟩ u).setCell ⟨w.heap.size,1,none⟩ v)):=fun u v=>⟨_,rfl,RIntV.zero _,bT hG (Nat.le_refl _) u v⟩
                obtain ⟨q90,q91,q92,q93⟩:=A3 (B7 Bq (.int .i64 0) (.slice none 0 0))
                go_wp2_with fail
                all_goals first | exact bodyPost_ret (v := .tuple #[.agg #[.int .i64 0,.slice none 0 0],.int .i64 3]) (by simp [results,Tryz.results122,go_sem,q90,q91]) rfl (hF.out _ _) | (exfalso;omega)
            · skip
              obtain rfl:k=s.size:=by omega
              exact absurd hd.out HW.out
         · skip
           have g2:((x0:Int) == 48)=false:=beq_eq_false_iff_ne.2 (by omega)
           clear hx0 HX2
           have ex:(s[0]'hp9).toNat=x0:=EX0.out
           have g0:((s.size:Int) == 0)=false:=beq_eq_false_iff_ne.2 (by omega)
           have hG:w.grownBy (w.alloc (.cells #[.int .i64 0,.slice none 0 0] 55)) none:=(World.grownBy_alloc _ _ _)
           have Bq:=(A4 w (.cells #[.int .i64 0,.slice none 0 0] 55) (w.heap.size) rfl)
           go_enter Tryz.func122,Tryz.ntmps122
           obtain ⟨Cq0,Cq1,Fq0,Fq1⟩:=A3 Bq
           go_upto_region 8 with fail
           go_wp2_with fail
           generalize (w.alloc (.cells #[.int .i64 0,.slice none 0 0] 55))=w0 at *
           have hb4:s.size<=4097:=HB4.out
           go_loopw [6] (fun i wr=>∃ k:Nat,k<=s.size/\i = .int .i64 k/\w0=wr/\Hid (∀ j (h:j<s.size),j<k->48<=(s[j]'h).toNat/\(s[j]'h).toNat<=57)) (fun i _=>s.size-(intOf i).toNat)
           case atStart=>exact ⟨0,Nat.zero_le _,rfl,rfl,fun j h h0=>absurd h0 (by omega)⟩
           case round=>
            obtain ⟨k,hk,rfl,rfl,hd⟩:=hrel
            by_cases hlt:k<s.size
            · skip
              obtain ⟨y,ey⟩:∃ y,(s[k]'hlt).toNat=y:=⟨_,rfl⟩
              by_cases hy : 48<=y/\y<=57
              · skip
                have f5:decide ((y:Int)<48)=false:=decide_eq_false (by omega)
                have f6:decide ((57:Int)<(y:Int))=false:=decide_eq_false (by omega)
                go_wp2_with fail
                go_roundw
                case rel=>
                 refine ⟨k+1,by omega,by go_num,by trivial,fun j h hj=>?_⟩
                 rcases Nat.lt_or_ge j k with h1 | h1
                 · exact hd.out j h h1
                 · obtain rfl:j=k:=by omega
                   rw [ey];exact hy
                case measure=>simp [intOf];omega
              · skip
                have hF:Hid (∀ u v,G0 w 0 3 (.returned (.tuple #[.agg #[.int .i64 0,.slice none 0 0],.int .i64 3])) ((w0.setCell ⟨w.heap.size,0,none⟩ u).setCell ⟨w.heap.size,1,none⟩ v)):=fun u v=>⟨_,rfl,RIntV.zero _,bT hG (Nat.le_refl _) u v⟩
                obtain ⟨q90,q91,q92,q93⟩:=A3 (B7 Bq (.int .i64 0) (.slice none 0 0))
                go_wp2_with fail
                all_goals first | exact bodyPost_ret (v := .tuple #[.agg #[.int .i64 0,.slice none 0 0],.int .i64 3]) (by simp [results,Tryz.results122,go_sem,q90,q91]) rfl (hF.out _ _) | (exfalso;omega)
            · skip
              obtain rfl:k=s.size:=by omega
              exact absurd hd.out HW.out
 · skip
   have hp : 0<s.size:=by
    rcases Nat.eq_zero_or_pos s.size with h | h
    · have:bts s=[]:=List.length_eq_zero_iff.1 (by rw [C7];exact h)
      rw [this] at hn;cases hn
    · exact h
   have f2:decide (0<s.size)=true:=decide_eq_true hp
   have f3:decide ((0:Int)<(s.size:Int))=true:=decide_eq_true (by omega)
   have ex:(s[0]'hp).toNat=45:=by
    unfold gQ at hn
    rw [Q0 s hp] at hn
    simpa using hn
   have hbt:bts (s.extract 1 s.size)=Z7 (bts s):=by rw [eN,zdig_neg hn,List.drop_one]
   have htz:(s.extract 1 s.size).size<=4096:=by rw [ByteArray.size_extract];omega
   have HB4:Hid ((s.extract 1 s.size).size<=4097):=Lib.hid (Nat.le_trans htz (by omega))
   by_cases hd:S9 (bts (s.extract 1 s.size))
   · skip
     obtain ⟨m,hm⟩:∃ m,G7 (bts (s.extract 1 s.size))=m:=⟨_,rfl⟩
     obtain ⟨hp9,hx9,hw9⟩:=dec_how hd
     have HX:=Lib.hid hx9
     have HW:=Lib.hid hw9
     clear hw9 hx9
     rcases Nat.eq_zero_or_pos m with h6 | h6
     · skip
       subst h6
       obtain ⟨e1,e2⟩:=fB hs (fun h=>((Q4 _).1 h).2 ⟨hn,by rw [<- hbt];exact hm⟩)
       rw [e1,e2]
       clear e1 e2 hbt hs htz hn
       have e48:bts (s.extract 1 s.size)=[48]:=lJ hd (cW (by decide +kernel)) (hm.trans (by decide +kernel))
       have ex9:((s.extract 1 s.size)[0]'hp9).toNat=48:=by
        have:=Q0 (s.extract 1 s.size) hp9
        rw [e48] at this;exact (Option.some.inj this).symm
       have h1:(s.extract 1 s.size).size<=1:=by have:=C7 (s.extract 1 s.size);rw [e48] at this;simp only [List.length_cons,List.length_nil] at this;omega
       clear hd hm e48 HX HW
       have EX9:=Lib.hid ex9
       have H1:=Lib.hid h1
       clear ex9 h1
       have hG:w.grownBy (w.alloc (.cells #[.int .i64 0,.slice none 0 0] 55)) none:=(World.grownBy_alloc _ _ _)
       have Bq:=(A4 w (.cells #[.int .i64 0,.slice none 0 0] 55) (w.heap.size) rfl)
       go_enter Tryz.func122,Tryz.ntmps122
       obtain ⟨Cq0,Cq1,Fq0,Fq1⟩:=A3 Bq
       go_upto_region 8 with fail
       generalize s.extract 1 s.size=t at *
       have h1:=H1.out
       have g0:((t.size:Int) == 0)=false:=beq_eq_false_iff_ne.2 (by omega)
       have g1:decide ((1:Int)<(t.size:Int))=false:=decide_eq_false (by omega)
       have ex9:(t[0]'hp9).toNat=48:=EX9.out
       have hG':w.grownBy (w.alloc (.cells #[.int .i64 0,.slice none 0 0] 55)) none:=(World.grownBy_alloc _ _ _)
       have hF:Hid (G0 w (0) 3 (.returned (.tuple #[.agg #[.int .i64 0,.slice none 0 0],.int .i64 3])) (w.alloc (.cells #[.int .i64 0,.slice none 0 0] 55))):=⟨_,rfl,(RIntV.zero _),hG'⟩
       clear hG'
       go_wp2_with fail
       exact bodyPost_ret (v := .tuple #[.agg #[.int .i64 0,.slice none 0 0],.int .i64 3]) (by simp [results,Tryz.results122,go_sem]) rfl hF.out
     · skip
       have hok:zok (bts s)=true:=(Q4 _).2 ⟨by rw [<- hbt];exact hd,by rw [<- hbt,hm];omega⟩
       obtain ⟨e1,e2⟩:=uG hs hok (by rw [<- hbt,C7];exact htz)
       rw [e1,e2,show mU (bts s) = -(m:Int) from by unfold mU;rw [if_pos hn, <- hbt,hm]]
       clear e1 e2 hbt hs hok hn
       have HD:=Lib.hid hd
       have HZ:=Lib.hid htz
       have HV:=Lib.hid hm
       have HP:=Lib.hid h6
       clear hd htz hm h6
       obtain ⟨x0,ex0⟩:∃ x,((s.extract 1 s.size)[0]'hp9).toNat=x:=⟨_,rfl⟩
       have HX2:Hid (1<(s.extract 1 s.size).size->x0≠48):=fun h=>by rw [<- ex0];exact HX.out hp9 h
       have EX0:=Lib.hid ex0
       clear ex0
       clear HX
       have hx0:x0≠48:=by rw [<- EX0.out];exact dec_one48 hp9 HD.out (by rw [HV.out];have:=HP.out;omega)
       have g2:((x0:Int) == 48)=false:=beq_eq_false_iff_ne.2 (by omega)
       clear hx0 HX2
       have hG:w.grownBy (w.alloc (.cells #[.int .i64 0,.slice none 0 0] 55)) none:=(World.grownBy_alloc _ _ _)
       have Bq:=(A4 w (.cells #[.int .i64 0,.slice none 0 0] 55) (w.heap.size) rfl)
       go_enter Tryz.func122,Tryz.ntmps122
       obtain ⟨Cq0,Cq1,Fq0,Fq1⟩:=A3 Bq
       go_upto_region 8 with fail
       generalize s.extract 1 s.size=t at *
       have g0:((t.size:Int) == 0)=false:=beq_eq_false_iff_ne.2 (by omega)
       have ex:(t[0]'hp9).toNat=x0:=EX0.out
       go_wp2_with fail
       generalize (w.alloc (.cells #[.int .i64 0,.slice none 0 0] 55))=w0 at *
       have hb4:t.size<=4097:=HB4.out
       go_loopw [6] (fun i wr=>∃ k:Nat,k<=t.size/\i = .int .i64 k/\w0=wr) (fun i _=>t.size-(intOf i).toNat)
       case atStart=>exact ⟨0,Nat.zero_le _,rfl,rfl⟩
       case round=>
        obtain ⟨k,hk,rfl,rfl⟩:=hrel
        by_cases hlt:k<t.size
        · skip
          obtain ⟨y,ey⟩:∃ y,(t[k]'hlt).toNat=y:=⟨_,rfl⟩
          have hy : 48<=y/\y<=57:=ey ▸ HW.out k hlt hlt
          have f5:decide ((y:Int)<48)=false:=decide_eq_false (by omega)
          have f6:decide ((57:Int)<(y:Int))=false:=decide_eq_false (by omega)
          go_wp2_with fail
          go_roundw
          case rel=>exact ⟨k+1,by omega,by go_num,by trivial⟩
          case measure=>simp [intOf];omega
        · skip
          obtain rfl:k=t.size:=by omega
          go_wp2_with fail
          clear Cq0 Fq0 Cq1 Fq1
          refine (aV w0 t HZ.out HD.out).mono ?_
          rintro e w1 ⟨_,rfl,⟨sn,ln,cn,yn,rfl,hn⟩,gw1⟩
          have mn:RefV w1 (.agg #[.slice sn ln cn]) (G7 (bts t)):=⟨sn,ln,cn,yn,rfl,hn⟩
          replace Bq:=A1 gw1 Bq
          replace hG:=A2 hG gw1
          clear gw1
          clear hn
          obtain ⟨Cq0,Cq1,Fq0,Fq1⟩:=A3 Bq
          have gbw1:=(World.grownBy_alloc w1 (.cells #[.slice sn ln cn] 53) none)
          have Bn:=(A4 w1 (.cells #[.slice sn ln cn] 53) (w1.heap.size) rfl)
          have hzw1:Hid (w.heap.size<=w1.heap.size):=Lib.hid hG.size
          have hlqw1:Hid (w.heap.size<w1.heap.size):=Lib.hid (Array.getElem?_eq_some_iff.1 Bq).1
          clear Cq0 Fq0 Cq1 Fq1
          replace Bq:=A1 gbw1 Bq
          replace mn:=mn.kept gbw1
          replace hG:=A2 hG gbw1
          clear gbw1
          obtain ⟨Cq0,Cq1,Fq0,Fq1⟩:=A3 Bq
          obtain ⟨Cn0,Fn0⟩:=A7 Bn
          go_wp2_with fail
          generalize (w1.alloc (.cells #[.slice sn ln cn] 53))=w2 at *
          generalize w1.heap.size=aw1 at *
          replace hzw1:=hzw1.out
          replace hlqw1:=hlqw1.out
          clear Cq0 Fq0 Cq1 Fq1 Cn0 Fn0
          refine (T6 w2 _ (-1) (G7 (bts t)) (-(m:Int)) mn (by rw [HV.out];omega) (Or.inr (Int.sign_eq_neg_one_of_neg (by have:=HP.out;omega)))).mono ?_
          rintro e w3 ⟨_,rfl,⟨gd,sd,ld,cd,rfl,hd,md⟩,gw3⟩
          have rd:RIntV w3 (.agg #[.int .i64 gd,.slice sd ld cd]) (-(m:Int)):=⟨gd,sd,ld,cd,rfl,hd,md⟩
          replace Bq:=A1 gw3 Bq
          replace Bn:=A1 gw3 Bn
          replace mn:=mn.kept gw3
          replace hG:=A2 hG gw3
          clear gw3
          clear md
          obtain ⟨Cq0,Cq1,Fq0,Fq1⟩:=A3 Bq
          obtain ⟨Cn0,Fn0⟩:=A7 Bn
          clear Cq0 Fq0 Cq1 Fq1 Cn0 Fn0
          obtain ⟨k90,k91,k92,k93⟩:=A3 Bq
          obtain ⟨q90,q91,q92,q93⟩:=A3 (B7 Bq (.int .i64 gd) (.slice sd ld cd))
          have hF:Hid (G0 w (-(m:Int)) 0 (.returned (.tuple #[.agg #[.int .i64 gd,.slice sd ld cd],.int .i64 0])) ((w3.setCell ⟨w.heap.size,0,none⟩ (.int .i64 gd)).setCell ⟨w.heap.size,1,none⟩ (.slice sd ld cd))):=aC hG Bq (by omega) rd
          clear mn rd
          obtain ⟨Cn0,Fn0⟩:=A7 Bn
          go_wp2_with fail
          exact bodyPost_ret (v := .tuple #[.agg #[.int .i64 gd,.slice sd ld cd],.int .i64 0]) (by simp [results,Tryz.results122,go_sem,q90,q91]) rfl hF.out
   · skip
     obtain ⟨e1,e2⟩:=fB hs (fun h=>hd (by rw [hbt];exact ((Q4 _).1 h).1))
     rw [e1,e2]
     clear e1 e2 hbt hs htz hn
     have HD:=Lib.hid hd
     clear hd
     rcases dec_why HD.out with h9 | ⟨hp9,ex9,h9⟩ | ⟨hp9,hx9,hw9⟩
     · skip
       have H9:=Lib.hid h9
       clear h9
       have hG:w.grownBy (w.alloc (.cells #[.int .i64 0,.slice none 0 0] 55)) none:=(World.grownBy_alloc _ _ _)
       have Bq:=(A4 w (.cells #[.int .i64 0,.slice none 0 0] 55) (w.heap.size) rfl)
       go_enter Tryz.func122,Tryz.ntmps122
       obtain ⟨Cq0,Cq1,Fq0,Fq1⟩:=A3 Bq
       go_upto_region 8 with fail
       generalize s.extract 1 s.size=t at *
       have g0:((t.size:Int) == 0)=true:=by rw [H9.out];rfl
       have hG':w.grownBy (w.alloc (.cells #[.int .i64 0,.slice none 0 0] 55)) none:=(World.grownBy_alloc _ _ _)
       have hF:Hid (G0 w (0) 3 (.returned (.tuple #[.agg #[.int .i64 0,.slice none 0 0],.int .i64 3])) (w.alloc (.cells #[.int .i64 0,.slice none 0 0] 55))):=⟨_,rfl,(RIntV.zero _),hG'⟩
       clear hG'
       go_wp2_with fail
       exact bodyPost_ret (v := .tuple #[.agg #[.int .i64 0,.slice none 0 0],.int .i64 3]) (by simp [results,Tryz.results122,go_sem]) rfl hF.out
     · skip
       have H9:=Lib.hid h9
       have EX9:=Lib.hid ex9
       clear h9 ex9
       have hG:w.grownBy (w.alloc (.cells #[.int .i64 0,.slice none 0 0] 55)) none:=(World.grownBy_alloc _ _ _)
       have Bq:=(A4 w (.cells #[.int .i64 0,.slice none 0 0] 55) (w.heap.size) rfl)
       go_enter Tryz.func122,Tryz.ntmps122
       obtain ⟨Cq0,Cq1,Fq0,Fq1⟩:=A3 Bq
       go_upto_region 8 with fail
       generalize s.extract 1 s.size=t at *
       have h9:=H9.out
       have g0:((t.size:Int) == 0)=false:=beq_eq_false_iff_ne.2 (by omega)
       have g1:decide ((1:Int)<(t.size:Int))=true:=decide_eq_true (by omega)
       have ex:(t[0]'hp9).toNat=48:=EX9.out
       have hG':w.grownBy (w.alloc (.cells #[.int .i64 0,.slice none 0 0] 55)) none:=(World.grownBy_alloc _ _ _)
       have hF:Hid (G0 w (0) 3 (.returned (.tuple #[.agg #[.int .i64 0,.slice none 0 0],.int .i64 3])) (w.alloc (.cells #[.int .i64 0,.slice none 0 0] 55))):=⟨_,rfl,(RIntV.zero _),hG'⟩
       clear hG'
       go_wp2_with fail
       exact bodyPost_ret (v := .tuple #[.agg #[.int .i64 0,.slice none 0 0],.int .i64 3]) (by simp [results,Tryz.results122,go_sem]) rfl hF.out
     · skip
       have HW:=Lib.hid hw9
       have HX:=Lib.hid hx9
       clear hw9 hx9
       obtain ⟨x0,ex0⟩:∃ x,((s.extract 1 s.size)[0]'hp9).toNat=x:=⟨_,rfl⟩
       have HX2:Hid (1<(s.extract 1 s.size).size->x0≠48):=fun h=>by rw [<- ex0];exact HX.out hp9 h
       have EX0:=Lib.hid ex0
       clear ex0
       clear HX
       by_cases hx0:x0=48
       · skip
         subst hx0
         have H1:Hid ((s.extract 1 s.size).size<=1):=by show _<=1;have:=HX2.out;omega
         clear HX2
         have hG:w.grownBy (w.alloc (.cells #[.int .i64 0,.slice none 0 0] 55)) none:=(World.grownBy_alloc _ _ _)
         have Bq:=(A4 w (.cells #[.int .i64 0,.slice none 0 0] 55) (w.heap.size) rfl)
         go_enter Tryz.func122,Tryz.ntmps122
         obtain ⟨Cq0,Cq1,Fq0,Fq1⟩:=A3 Bq
         go_upto_region 8 with fail
         generalize s.extract 1 s.size=t at *
         have h1:=H1.out
         have g0:((t.size:Int) == 0)=false:=beq_eq_false_iff_ne.2 (by omega)
         have g1:decide ((1:Int)<(t.size:Int))=false:=decide_eq_false (by omega)
         have ex:(t[0]'hp9).toNat=48:=EX0.out
         have hG':w.grownBy (w.alloc (.cells #[.int .i64 0,.slice none 0 0] 55)) none:=(World.grownBy_alloc _ _ _)
         have hF:Hid (G0 w (0) 3 (.returned (.tuple #[.agg #[.int .i64 0,.slice none 0 0],.int .i64 3])) (w.alloc (.cells #[.int .i64 0,.slice none 0 0] 55))):=⟨_,rfl,(RIntV.zero _),hG'⟩
         clear hG'
         go_wp2_with fail
         exact bodyPost_ret (v := .tuple #[.agg #[.int .i64 0,.slice none 0 0],.int .i64 3]) (by simp [results,Tryz.results122,go_sem]) rfl hF.out
       · skip
         have g2:((x0:Int) == 48)=false:=beq_eq_false_iff_ne.2 (by omega)
         clear hx0 HX2
         have hG:w.grownBy (w.alloc (.cells #[.int .i64 0,.slice none 0 0] 55)) none:=(World.grownBy_alloc _ _ _)
         have Bq:=(A4 w (.cells #[.int .i64 0,.slice none 0 0] 55) (w.heap.size) rfl)
         go_enter Tryz.func122,Tryz.ntmps122
         obtain ⟨Cq0,Cq1,Fq0,Fq1⟩:=A3 Bq
         go_upto_region 8 with fail
         generalize s.extract 1 s.size=t at *
         have g0:((t.size:Int) == 0)=false:=beq_eq_false_iff_ne.2 (by omega)
         have ex:(t[0]'hp9).toNat=x0:=EX0.out
         go_wp2_with fail
         generalize (w.alloc (.cells #[.int .i64 0,.slice none 0 0] 55))=w0 at *
         have hb4:t.size<=4097:=HB4.out
         go_loopw [6] (fun i wr=>∃ k:Nat,k<=t.size/\i = .int .i64 k/\w0=wr/\Hid (∀ j (h:j<t.size),j<k->48<=(t[j]'h).toNat/\(t[j]'h).toNat<=57)) (fun i _=>t.size-(intOf i).toNat)
         case atStart=>exact ⟨0,Nat.zero_le _,rfl,rfl,fun j h h0=>absurd h0 (by omega)⟩
         case round=>
          obtain ⟨k,hk,rfl,rfl,hd⟩:=hrel
          by_cases hlt:k<t.size
          · skip
            obtain ⟨y,ey⟩:∃ y,(t[k]'hlt).toNat=y:=⟨_,rfl⟩
            by_cases hy : 48<=y/\y<=57
            · skip
              have f5:decide ((y:Int)<48)=false:=decide_eq_false (by omega)
              have f6:decide ((57:Int)<(y:Int))=false:=decide_eq_false (by omega)
              go_wp2_with fail
              go_roundw
              case rel=>
               refine ⟨k+1,by omega,by go_num,by trivial,fun j h hj=>?_⟩
               rcases Nat.lt_or_ge j k with h1 | h1
               · exact hd.out j h h1
               · obtain rfl:j=k:=by omega
                 rw [ey];exact hy
              case measure=>simp [intOf];omega
            · skip
              have hF:Hid (∀ u v,G0 w 0 3 (.returned (.tuple #[.agg #[.int .i64 0,.slice none 0 0],.int .i64 3])) ((w0.setCell ⟨w.heap.size,0,none⟩ u).setCell ⟨w.heap.size,1,none⟩ v)):=fun u v=>⟨_,rfl,RIntV.zero _,bT hG (Nat.le_refl _) u v⟩
              obtain ⟨q90,q91,q92,q93⟩:=A3 (B7 Bq (.int .i64 0) (.slice none 0 0))
              go_wp2_with fail
              all_goals first | exact bodyPost_ret (v := .tuple #[.agg #[.int .i64 0,.slice none 0 0],.int .i64 3]) (by simp [results,Tryz.results122,go_sem,q90,q91]) rfl (hF.out _ _) | (exfalso;omega)
          · skip
            obtain rfl:k=t.size:=by omega
            exact absurd hd.out HW.out
end Go.Proofs.YtdgdmicbbfoghaaGreatDoor
