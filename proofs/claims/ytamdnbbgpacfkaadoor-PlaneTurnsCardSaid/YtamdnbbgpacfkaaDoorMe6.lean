/- What the laws lean on, part 6. -/
import Derived.BigQuiet
import Derived.BigRegion
import Derived.Deep.AppendLies
import Derived.Deep.CutBlock
import Derived.Deep.CutRange
import Derived.Deep.DeepCutAuto
import Derived.Deep.LoopGhost
import Derived.Deep.QuietTactic
import Derived.Deep.RegionHeld3
import Derived.Laws.CopyOwn
import Derived.Laws.Externs
import Derived.Laws.IdiomStrings
import Derived.Lib.BitFns
import Derived.Lib.Hide
import Derived.Lib.Slices
import Derived.Lib.Small
import Derived.Lib.Strings
import Derived.Lib.Walk
import Derived.Outline
import Derived.OwnWalk
import Derived.Shelf.Bits.Mul64
import Derived.Shelf.Spec.TrailingZeros
import Derived.StillTailTactics
import Derived.WalkKit
import Derived.WalkLawsBesides
import Derived.WalkSpells
import Derived.Test.YtamdnbbgpacfkaaDoorProg
import Derived.Test.YtamdnbbgpacfkaaDoorMe5
set_option linter.unusedVariables false
set_option linter.unusedSimpArgs false
set_option maxRecDepth 100000
namespace Go.Proofs.YtamdnbbgpacfkaaDoor.PM
abbrev Pq:=Rat × Rat
def A3 (a b c:Pq):Rat:=(b.1-a.1)*(c.2-a.2)-(b.2-a.2)*(c.1-a.1)
def ple (p q:Pq):Prop:=p.1<q.1\/p.1=q.1/\p.2<=q.2
def pat (a b:Pq) (t:Rat):Pq:=(a.1+(b.1-a.1)*t,a.2+(b.2-a.2)*t)
def InS (a b p:Pq):Prop:=∃ t:Rat,0<=t/\t<=1/\p=pat a b t
theorem bD (p:Pq):ple p p:=Or.inr ⟨rfl,Rat.le_refl⟩
theorem K4 {p q:Pq} (h:ple p q) (h':ple q p):p=q:=by
 obtain ⟨a,b⟩:=p;obtain ⟨c,d⟩:=q
 simp only [ple] at h h'
 have:a=c:=by grind
 have:b=d:=by grind
 grind
theorem gK (p q:Pq):ple p q\/ple q p:=by
 simp only [ple];grind
theorem sq_pos {x:Rat} (h:x≠0) : 0<x*x:=by
 rcases (show x<0\/0<x by grind) with h | h
 · have:=Rat.mul_pos (show 0 < -x by grind) (show 0 < -x by grind)
   grind
 · exact Rat.mul_pos h h
theorem cC (x:Rat) : 0<=x*x:=by
 by_cases h:x=0
 · subst h;grind
 · have:=sq_pos h;grind
theorem lM {a b:Pq} (h:a≠b) : 0<(b.1-a.1)*(b.1-a.1)+(b.2-a.2)*(b.2-a.2):=by
 obtain ⟨a1,a2⟩:=a;obtain ⟨b1,b2⟩:=b
 by_cases h1:b1-a1=0
 · have h2:b2-a2≠0:=fun e=>h (by grind)
   have:=sq_pos h2
   have:=cC (b1-a1)
   dsimp only;grind
 · have:=sq_pos h1
   have:=cC (b2-a2)
   dsimp only;grind
theorem bO {a b p:Pq} (h:a≠b) (hc:A3 a b p=0):∃ t,p=pat a b t:=by
 have hn:=lM h
 obtain ⟨a1,a2⟩:=a;obtain ⟨b1,b2⟩:=b;obtain ⟨p1,p2⟩:=p
 simp only [A3] at hc hn
 refine ⟨((b1-a1)*(p1-a1)+(b2-a2)*(p2-a2)) / ((b1-a1)*(b1-a1)+(b2-a2)*(b2-a2)), ?_⟩
 simp only [pat,Prod.mk.injEq]
 generalize hN:(b1-a1)*(b1-a1)+(b2-a2)*(b2-a2)=N at *
 have hN0:N≠0:=by grind
 constructor<;>grind
theorem cross_at (a b:Pq) (t:Rat):A3 a b (pat a b t)=0:=by simp only [A3,pat];grind
theorem fE {a p:Pq} : InS a a p ↔ p=a:=by
 constructor
 · rintro ⟨t,_,_,rfl⟩;simp only [pat];exact Prod.ext (by grind) (by grind)
 · rintro rfl;exact ⟨0,by grind,by grind,by simp only [pat];exact Prod.ext (by grind) (by grind)⟩
theorem rE {a b:Pq} (h:ple a b) (hne:a≠b) {s t:Rat} : ple (pat a b s) (pat a b t) ↔ s<=t:=by
 obtain ⟨a1,a2⟩:=a;obtain ⟨b1,b2⟩:=b
 simp only [ple,pat] at h ⊢
 rcases h with h | ⟨rfl,h⟩
 · have hd : 0<b1-a1:=by grind
   constructor
   · intro hh
     rcases (show s<=t\/t<s by grind) with h1 | h1
     · exact h1
     · have:=Rat.mul_pos hd (show 0<s-t by grind);grind
   · intro hh
     rcases (show s=t\/s<t by grind) with h1 | h1
     · subst h1;exact Or.inr ⟨rfl,Rat.le_refl⟩
     · have:=Rat.mul_pos hd (show 0<t-s by grind);left;grind
 · have hd : 0<b2-a2:=by
    have:a2≠b2:=fun e=>hne (by rw [e])
    grind
   constructor
   · intro hh
     rcases (show s<=t\/t<s by grind) with h1 | h1
     · exact h1
     · have:=Rat.mul_pos hd (show 0<s-t by grind);grind
   · intro hh
     right
     refine ⟨by grind, ?_⟩
     have:=Rat.mul_nonneg (show 0<=b2-a2 by grind) (show 0<=t-s by grind);grind
theorem sG (a b:Pq):pat a b 0=a:=by simp only [pat];exact Prod.ext (by grind) (by grind)
theorem at_one (a b:Pq):pat a b 1=b:=by simp only [pat];exact Prod.ext (by grind) (by grind)
theorem at_back (a b:Pq) (t:Rat):pat a b t=pat b a (1-t):=by simp only [pat];exact Prod.ext (by grind) (by grind)
theorem mQ (a b p:Pq):A3 b a p = - A3 a b p:=by simp only [A3];grind
theorem ins_back {a b p:Pq} : InS a b p ↔ InS b a p:=by
 constructor
 · rintro ⟨t,h0,h1,rfl⟩;exact ⟨1-t,by grind,by grind,at_back _ _ _⟩
 · rintro ⟨t,h0,h1,rfl⟩;exact ⟨1-t,by grind,by grind,at_back _ _ _⟩
theorem cN {a b p:Pq} (h:ple a b):InS a b p ↔ ple a p/\ple p b/\A3 a b p=0:=by
 by_cases hab:a=b
 · subst hab
   rw [fE]
   constructor
   · rintro rfl;exact ⟨bD _,bD _,by simp only [A3];grind⟩
   · rintro ⟨h1,h2,_⟩;exact K4 h2 h1
 · constructor
   · rintro ⟨t,h0,h1,rfl⟩
     have e0:=(rE h hab (s:=0) (t:=t)).2 h0
     have e1:=(rE h hab (s:=t) (t:=1)).2 h1
     rw [sG] at e0;rw [at_one] at e1
     exact ⟨e0,e1,cross_at _ _ _⟩
   · rintro ⟨h1,h2,hc⟩
     obtain ⟨t,rfl⟩:=bO hab hc
     refine ⟨t,(rE h hab (s:=0) (t:=t)).1 (by rw [sG];exact h1),(rE h hab (s:=t) (t:=1)).1 (by rw [at_one];exact h2),rfl⟩
def plt (p q:Pq):Prop:=p.1<q.1\/p.1=q.1/\p.2<q.2
theorem plt_iff {p q:Pq} : plt p q ↔ ¬ ple q p:=by simp only [plt,ple];grind
noncomputable def lo (a b:Pq):Pq:=open Classical in if ple a b then a else b
noncomputable def hi (a b:Pq):Pq:=open Classical in if ple a b then b else a
theorem lohi (a b:Pq):(ple a b/\lo a b=a/\hi a b=b)\/(ple b a /\ ¬ ple a b/\lo a b=b/\hi a b=a):=by
 unfold lo hi
 by_cases h:ple a b
 · left;simp [h]
 · right;refine ⟨(gK a b).resolve_left h,h, ?_, ?_⟩<;>simp [h]
theorem lo_le_hi (a b:Pq):ple (lo a b) (hi a b):=by
 rcases lohi a b with ⟨h,e1,e2⟩ | ⟨h,_,e1,e2⟩<;>rw [e1,e2]<;>exact h
theorem ins_lohi {a b p:Pq} : InS a b p ↔ InS (lo a b) (hi a b) p:=by
 rcases lohi a b with ⟨h,e1,e2⟩ | ⟨h,_,e1,e2⟩<;>rw [e1,e2]
 exact ins_back
theorem ins_prog {a b p:Pq} : InS a b p ↔ ple (lo a b) p/\ple p (hi a b)/\A3 a b p=0:=by
 rw [ins_lohi,cN (lo_le_hi a b)]
 rcases lohi a b with ⟨h,e1,e2⟩ | ⟨h,_,e1,e2⟩<;>rw [e1,e2]
 rw [mQ b a];grind
noncomputable def I7 (a b:Pq):Pq:=open Classical in if ple b a then a else b
noncomputable def I6 (a b:Pq):Pq:=open Classical in if ple a b then a else b
theorem pmax_or (a b:Pq):I7 a b=a\/I7 a b=b:=by unfold I7;split<;>simp
theorem pmin_or (a b:Pq):I6 a b=a\/I6 a b=b:=by unfold I6;split<;>simp
theorem pJ (a b:Pq):lo a b=a\/lo a b=b:=by unfold lo;split<;>simp
theorem pO (a b:Pq):hi a b=a\/hi a b=b:=by unfold hi;split<;>simp
def H6 (p q:Pq):Int:=if G4 p.1 q.1=0 then G4 p.2 q.2 else G4 p.1 q.1
theorem pcmp_or (p q:Pq):H6 p q = -1\/H6 p q=0\/H6 p q=1:=by
 unfold H6;split
 · exact rcmp_or _ _
 · exact rcmp_or _ _
theorem pcmp_lt {p q:Pq} : H6 p q = -1 ↔ plt p q:=by
 unfold H6 plt
 split
 · rename_i h;have e:=rcmp_zero.1 h
   rw [rcmp_lt]
   constructor
   · exact fun h => .inr ⟨e,h⟩
   · rintro (h | h)
     · rw [e] at h;exact absurd h (by grind)
     · exact h.2
 · rename_i h
   have hne:p.1≠q.1:=fun e=>h (rcmp_zero.2 e)
   rw [rcmp_lt]
   constructor
   · exact fun h => .inl h
   · rintro (h | h)
     · exact h
     · exact absurd h.1 hne
theorem oZ (p q:Pq):H6 q p = - H6 p q:=by
 unfold H6
 rw [oY p.1 q.1,oY p.2 q.2]
 split<;>split<;>omega
theorem pcmp_gt {p q:Pq} : H6 p q=1 ↔ plt q p:=by
 rw [<- pcmp_lt,oZ p q];omega
theorem pcmp_le {p q:Pq} : H6 p q<=0 ↔ ple p q:=by
 have h:=pcmp_or p q
 have hg:=@pcmp_gt p q
 rw [plt_iff] at hg
 constructor
 · intro h1
   exact Classical.byContradiction fun h2=>by have:=hg.2 h2;omega
 · intro h1
   rcases h with h | h | h
   · omega
   · omega
   · exact absurd h1 (hg.1 h)
end Go.Proofs.YtamdnbbgpacfkaaDoor.PM
