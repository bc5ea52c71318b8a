/- What the laws lean on, part 8. -/
import Derived.BigQuiet
import Derived.BigRegion
import Derived.Deep.AppendLies
import Derived.Deep.CutBlock
import Derived.Deep.CutRange
import Derived.Deep.DeepCutAuto
import Derived.Deep.LoopGhost
import Derived.Deep.QuietTactic
import Derived.Deep.RegionHeld3
import Derived.Laws.CopyOwn
import Derived.Laws.Externs
import Derived.Laws.IdiomStrings
import Derived.Lib.BitFns
import Derived.Lib.Hide
import Derived.Lib.Slices
import Derived.Lib.Small
import Derived.Lib.Strings
import Derived.Lib.Walk
import Derived.Outline
import Derived.OwnWalk
import Derived.Shelf.Bits.Mul64
import Derived.Shelf.Spec.TrailingZeros
import Derived.StillTailTactics
import Derived.WalkKit
import Derived.WalkLawsBesides
import Derived.WalkSpells
import Derived.Test.YtninnifpgpjfhaaGreatDoorProg
import Derived.Test.YtninnifpgpjfhaaGreatDoorMa7
set_option linter.unusedVariables false
set_option linter.unusedSimpArgs false
set_option maxRecDepth 100000
namespace Go.Proofs.YtninnifpgpjfhaaGreatDoor.PM
abbrev Pq:=Rat × Rat
def A3 (a b c:Pq):Rat:=(b.1-a.1)*(c.2-a.2)-(b.2-a.2)*(c.1-a.1)
def ple (p q:Pq):Prop:=p.1<q.1\/p.1=q.1/\p.2<=q.2
def pat (a b:Pq) (t:Rat):Pq:=(a.1+(b.1-a.1)*t,a.2+(b.2-a.2)*t)
def InS (a b p:Pq):Prop:=∃ t:Rat,0<=t/\t<=1/\p=pat a b t
theorem X6 (p:Pq):ple p p:=Or.inr ⟨rfl,Rat.le_refl⟩
theorem I0 {p q:Pq} (h:ple p q) (h':ple q p):p=q:=by
 obtain ⟨a,b⟩:=p;obtain ⟨c,d⟩:=q
 simp only [ple] at h h'
 have:a=c:=by grind
 have:b=d:=by grind
 grind
theorem S9 {p q r:Pq} (h:ple p q) (h':ple q r):ple p r:=by
 simp only [ple] at *;grind
theorem eE (p q:Pq):ple p q\/ple q p:=by
 simp only [ple];grind
theorem sq_pos {x:Rat} (h:x≠0) : 0<x*x:=by
 rcases (show x<0\/0<x by grind) with h | h
 · have:=Rat.mul_pos (show 0 < -x by grind) (show 0 < -x by grind)
   grind
 · exact Rat.mul_pos h h
theorem mD (x:Rat) : 0<=x*x:=by
 by_cases h:x=0
 · subst h;grind
 · have:=sq_pos h;grind
theorem norm_pos {a b:Pq} (h:a≠b) : 0<(b.1-a.1)*(b.1-a.1)+(b.2-a.2)*(b.2-a.2):=by
 obtain ⟨a1,a2⟩:=a;obtain ⟨b1,b2⟩:=b
 by_cases h1:b1-a1=0
 · have h2:b2-a2≠0:=fun e=>h (by grind)
   have:=sq_pos h2
   have:=mD (b1-a1)
   dsimp only;grind
 · have:=sq_pos h1
   have:=mD (b2-a2)
   dsimp only;grind
theorem bZ {a b p:Pq} (h:a≠b) (hc:A3 a b p=0):∃ t,p=pat a b t:=by
 have hn:=norm_pos h
 obtain ⟨a1,a2⟩:=a;obtain ⟨b1,b2⟩:=b;obtain ⟨p1,p2⟩:=p
 simp only [A3] at hc hn
 refine ⟨((b1-a1)*(p1-a1)+(b2-a2)*(p2-a2)) / ((b1-a1)*(b1-a1)+(b2-a2)*(b2-a2)), ?_⟩
 simp only [pat,Prod.mk.injEq]
 generalize hN:(b1-a1)*(b1-a1)+(b2-a2)*(b2-a2)=N at *
 have hN0:N≠0:=by grind
 constructor<;>grind
theorem cross_at (a b:Pq) (t:Rat):A3 a b (pat a b t)=0:=by simp only [A3,pat];grind
theorem jN {a p:Pq} : InS a a p ↔ p=a:=by
 constructor
 · rintro ⟨t,_,_,rfl⟩;simp only [pat];exact Prod.ext (by grind) (by grind)
 · rintro rfl;exact ⟨0,by grind,by grind,by simp only [pat];exact Prod.ext (by grind) (by grind)⟩
theorem oM {a b:Pq} (h:ple a b) (hne:a≠b) {s t:Rat} : ple (pat a b s) (pat a b t) ↔ s<=t:=by
 obtain ⟨a1,a2⟩:=a;obtain ⟨b1,b2⟩:=b
 simp only [ple,pat] at h ⊢
 rcases h with h | ⟨rfl,h⟩
 · have hd : 0<b1-a1:=by grind
   constructor
   · intro hh
     rcases (show s<=t\/t<s by grind) with h1 | h1
     · exact h1
     · have:=Rat.mul_pos hd (show 0<s-t by grind);grind
   · intro hh
     rcases (show s=t\/s<t by grind) with h1 | h1
     · subst h1;exact Or.inr ⟨rfl,Rat.le_refl⟩
     · have:=Rat.mul_pos hd (show 0<t-s by grind);left;grind
 · have hd : 0<b2-a2:=by
    have:a2≠b2:=fun e=>hne (by rw [e])
    grind
   constructor
   · intro hh
     rcases (show s<=t\/t<s by grind) with h1 | h1
     · exact h1
     · have:=Rat.mul_pos hd (show 0<s-t by grind);grind
   · intro hh
     right
     refine ⟨by grind, ?_⟩
     have:=Rat.mul_nonneg (show 0<=b2-a2 by grind) (show 0<=t-s by grind);grind
theorem pJ (a b:Pq):pat a b 0=a:=by simp only [pat];exact Prod.ext (by grind) (by grind)
theorem at_one (a b:Pq):pat a b 1=b:=by simp only [pat];exact Prod.ext (by grind) (by grind)
theorem at_back (a b:Pq) (t:Rat):pat a b t=pat b a (1-t):=by simp only [pat];exact Prod.ext (by grind) (by grind)
theorem cross_back (a b p:Pq):A3 b a p = - A3 a b p:=by simp only [A3];grind
theorem ins_back {a b p:Pq} : InS a b p ↔ InS b a p:=by
 constructor
 · rintro ⟨t,h0,h1,rfl⟩;exact ⟨1-t,by grind,by grind,at_back _ _ _⟩
 · rintro ⟨t,h0,h1,rfl⟩;exact ⟨1-t,by grind,by grind,at_back _ _ _⟩
theorem aK {a b p:Pq} (h:ple a b):InS a b p ↔ ple a p/\ple p b/\A3 a b p=0:=by
 by_cases hab:a=b
 · subst hab
   rw [jN]
   constructor
   · rintro rfl;exact ⟨X6 _,X6 _,by simp only [A3];grind⟩
   · rintro ⟨h1,h2,_⟩;exact I0 h2 h1
 · constructor
   · rintro ⟨t,h0,h1,rfl⟩
     have e0:=(oM h hab (s:=0) (t:=t)).2 h0
     have e1:=(oM h hab (s:=t) (t:=1)).2 h1
     rw [pJ] at e0;rw [at_one] at e1
     exact ⟨e0,e1,cross_at _ _ _⟩
   · rintro ⟨h1,h2,hc⟩
     obtain ⟨t,rfl⟩:=bZ hab hc
     refine ⟨t,(oM h hab (s:=0) (t:=t)).1 (by rw [pJ];exact h1),(oM h hab (s:=t) (t:=1)).1 (by rw [at_one];exact h2),rfl⟩
def plt (p q:Pq):Prop:=p.1<q.1\/p.1=q.1/\p.2<q.2
theorem plt_iff {p q:Pq} : plt p q ↔ ¬ ple q p:=by simp only [plt,ple];grind
theorem gK {p q:Pq} (h:plt p q):ple p q:=by simp only [plt,ple] at *;grind
theorem plt_ne {p q:Pq} (h:plt p q):p≠q:=by rintro rfl;simp only [plt] at h;grind
theorem plt_of {p q:Pq} (h:ple p q) (hne:p≠q):plt p q:=by
 obtain ⟨a,b⟩:=p;obtain ⟨c,d⟩:=q
 simp only [plt,ple] at *
 rcases h with h | ⟨rfl,h⟩
 · exact Or.inl h
 · right;refine ⟨rfl, ?_⟩
   have:b≠d:=fun e=>hne (by rw [e])
   grind
inductive Told:List Pq->(Pq->Prop)->Prop
 | none {S:Pq->Prop} : (∀ p,¬ S p)->Told [] S
 | one {S:Pq->Prop} (p:Pq):(∀ q,S q ↔ q=p)->Told [p] S
 | two {S:Pq->Prop} (p q:Pq):plt p q->(∀ r,S r ↔ InS p q r)->Told [p,q] S
theorem T3 (p q:Pq):InS p q p:=⟨0,by grind,by grind,(pJ _ _).symm⟩
theorem aJ (p q:Pq):InS p q q:=⟨1,by grind,by grind,(at_one _ _).symm⟩
theorem told_uniq {l m:List Pq} {S:Pq->Prop} (h:Told l S) (h':Told m S):l=m:=by
 cases h with
 | none h=>
   cases h' with
   | none _=>rfl
   | one p h1=>exact absurd ((h1 p).2 rfl) (h p)
   | two p q _ h1=>exact absurd ((h1 p).2 (T3 p q)) (h p)
 | one p h=>
   cases h' with
   | none h1=>exact absurd ((h p).2 rfl) (h1 p)
   | one q h1=>rw [(h1 p).1 ((h p).2 rfl)]
   | two q r hl h1=>
     have e1:=(h q).1 ((h1 q).2 (T3 q r))
     have e2:=(h r).1 ((h1 r).2 (aJ q r))
     exact absurd (e1.trans e2.symm) (plt_ne hl)
 | two p q hl h=>
   cases h' with
   | none h1=>exact absurd ((h p).2 (T3 p q)) (h1 p)
   | one r h1=>
     have e1:=(h1 p).1 ((h p).2 (T3 p q))
     have e2:=(h1 q).1 ((h q).2 (aJ p q))
     exact absurd (e1.trans e2.symm) (plt_ne hl)
   | two p' q' hl' h1=>
     have a1:=(aK (gK hl')).1 ((h1 p).1 ((h p).2 (T3 p q)))
     have a2:=(aK (gK hl')).1 ((h1 q).1 ((h q).2 (aJ p q)))
     have b1:=(aK (gK hl)).1 ((h p').1 ((h1 p').2 (T3 p' q')))
     have b2:=(aK (gK hl)).1 ((h q').1 ((h1 q').2 (aJ p' q')))
     rw [I0 b1.1 a1.1,I0 a2.2.1 b2.2.1]
noncomputable def lo (a b:Pq):Pq:=open Classical in if ple a b then a else b
noncomputable def hi (a b:Pq):Pq:=open Classical in if ple a b then b else a
theorem lohi (a b:Pq):(ple a b/\lo a b=a/\hi a b=b)\/(ple b a /\ ¬ ple a b/\lo a b=b/\hi a b=a):=by
 unfold lo hi
 by_cases h:ple a b
 · left;simp [h]
 · right;refine ⟨(eE a b).resolve_left h,h, ?_, ?_⟩<;>simp [h]
theorem lo_le_hi (a b:Pq):ple (lo a b) (hi a b):=by
 rcases lohi a b with ⟨h,e1,e2⟩ | ⟨h,_,e1,e2⟩<;>rw [e1,e2]<;>exact h
theorem ins_lohi {a b p:Pq} : InS a b p ↔ InS (lo a b) (hi a b) p:=by
 rcases lohi a b with ⟨h,e1,e2⟩ | ⟨h,_,e1,e2⟩<;>rw [e1,e2]
 exact ins_back
theorem ins_prog {a b p:Pq} : InS a b p ↔ ple (lo a b) p/\ple p (hi a b)/\A3 a b p=0:=by
 rw [ins_lohi,aK (lo_le_hi a b)]
 rcases lohi a b with ⟨h,e1,e2⟩ | ⟨h,_,e1,e2⟩<;>rw [e1,e2]
 rw [cross_back b a];grind
noncomputable def G5 (a b:Pq):Pq:=open Classical in if ple b a then a else b
noncomputable def G4 (a b:Pq):Pq:=open Classical in if ple a b then a else b
theorem pmax_le {a b p:Pq} : ple (G5 a b) p ↔ ple a p/\ple b p:=by
 unfold G5
 by_cases h:ple b a
 · rw [if_pos h];exact ⟨fun h1=>⟨h1,S9 h h1⟩,fun h1=>h1.1⟩
 · rw [if_neg h];exact ⟨fun h1=>⟨S9 ((eE b a).resolve_left h) h1,h1⟩,fun h1=>h1.2⟩
theorem le_pmin {a b p:Pq} : ple p (G4 a b) ↔ ple p a/\ple p b:=by
 unfold G4
 by_cases h:ple a b
 · rw [if_pos h];exact ⟨fun h1=>⟨h1,S9 h1 h⟩,fun h1=>h1.1⟩
 · rw [if_neg h];exact ⟨fun h1=>⟨S9 h1 ((eE a b).resolve_left h),h1⟩,fun h1=>h1.2⟩
theorem pmax_or (a b:Pq):G5 a b=a\/G5 a b=b:=by unfold G5;split<;>simp
theorem pmin_or (a b:Pq):G4 a b=a\/G4 a b=b:=by unfold G4;split<;>simp
theorem mU (a b:Pq):lo a b=a\/lo a b=b:=by unfold lo;split<;>simp
theorem mZ (a b:Pq):hi a b=a\/hi a b=b:=by unfold hi;split<;>simp
theorem kB {a b c d p:Pq} (hc:A3 a b c=0) (hd:A3 a b d=0) (hne:a≠b) (hp:A3 a b p=0):A3 c d p=0:=by
 obtain ⟨s,rfl⟩:=bZ hne hc
 obtain ⟨t,rfl⟩:=bZ hne hd
 obtain ⟨u,rfl⟩:=bZ hne hp
 simp only [A3,pat];grind
theorem kA (a p:Pq):A3 a a p=0:=by simp only [A3];grind
theorem eW (a b:Pq):A3 a b a=0:=by simp only [A3];grind
theorem nM (a b:Pq):A3 a b b=0:=by simp only [A3];grind
theorem meet_line {a b c d:Pq} (h1:A3 a b c=0) (h2:A3 a b d=0) (h3:A3 c d a=0) (h4:A3 c d b=0) (hm:ple (G5 (lo a b) (lo c d)) (G4 (hi a b) (hi c d))) (p:Pq) :
 InS a b p/\InS c d p ↔ InS (G5 (lo a b) (lo c d)) (G4 (hi a b) (hi c d)) p:=by
 rw [aK hm,ins_prog,ins_prog,pmax_le,le_pmin]
 have hf:G5 (lo a b) (lo c d)=a\/G5 (lo a b) (lo c d)=b\/G5 (lo a b) (lo c d)=c\/G5 (lo a b) (lo c d)=d:=by
  rcases pmax_or (lo a b) (lo c d) with e | e<;>rw [e]
  · rcases mU a b with e | e<;>simp [e]
  · rcases mU c d with e | e<;>simp [e]
 have ht:G4 (hi a b) (hi c d)=a\/G4 (hi a b) (hi c d)=b\/G4 (hi a b) (hi c d)=c\/G4 (hi a b) (hi c d)=d:=by
  rcases pmin_or (hi a b) (hi c d) with e | e<;>rw [e]
  · rcases mZ a b with e | e<;>simp [e]
  · rcases mZ c d with e | e<;>simp [e]
 have hfp:=pmax_le (a:=lo a b) (b:=lo c d) (p:=p)
 have htp:=le_pmin (a:=hi a b) (b:=hi c d) (p:=p)
 generalize G5 (lo a b) (lo c d)=f at *
 generalize G4 (hi a b) (hi c d)=t at *
 by_cases hab:a=b
 · by_cases hcd:c=d
   · subst hab;subst hcd
     have e1:lo a a=a:=(mU a a).elim id id
     have e2:hi a a=a:=(mZ a a).elim id id
     have e3:lo c c=c:=(mU c c).elim id id
     have e4:hi c c=c:=(mZ c c).elim id id
     rw [e1,e2,e3,e4] at *
     constructor
     · rintro ⟨⟨x1,x2,_⟩,x3,x4,_⟩
       refine ⟨⟨x1,x3⟩,⟨x2,x4⟩, ?_⟩
       have ea:=I0 x2 x1
       have ec:=I0 x4 x3
       subst ea;subst ec
       have:f=p:=by rcases hf with h | h | h | h<;>exact h
       have:t=p:=by rcases ht with h | h | h | h<;>exact h
       subst f;exact eW _ _
     · rintro ⟨⟨x1,x3⟩,⟨x2,x4⟩,_⟩
       exact ⟨⟨x1,x2,kA _ _⟩,x3,x4,kA _ _⟩
   · have ha:∀ x,(x=a\/x=b\/x=c\/x=d)->A3 c d x=0:=by
      rintro x (rfl | rfl | rfl | rfl)
      · exact h3
      · exact h4
      · exact eW _ _
      · exact nM _ _
     constructor
     · rintro ⟨⟨x1,x2,_⟩,x3,x4,x5⟩
       exact ⟨⟨x1,x3⟩,⟨x2,x4⟩,kB (ha f hf) (ha t ht) hcd x5⟩
     · rintro ⟨⟨x1,x3⟩,⟨x2,x4⟩,x5⟩
       subst hab
       have e1:lo a a=a:=(mU a a).elim id id
       have e2:hi a a=a:=(mZ a a).elim id id
       rw [e1] at x1;rw [e2] at x2
       have:=I0 x2 x1
       subst this
       exact ⟨⟨by rw [e1];exact X6 _,by rw [e2];exact X6 _,kA _ _⟩,x3,x4,h3⟩
 · have ha:∀ x,(x=a\/x=b\/x=c\/x=d)->A3 a b x=0:=by
    rintro x (rfl | rfl | rfl | rfl)
    · exact eW _ _
    · exact nM _ _
    · exact h1
    · exact h2
   constructor
   · rintro ⟨⟨x1,x2,x5⟩,x3,x4,_⟩
     exact ⟨⟨x1,x3⟩,⟨x2,x4⟩,kB (ha f hf) (ha t ht) hab x5⟩
   · rintro ⟨⟨x1,x3⟩,⟨x2,x4⟩,x5⟩
     have key:A3 a b p=0:=by
      have q1:ple f p:=hfp.2 ⟨x1,x3⟩
      have q2:ple p t:=htp.2 ⟨x2,x4⟩
      by_cases hft:f=t
      · have:p=f:=I0 (by rw [hft];exact q2) q1
        rw [this];exact ha f hf
      · have hfa:=ha f hf
        have hta:=ha t ht
        obtain ⟨s,rfl⟩:=bZ hab hfa
        obtain ⟨u,rfl⟩:=bZ hab hta
        obtain ⟨v,rfl⟩:=bZ hft x5
        simp only [A3,pat];grind
     exact ⟨⟨x1,x2,key⟩,x3,x4,kB h1 h2 hab key⟩
theorem nK (a b c d:Pq) (t:Rat):A3 c d (pat a b t)=A3 c d a+(A3 c d b-A3 c d a)*t:=by simp only [A3,pat];grind
def M9 (u v:Rat):Prop:=0<u/\0<v\/u<0/\v<0
theorem aside_no {a b c d:Pq} (h:M9 (A3 c d a) (A3 c d b)) (p:Pq):¬ (InS a b p/\InS c d p):=by
 rintro ⟨⟨t,h0,h1,rfl⟩,h2⟩
 have h3:=(ins_prog.1 h2).2.2
 rw [nK] at h3
 generalize A3 c d a=u at *
 generalize A3 c d b=v at *
 rcases h with ⟨hu,hv⟩ | ⟨hu,hv⟩
 · have e1:=Rat.mul_nonneg (Rat.le_of_lt hu) (show 0<=1-t by grind)
   have e2:=Rat.mul_nonneg (Rat.le_of_lt hv) h0
   by_cases ht:t=0
   · subst ht;grind
   · have:=Rat.mul_pos hv (show 0<t by grind);grind
 · have e1:=Rat.mul_nonneg (show 0 <= -u by grind) (show 0<=1-t by grind)
   have e2:=Rat.mul_nonneg (show 0 <= -v by grind) h0
   by_cases ht:t=0
   · subst ht;grind
   · have:=Rat.mul_pos (show 0 < -v by grind) (show 0<t by grind);grind
theorem cross_only {a b c d p:Pq} (hne:A3 c d a≠A3 c d b) (hp:InS a b p/\InS c d p):p=pat a b (A3 c d a / (A3 c d a-A3 c d b)):=by
 obtain ⟨⟨t,h0,h1,rfl⟩,h2⟩:=hp
 have h3:=(ins_prog.1 h2).2.2
 rw [nK] at h3
 generalize A3 c d a=u at *
 generalize A3 c d b=v at *
 have:t=u / (u-v):=by
  have h4:u-v≠0:=by grind
  grind
 rw [this]
theorem aC {u v:Rat} (hs:¬ M9 u v) (hne:u≠v) : 0<=u / (u-v)/\u / (u-v)<=1:=by
 have h4:u-v≠0:=by grind
 generalize hq:u / (u-v)=q
 have e:q*(u-v)=u:=by grind
 unfold M9 at hs
 constructor
 · rcases (show q<0\/0<=q by grind) with h | h
   · exfalso
     rcases (show u-v<0\/0<u-v by grind) with h5 | h5
     · have:=Rat.mul_pos (show 0 < -q by grind) (show 0 < -(u-v) by grind);grind
     · have:=Rat.mul_pos (show 0 < -q by grind) h5;grind
   · exact h
 · rcases (show 1<q\/q<=1 by grind) with h | h
   · exfalso
     rcases (show u-v<0\/0<u-v by grind) with h5 | h5
     · have:=Rat.mul_pos (show 0<q-1 by grind) (show 0 < -(u-v) by grind);grind
     · have:=Rat.mul_pos (show 0<q-1 by grind) h5;grind
   · exact h
theorem cut_other {a b c d:Pq} (hne:A3 c d a≠A3 c d b):pat a b (A3 c d a / (A3 c d a-A3 c d b))=pat c d (A3 a b c / (A3 a b c-A3 a b d)):=by
 have h2:A3 a b c-A3 a b d = -(A3 c d a-A3 c d b):=by simp only [A3];grind
 have h4:A3 c d a-A3 c d b≠0:=by grind
 rw [h2]
 generalize hN:A3 c d a-A3 c d b=N at *
 simp only [pat,Prod.mk.injEq]
 have e1:(a.1-c.1)*N+(b.1-a.1)*A3 c d a+(d.1-c.1)*A3 a b c=0:=by rw [<- hN];simp only [A3];grind
 have e2:(a.2-c.2)*N+(b.2-a.2)*A3 c d a+(d.2-c.2)*A3 a b c=0:=by rw [<- hN];simp only [A3];grind
 generalize A3 c d a=u at *
 generalize A3 a b c=w at *
 constructor<;>grind
theorem nL {a b c d:Pq} (hne:A3 c d a≠A3 c d b) (h1:¬ M9 (A3 c d a) (A3 c d b)) (h2:¬ M9 (A3 a b c) (A3 a b d)) (p:Pq) :
 InS a b p/\InS c d p ↔ p=pat a b (A3 c d a / (A3 c d a-A3 c d b)):=by
 constructor
 · exact cross_only hne
 · rintro rfl
   refine ⟨⟨_,(aC h1 hne).1,(aC h1 hne).2,rfl⟩, ?_⟩
   rw [cut_other hne]
   have hne2:A3 a b c≠A3 a b d:=fun e=>hne (by
    have h2:A3 a b c-A3 a b d = -(A3 c d a-A3 c d b):=by simp only [A3];grind
    grind)
   exact ⟨_,(aC h2 hne2).1,(aC h2 hne2).2,rfl⟩
noncomputable def btw (p q:Pq):List Pq:=open Classical in if p=q then [p] else [p,q]
noncomputable def W4 (a b c d:Pq):List Pq:=open Classical in
 if ple (G5 (lo a b) (lo c d)) (G4 (hi a b) (hi c d)) then
  if M9 (A3 a b c) (A3 a b d) then [] else
  if M9 (A3 c d a) (A3 c d b) then [] else
  if A3 c d a=0/\A3 c d b=0 then btw (G5 (lo a b) (lo c d)) (G4 (hi a b) (hi c d)) else
   btw (pat a b (A3 c d a / (A3 c d a-A3 c d b))) (pat a b (A3 c d a / (A3 c d a-A3 c d b)))
 else []
theorem told_btw {p q:Pq} {S:Pq->Prop} (hle:ple p q) (h:∀ r,S r ↔ InS p q r):Told (btw p q) S:=by
 unfold btw
 by_cases hpq:p=q
 · rw [if_pos hpq];subst hpq;exact .one p fun r=>(h r).trans jN
 · rw [if_neg hpq];exact .two p q (plt_of hle hpq) h
theorem meetP_told (a b c d:Pq):Told (W4 a b c d) (fun p=>InS a b p/\InS c d p):=by
 unfold W4
 by_cases hm:ple (G5 (lo a b) (lo c d)) (G4 (hi a b) (hi c d))
 · rw [if_pos hm]
   by_cases h1:M9 (A3 a b c) (A3 a b d)
   · rw [if_pos h1];exact .none fun p hp=>aside_no h1 p ⟨hp.2,hp.1⟩
   · rw [if_neg h1]
     by_cases h2:M9 (A3 c d a) (A3 c d b)
     · rw [if_pos h2];exact .none fun p hp=>aside_no h2 p hp
     · rw [if_neg h2]
       by_cases h3:A3 c d a=0/\A3 c d b=0
       · rw [if_pos h3]
         refine told_btw hm fun p=>meet_line ?_ ?_ h3.1 h3.2 hm p
         all_goals
          have e:A3 a b c=A3 a b d:=by
           have h2:A3 a b c-A3 a b d = -(A3 c d a-A3 c d b):=by simp only [A3];grind
           grind
          rw [e] at h1
          unfold M9 at h1
          have:A3 a b d=0:=by grind
          first | exact e.trans this | exact this
       · rw [if_neg h3]
         have hne:A3 c d a≠A3 c d b:=by
          intro e
          rw [e] at h2 h3
          unfold M9 at h2
          exact h3 (by grind)
         refine told_btw (X6 _) fun p=>?_
         rw [jN]
         exact nL hne h2 h1 p
 · rw [if_neg hm]
   refine .none fun p hp=>hm ?_
   have h1:=ins_prog.1 hp.1
   have h2:=ins_prog.1 hp.2
   exact S9 (pmax_le.2 ⟨h1.1,h2.1⟩) (le_pmin.2 ⟨h1.2.1,h2.2.1⟩)
noncomputable def kC (a b c d:Pq):List Pq:=open Classical in
 if A3 c d a<0/\A3 c d b<0 then [] else
 if A3 c d a<0 then btw (pat a b (A3 c d a / (A3 c d a-A3 c d b))) b else
 if A3 c d b<0 then btw a (pat a b (A3 c d a / (A3 c d a-A3 c d b))) else btw a b
theorem btw_self (p:Pq):btw p p=[p]:=by unfold btw;rw [if_pos rfl]
def I9 (p q:Pq):Int:=if L9 p.1 q.1=0 then L9 p.2 q.2 else L9 p.1 q.1
theorem pcmp_or (p q:Pq):I9 p q = -1\/I9 p q=0\/I9 p q=1:=by
 unfold I9;split
 · exact rcmp_or _ _
 · exact rcmp_or _ _
theorem pcmp_zero {p q:Pq} : I9 p q=0 ↔ p=q:=by
 unfold I9
 constructor
 · intro h
   split at h
   · rename_i h1;exact Prod.ext (rcmp_zero.1 h1) (rcmp_zero.1 h)
   · contradiction
 · rintro rfl;rw [if_pos (mH _)];exact mH _
theorem pcmp_lt {p q:Pq} : I9 p q = -1 ↔ plt p q:=by
 unfold I9 plt
 split
 · rename_i h;have e:=rcmp_zero.1 h
   rw [rcmp_lt]
   constructor
   · exact fun h => .inr ⟨e,h⟩
   · rintro (h | h)
     · rw [e] at h;exact absurd h (by grind)
     · exact h.2
 · rename_i h
   have hne:p.1≠q.1:=fun e=>h (rcmp_zero.2 e)
   rw [rcmp_lt]
   constructor
   · exact fun h => .inl h
   · rintro (h | h)
     · exact h
     · exact absurd h.1 hne
theorem mL (p q:Pq):I9 q p = - I9 p q:=by
 unfold I9
 rw [mK p.1 q.1,mK p.2 q.2]
 split<;>split<;>omega
theorem pcmp_gt {p q:Pq} : I9 p q=1 ↔ plt q p:=by
 rw [<- pcmp_lt,mL p q];omega
theorem pcmp_le {p q:Pq} : I9 p q<=0 ↔ ple p q:=by
 have h:=pcmp_or p q
 have hg:=@pcmp_gt p q
 rw [plt_iff] at hg
 constructor
 · intro h1
   exact Classical.byContradiction fun h2=>by have:=hg.2 h2;omega
 · intro h1
   rcases h with h | h | h
   · omega
   · omega
   · exact absurd h1 (hg.1 h)
theorem bR (r:Rat):rsg r = -1\/rsg r=0\/rsg r=1:=by
 unfold rsg
 rcases Int.lt_trichotomy r.num 0 with h | h | h
 · left;exact Int.sign_eq_neg_one_of_neg h
 · right;left;rw [h];rfl
 · right;right;exact Int.sign_eq_one_of_pos h
theorem aside_iff {u v:Rat} : 0<rsg u*rsg v ↔ M9 u v:=by
 unfold M9
 rw [<- rsg_pos, <- rsg_pos, <- oI, <- oI]
 rcases bR u with h | h | h<;>rcases bR v with h' | h' | h'<;>rw [h,h']<;>simp
end Go.Proofs.YtninnifpgpjfhaaGreatDoor.PM
