/- What the laws lean on, part 20. -/
import Derived.Below
import Derived.BigCall
import Derived.BigQuiet
import Derived.BigRegion
import Derived.ChangeOld
import Derived.Deep.AppendLies
import Derived.Deep.CutBlock
import Derived.Deep.CutRange
import Derived.Deep.DeepCutAuto
import Derived.Deep.DeepHandedRow
import Derived.Deep.LoopGhost
import Derived.Deep.MidRow
import Derived.Deep.QuietTactic
import Derived.Deep.RegionHeld3
import Derived.Deep.RegionLaw
import Derived.Deep.Slices
import Derived.Deep.Strs
import Derived.Deep.WholeRow
import Derived.Laws.AppendOwn
import Derived.Laws.Concat
import Derived.Laws.CopyOwn
import Derived.Laws.Externs
import Derived.Laws.IdiomStrings
import Derived.Lib.BitFns
import Derived.Lib.Bytealg
import Derived.Lib.Hide
import Derived.Lib.LaidTab
import Derived.Lib.Slices
import Derived.Lib.Small
import Derived.Lib.Strings
import Derived.Lib.Walk
import Derived.LoopIn
import Derived.LoopN
import Derived.LoopNIn
import Derived.Maps.AppendAt
import Derived.OpenShut
import Derived.OrdersHeld
import Derived.OrdersIn
import Derived.Outline
import Derived.OwnWalk
import Derived.OwnWalkIn
import Derived.ProofKit
import Derived.RangeFuncBound
import Derived.RangeFuncCalls
import Derived.RangeFuncLeaves
import Derived.RangeFuncNested
import Derived.RangeFuncOwn
import Derived.Shelf.Abstract
import Derived.Shelf.Bits.Mul64
import Derived.Shelf.RegionOpen
import Derived.Shelf.Spec.TrailingZeros
import Derived.StillTailTactics
import Derived.TacticsInMore
import Derived.WalkKit
import Derived.WalkLawsBesides
import Derived.WalkSpells
import Derived.WideKeyArgs
import Derived.Test.YtamdnbbgpacfkaaGreatDoorCards
import Derived.Test.YtamdnbbgpacfkaaGreatDoorProg
import Derived.Test.YtamdnbbgpacfkaaGreatDoorRows
import Derived.Test.YtamdnbbgpacfkaaGreatDoorTie
import Derived.Test.YtamdnbbgpacfkaaGreatDoorMd19
set_option linter.unusedVariables false
set_option linter.unusedSimpArgs false
set_option maxRecDepth 100000
namespace Go.Proofs.YtamdnbbgpacfkaaGreatDoor.PM
def IsI (r:Rat):Prop:=∃ z:Int,r=(z:Rat)
theorem IsI.add {r s:Rat} (h:IsI r) (k:IsI s):IsI (r+s):=by obtain ⟨a,rfl⟩:=h;obtain ⟨b,rfl⟩:=k;exact ⟨a+b,by push_cast;rfl⟩
theorem IsI.sub {r s:Rat} (h:IsI r) (k:IsI s):IsI (r-s):=by obtain ⟨a,rfl⟩:=h;obtain ⟨b,rfl⟩:=k;exact ⟨a-b,by push_cast;rfl⟩
theorem IsI.mul {r s:Rat} (h:IsI r) (k:IsI s):IsI (r*s):=by obtain ⟨a,rfl⟩:=h;obtain ⟨b,rfl⟩:=k;exact ⟨a*b,by push_cast;rfl⟩
theorem IsI.one {r:Rat} (h:IsI r) (k : 0<r) : 1<=r:=by
 obtain ⟨a,rfl⟩:=h
 have h1:(0:Int)<a:=by exact_mod_cast k
 exact_mod_cast (show (1:Int)<=a by omega)
theorem IsI.of (z:Int):IsI (z:Rat):=⟨z,rfl⟩
def Wi (M r:Rat):Prop := -M<=r/\r<=M
theorem Wi.sub {M K r s:Rat} (h:Wi M r) (k:Wi K s):Wi (M+K) (r-s):=by unfold Wi at *;constructor<;>grind
theorem Wi.mul {M K r s:Rat} (h:Wi M r) (k:Wi K s):Wi (M*K) (r*s):=by
 obtain ⟨h1,h2⟩:=h;obtain ⟨k1,k2⟩:=k
 have a1:=Rat.mul_nonneg (show 0<=M-r by grind) (show 0<=K+s by grind)
 have a2:=Rat.mul_nonneg (show 0<=M+r by grind) (show 0<=K-s by grind)
 have a3:=Rat.mul_nonneg (show 0<=M-r by grind) (show 0<=K-s by grind)
 have a4:=Rat.mul_nonneg (show 0<=M+r by grind) (show 0<=K+s by grind)
 constructor<;>grind
theorem Wi.add {M K r s:Rat} (h:Wi M r) (k:Wi K s):Wi (M+K) (r+s):=by unfold Wi at *;constructor<;>grind
theorem far_of {c s d W t K:Rat} (hi:IsI (W*c)) (hW : 0<W) (hc:c≠0) (h:c=s*d) (s0 : 0<=s) (s1:s<=t) (hd:Wi K d) (hK:W*t*K<1):False:=by
 have hK0 : 0<=K:=by unfold Wi at hd;grind
 have hm:Wi (t*K) c:=by rw [h];exact Wi.mul (show Wi t s by unfold Wi;constructor<;>grind) hd
 rcases (show c<0\/0<c by grind) with h1 | h1
 · have h2:=Rat.mul_pos hW (show 0 < -c by grind)
   have h3:IsI (-(W*c)):=by obtain ⟨z,hz⟩:=hi;exact ⟨-z,by rw [hz];push_cast;rfl⟩
   have h4:=h3.one (by grind)
   have h5:=Rat.mul_le_mul_of_nonneg_left (show -c<=t*K by unfold Wi at hm;grind) (Rat.le_of_lt hW)
   grind
 · have h2:=Rat.mul_pos hW h1
   have h4:=hi.one h2
   have h5:=Rat.mul_le_mul_of_nonneg_left hm.2 (Rat.le_of_lt hW)
   grind
theorem dm {x d:Rat} (h : 0<d):x / d*d=x:=by grind
theorem seg_a {u v k:Rat} (h:k*(v-u) = -u):(1-k)*u+k*v=0:=by grind
theorem seg_b {u v k:Rat} (h:k*(u-v)=u):(1-k)*u+k*v=0:=by grind
def In2 (M:Rat) (p:Pq):Prop:=Wi M p.1/\Wi M p.2
def Is2 (W:Rat) (p:Pq):Prop:=IsI (W*p.1)/\IsI (W*p.2)
theorem pass_zero {e m x y:Pq} {s:Rat} (h:pass (ld e m x) (ld e m y)=0) (s0 : 0<=s) (s1:s<=1) (hz:dcr e m (pat x y s)=0):(dcr e m x=0/\dcr e m y=0)\/(dcr e m x=0/\s=0)\/(dcr e m y=0/\s=1):=by
 have e1:dcr e m (pat x y s)=(1-s)*dcr e m x+s*dcr e m y:=by unfold dcr pat;dsimp only;grind
 rw [e1] at hz
 have hor:(0<dcr e m x/\0<dcr e m y)\/(dcr e m x<=0/\dcr e m y<=0):=by
  unfold pass ld at h
  rcases F4 (dcr e m x) with k1 | k1 | k1<;>rcases F4 (dcr e m y) with k2 | k2 | k2<;>simp [k1,k2] at h
  · exact .inr ⟨Rat.le_of_lt (rsg_nz.1 k1),Rat.le_of_lt (rsg_nz.1 k2)⟩
  · exact .inr ⟨Rat.le_of_lt (rsg_nz.1 k1),by have:=rsg_zero.1 k2;grind⟩
  · exact .inr ⟨by have:=rsg_zero.1 k1;grind,Rat.le_of_lt (rsg_nz.1 k2)⟩
  · exact .inr ⟨by have:=rsg_zero.1 k1;grind,by have:=rsg_zero.1 k2;grind⟩
  · exact .inl ⟨rsg_pos.1 k1,rsg_pos.1 k2⟩
 generalize dcr e m x=u at *
 generalize dcr e m y=v at *
 have a0 : 0<=1-s:=by grind
 rcases hor with ⟨h1,h2⟩ | ⟨h1,h2⟩
 · exfalso
   rcases (show s=0\/0<s by grind) with h3 | h3
   · rw [h3] at hz;grind
   · have:=Rat.mul_pos h3 h2;have:=Rat.mul_nonneg a0 (Rat.le_of_lt h1);grind
 · have b1:=Rat.mul_nonneg a0 (show 0 <= -u by grind)
   have b2:=Rat.mul_nonneg s0 (show 0 <= -v by grind)
   have z1:(1-s)*u=0:=by grind
   have z2:s*v=0:=by grind
   rcases Rat.mul_eq_zero.1 z1 with h3 | h3<;>rcases Rat.mul_eq_zero.1 z2 with h4 | h4
   · exfalso;grind
   · exact .inr (.inr ⟨h4,by grind⟩)
   · exact .inr (.inl ⟨h3,h4⟩)
   · exact .inl ⟨h3,h4⟩
theorem ray_at {a b x:Pq} (h:a≠b) (hz:dcr (nrm a b) (B2 a b) x=0):∃ s,x=stp a b s:=by
 have hn:=M5 h
 obtain ⟨a1,a2⟩:=a;obtain ⟨b1,b2⟩:=b;obtain ⟨x1,x2⟩:=x
 simp only [dcr,nrm] at hz
 simp only [stp,nrm]
 generalize (B2 (a1,a2) (b1,b2)).1=m1 at *
 generalize (B2 (a1,a2) (b1,b2)).2=m2 at *
 refine ⟨((a2-b2)*(x1-m1)+(b1-a1)*(x2-m2)) / ((b1-a1)*(b1-a1)+(b2-a2)*(b2-a2)), ?_⟩
 simp only at hn
 have hN0:(b1-a1)*(b1-a1)+(b2-a2)*(b2-a2)≠0:=by grind
 have hq:((a2-b2)*(x1-m1)+(b1-a1)*(x2-m2)) / ((b1-a1)*(b1-a1)+(b2-a2)*(b2-a2))*((b1-a1)*(b1-a1)+(b2-a2)*(b2-a2))=((a2-b2)*(x1-m1)+(b1-a1)*(x2-m2)):=by grind
 generalize ((a2-b2)*(x1-m1)+(b1-a1)*(x2-m2)) / ((b1-a1)*(b1-a1)+(b2-a2)*(b2-a2))=k at *
 have k1:((b1-a1)*(b1-a1)+(b2-a2)*(b2-a2))*(x1-(m1+k*(a2-b2)))=0:=by grind
 have k2:((b1-a1)*(b1-a1)+(b2-a2)*(b2-a2))*(x2-(m2+k*(b1-a1)))=0:=by grind
 have k3:x1-(m1+k*(a2-b2))=0:=by rcases Rat.mul_eq_zero.1 k1 with h | h;exact absurd h hN0;exact h
 have k4:x2-(m2+k*(b1-a1))=0:=by rcases Rat.mul_eq_zero.1 k2 with h | h;exact absurd h hN0;exact h
 exact Prod.ext (by dsimp only;grind) (by dsimp only;grind)
theorem free_small {a b x y:Pq} {W M t:Rat} (hab:a≠b) (hW : 1<=W) (iW:IsI W) (ia:Is2 W a) (ib:Is2 W b) (ix:Is2 1 x) (iy:Is2 1 y) (ma:In2 M a) (mb:In2 M b) (mx:In2 M x) (my:In2 M y)
 (ht : 0<t) (hs : 16*W*W*M*M*t<1) (hf:Fair a b x y):Free a b t x y:=by
 rcases hf with hf | hf
 · left
   rintro q ⟨s,s0,s1,rfl⟩ hq
   rw [stp_pat] at hq
   have hM : 0<=M:=by have:=ma.1;unfold Wi at this;grind
   have i1:IsI (2*W*((B2 a b).1)):=by have:=ia.1.add ib.1;unfold B2;dsimp only;have e : 2*W*((a.1+b.1)*(1 / 2))=W*a.1+W*b.1:=by grind
                                      rw [e];exact this
   have i2:IsI (2*W*((B2 a b).2)):=by have:=ia.2.add ib.2;unfold B2;dsimp only;have e : 2*W*((a.2+b.2)*(1 / 2))=W*a.2+W*b.2:=by grind
                                      rw [e];exact this
   have two:IsI (2:Rat):=IsI.of 2
   have x1:IsI x.1:=by have:=ix.1;rwa [Rat.one_mul] at this
   have x2:IsI x.2:=by have:=ix.2;rwa [Rat.one_mul] at this
   have y1:IsI y.1:=by have:=iy.1;rwa [Rat.one_mul] at this
   have y2:IsI y.2:=by have:=iy.2;rwa [Rat.one_mul] at this
   have hst : 0<=s*t/\s*t<=t:=by
    constructor
    · exact Rat.mul_nonneg s0 (Rat.le_of_lt ht)
    · have:=Rat.mul_nonneg (show 0<=1-s by grind) (Rat.le_of_lt ht);grind
   have MM : 0<=M*M:=Rat.mul_nonneg hM hM
   have WW : 0<=M*M*t:=Rat.mul_nonneg MM (Rat.le_of_lt ht)
   have W2 : 1<=W*W:=by have:=Rat.mul_nonneg (show 0<=W-1 by grind) (show 0<=W+1 by grind);grind
   have big1 : 2*W*t*(8*(M*M))<1:=by
    have e:=Rat.mul_nonneg (Rat.mul_nonneg (show 0<=W by grind) (show 0<=W-1 by grind)) WW
    grind
   by_cases hp:pass (ld (nrm a b) (B2 a b) x) (ld (nrm a b) (B2 a b) y)=0
   · obtain ⟨r,r0,r1,hr⟩:=hq
     have hz:dcr (nrm a b) (B2 a b) (pat x y r)=0:=by rw [<- hr];unfold dcr stp;dsimp only;grind
     have key:∀ z:Pq,Is2 1 z -> ∀ u,z=stp a b u->u≠0->0<=u->u<=t->False:=fun z iz u hu u0 u1 u2=>by
      have z1:IsI z.1:=by have:=iz.1;rwa [Rat.one_mul] at this
      have z2:IsI z.2:=by have:=iz.2;rwa [Rat.one_mul] at this
      have hn:=M5 hab
      have mn:Wi (8*(M*M)) ((b.1-a.1)*(b.1-a.1)+(b.2-a.2)*(b.2-a.2)):=by
       have h1:=(mb.1.sub ma.1).mul (mb.1.sub ma.1)
       have h2:=(mb.2.sub ma.2).mul (mb.2.sub ma.2)
       have:=h1.add h2
       have e:(M+M)*(M+M)+(M+M)*(M+M)=8*(M*M):=by grind
       rw [e] at this;exact this
      refine far_of (c:=(nrm a b).1*(z.1-(B2 a b).1)+(nrm a b).2*(z.2-(B2 a b).2)) (W:=W*(2*W)) (t:=t) (K:=8*(M*M)) (s:=u) (d:=(b.1-a.1)*(b.1-a.1)+(b.2-a.2)*(b.2-a.2)) ?_ ?_ ?_ ?_ u1 u2 mn ?_
      · have e:W*(2*W)*((nrm a b).1*(z.1-(B2 a b).1)+(nrm a b).2*(z.2-(B2 a b).2))=(W*a.2-W*b.2)*(2*W*z.1-2*W*(B2 a b).1)+(W*b.1-W*a.1)*(2*W*z.2-2*W*(B2 a b).2):=by unfold nrm;dsimp only;grind
        rw [e]
        exact ((ia.2.sub ib.2).mul (((two.mul iW).mul z1).sub i1)).add ((ib.1.sub ia.1).mul (((two.mul iW).mul z2).sub i2))
      · have:=Rat.mul_pos (show 0<W by grind) (show 0<2*W by grind);exact this
      · have e:(nrm a b).1*(z.1-(B2 a b).1)+(nrm a b).2*(z.2-(B2 a b).2)=u*((b.1-a.1)*(b.1-a.1)+(b.2-a.2)*(b.2-a.2)):=by rw [hu];unfold stp nrm;dsimp only;grind
        rw [e]
        have:=Rat.mul_pos (show 0<u by grind) hn;grind
      · rw [hu];unfold stp nrm;dsimp only;grind
      · have:W*(2*W)*t*(8*(M*M))=16*W*W*M*M*t:=by grind
        rw [this];exact hs
     have hne:∀ z u:_,z=stp a b u->z≠B2 a b->u≠0:=fun z u h1 h2 h3=>h2 (by rw [h1,h3];unfold stp;exact Prod.ext (by dsimp only;grind) (by dsimp only;grind))
     have nm:=not_mid hf
     rcases pass_zero hp r0 r1 hz with ⟨h1,h2⟩ | ⟨h1,h2⟩ | ⟨h1,h2⟩
     · obtain ⟨u,hu⟩:=ray_at hab h1
       obtain ⟨v,hv⟩:=ray_at hab h2
       have hu0:=hne _ _ hu nm.1
       have hv0:=hne _ _ hv nm.2
       have hst':s*t=(1-r)*u+r*v:=by
        have h3:=congrArg (fun p:Pq=>(nrm a b).1*p.1+(nrm a b).2*p.2) hr
        rw [hu,hv] at h3
        have hn:=M5 hab
        unfold pat stp nrm at h3
        dsimp only at h3
        have h4:((b.1-a.1)*(b.1-a.1)+(b.2-a.2)*(b.2-a.2))*(s*t-((1-r)*u+r*v))=0:=by grind
        rcases Rat.mul_eq_zero.1 h4 with h5 | h5
        · grind
        · grind
       have huv:¬ (u<=0/\0<=v) /\ ¬ (0<=u/\v<=0):=by
        have mk:∀ k,0<=k->k<=1->(1-k)*u+k*v=0->False:=fun k k0 k1 hk=>hf ⟨k,k0,k1,by
         rw [hu,hv];unfold pat stp
         have e1:∀ m n:Rat,m=m+u*n+(m+v*n-(m+u*n))*k:=fun m n=>by
          have:((1-k)*u+k*v)*n=0:=by rw [hk];grind
          grind
         exact Prod.ext (e1 _ _) (e1 _ _)⟩
        constructor
        · rintro ⟨c1,c2⟩
          have hd : 0<v-u:=by grind
          have hq:(-u) / (v-u)*(v-u) = -u:=dm hd
          have hu1:=X5 hd hq (by grind) (by grind)
          exact mk _ hu1.1 hu1.2 (seg_a hq)
        · rintro ⟨c1,c2⟩
          have hd : 0<u-v:=by grind
          have hq:u / (u-v)*(u-v)=u:=dm hd
          have hu1:=X5 hd hq (by grind) (by grind)
          exact mk _ hu1.1 hu1.2 (seg_b hq)
       rcases (show u<0\/0<u by grind) with c1 | c1
       · have c2:v<0:=by grind
         have e1:=Rat.mul_nonneg (show 0<=1-r by grind) (show 0 <= -u by grind)
         have e2:=Rat.mul_nonneg r0 (show 0 <= -v by grind)
         have z1:(1-r)*u=0:=by grind
         have z2:r*v=0:=by grind
         rcases Rat.mul_eq_zero.1 z1 with h5 | h5
         · rcases Rat.mul_eq_zero.1 z2 with h6 | h6<;>grind
         · exact hu0 h5
       · have c2 : 0<v:=by grind
         rcases (show u<=v\/v<=u by grind) with c3 | c3
         · have e1:=Rat.mul_nonneg r0 (show 0<=v-u by grind)
           exact key x ix u hu hu0 (Rat.le_of_lt c1) (by grind)
         · have e1:=Rat.mul_nonneg (show 0<=1-r by grind) (show 0<=u-v by grind)
           exact key y iy v hv hv0 (Rat.le_of_lt c2) (by grind)
     · subst h2
       rw [fL] at hr
       exact key x ix (s*t) hr.symm (hne _ _ hr.symm nm.1) hst.1 hst.2
     · subst h2
       rw [sP] at hr
       exact key y iy (s*t) hr.symm (hne _ _ hr.symm nm.2) hst.1 hst.2
   · have hc0:A4 x y (B2 a b)≠0:=fun h=>hf (bI hp h)
     have hcr:=(ins_doc.1 hq).1
     have e:A4 x y (stp a b (s*t))=A4 x y (B2 a b)-(s*t) * -((y.1-x.1)*(nrm a b).2-(y.2-x.2)*(nrm a b).1):=by unfold A4 stp;dsimp only;grind
     have mn:Wi (8*(M*M)) (-((y.1-x.1)*(nrm a b).2-(y.2-x.2)*(nrm a b).1)):=by
      have h1:=(my.1.sub mx.1).mul (mb.1.sub ma.1)
      have h2:=(my.2.sub mx.2).mul (ma.2.sub mb.2)
      have:=h1.sub h2
      have e:(M+M)*(M+M)+(M+M)*(M+M)=8*(M*M):=by grind
      rw [e] at this
      unfold nrm Wi at *;dsimp only;constructor<;>grind
     refine far_of (c:=A4 x y (B2 a b)) (W:=2*W) (t:=t) (K:=8*(M*M)) (s:=s*t) (d := -((y.1-x.1)*(nrm a b).2-(y.2-x.2)*(nrm a b).1)) ?_ (by grind) hc0 (by grind) hst.1 hst.2 mn big1
     have e : 2*W*A4 x y (B2 a b)=(y.1-x.1)*(2*W*(B2 a b).2-2*W*x.2)-(y.2-x.2)*(2*W*(B2 a b).1-2*W*x.1):=by unfold A4;grind
     rw [e]
     exact ((y1.sub x1).mul (i2.sub ((two.mul iW).mul x2))).sub ((y2.sub x2).mul (i1.sub ((two.mul iW).mul x1)))
 · exact .inr hf
end Go.Proofs.YtamdnbbgpacfkaaGreatDoor.PM
namespace Go.Proofs.YtamdnbbgpacfkaaGreatDoor
open Go.RowKit Mat Ex PM
theorem pS (a b:Pq):B2 b a=B2 a b:=by unfold B2;rw [Rat.add_comm b.1,Rat.add_comm b.2]
theorem rF {a b:Pq} (hne:a≠b):(E9 a.2 b.2=0->upr (B2 a b) b≠0)/\(E9 a.2 b.2≠0->lvl (B2 a b) b≠0):=by
 constructor
 · intro h2
   unfold upr B2
   rw [I0] at h2 ⊢
   intro e
   have e2:=rsg_zero.1 h2
   have e1:=rsg_zero.1 e
   exact hne (Prod.ext (by dsimp only at e1;grind) (by grind))
 · intro h2
   unfold lvl B2
   rw [I0] at h2 ⊢
   intro e
   have e1:=rsg_zero.1 e
   exact h2 (rsg_zero.2 (by dsimp only at e1;grind))
theorem left_ld {l:List Pq} {a b e:Pq} (hab:a≠b) (he:ld e (B2 a b) b≠0) (hf:U9 l a b) {t:Rat} (ht : 0<t) (hfree:L8 l a b t l.length):arN l (stp a b t)=(nJ (ld e (B2 a b)) (B2 a b) b l).1:=by
 have hno:¬ OnR l (stp a b t):=by
  rintro ⟨i,hi,hin⟩
  exact off_free hab ht (hfree i hi) hin
 unfold arN
 rw [I1 hno,if_neg (by decide),beside_one l hab he ht hfree hf]
 unfold nJ
 by_cases h : 0<ld e (B2 a b) b
 · rw [if_pos h,if_pos h]
 · rw [if_neg h,if_neg h,Int.add_zero]
theorem left_val {l:List Pq} {a b:Pq} (hp:F0 a b≠0) (hf:U9 l a b) {t:Rat} (ht : 0<t) (hfree:L8 l a b t l.length):arN l (stp a b t)=(bes l a b).1:=by
 have hab:a≠b:=fun e=>hp (pcmp_zero.2 e)
 unfold bes
 rw [if_neg hp]
 by_cases h2:E9 a.2 b.2=0
 · rw [if_pos h2,qU]
   exact left_ld hab (by rw [<- qU];exact (rF hab).1 h2) hf ht hfree
 · rw [if_neg h2,mD]
   exact left_ld hab (by rw [<- mD];exact (rF hab).2 h2) hf ht hfree
theorem ld_mid (e a b:Pq):ld e (B2 a b) a = - ld e (B2 a b) b:=by
 unfold ld
 rw [<- rD]
 congr 1
 unfold dcr B2;dsimp only;grind
theorem qO (e a b:Pq) (l:List Pq) (he:ld e (B2 a b) b≠0):(nJ (ld e (B2 a b)) (B2 a b) a l).1=(nJ (ld e (B2 a b)) (B2 a b) b l).2:=by
 have h:=ld_mid e a b
 unfold nJ
 by_cases h1 : 0<ld e (B2 a b) b
 · rw [if_pos h1,if_neg (by omega)]
 · rw [if_neg h1,if_pos (by omega)]
theorem bes_swap {l:List Pq} {a b:Pq} (hp:F0 a b≠0):(bes l b a).1=(bes l a b).2:=by
 have hab:a≠b:=fun e=>hp (pcmp_zero.2 e)
 have hp2:F0 b a≠0:=fun e=>hp (pcmp_zero.2 (pcmp_zero.1 e).symm)
 have hr:E9 b.2 a.2=0 ↔ E9 a.2 b.2=0:=by
  rw [I0,I0,rsg_zero,rsg_zero];constructor<;>intro h<;>grind
 unfold bes
 rw [if_neg hp,if_neg hp2,pS]
 by_cases h2:E9 a.2 b.2=0
 · rw [if_pos h2,if_pos (hr.2 h2),qU]
   exact qO _ a b l (by rw [<- qU];exact (rF hab).1 h2)
 · rw [if_neg h2,if_neg (fun e=>h2 (hr.1 e)),mD]
   exact qO _ a b l (by rw [<- mD];exact (rF hab).2 h2)
theorem qG {l:List Pq} {a b:Pq} (h:U9 l a b):U9 l b a:=fun i hi=>by
 rcases h i hi with h | ⟨h1,h2⟩
 · exact .inl (by rw [pS];exact h)
 · refine .inr ⟨?_, ?_⟩<;>unfold A4 at * <;> grind
theorem castB {x:Int} (h : -9223372036854775808<=x/\x<=9223372036854775808):Wi (9223372036854775808:Rat) (x:Rat):=by
 constructor
 · have h1:=Rat.intCast_le_intCast.2 h.1
   rw [Rat.intCast_neg] at h1
   exact h1
 · exact Rat.intCast_le_intCast.2 h.2
def Sm (p:H3):Prop:=0<p.z/\p.z<=60/\(-9223372036854775808<=p.x/\p.x<=9223372036854775808)/\(-9223372036854775808<=p.y/\p.y<=9223372036854775808)
theorem quoB {x z:Int} (h : -9223372036854775808<=x/\x<=9223372036854775808) (hz' : 0<z):Wi (9223372036854775808:Rat) (Rat.divInt x z):=by
 have hp:(1:Rat)<=(z:Rat):=by exact_mod_cast hz'
 have hd:Rat.divInt x z*(z:Rat)=(x:Rat):=by rw [jW];exact Rat.div_mul_cancel (hz hz')
 obtain ⟨c1,c2⟩:=castB h
 generalize Rat.divInt x z=r at *
 constructor
 · by_cases h0 : 0<=r
   · grind
   · have:r*(z:Rat)<=r*1:=by
      have:=Rat.mul_le_mul_of_nonneg_left hp (show 0 <= -r by grind)
      grind
     grind
 · by_cases h0 : 0<=r
   · have:=Rat.mul_le_mul_of_nonneg_left hp h0
     grind
   · grind
theorem Sm.in2 {p:H3} (h:Sm p):In2 9223372036854775808 (rp p):=⟨quoB h.2.2.1 h.1,quoB h.2.2.2 h.1⟩
theorem wint {x z c:Int} (h : 0<z):IsI (((z*c:Int):Rat)*Rat.divInt x z):=by
 refine ⟨c*x, ?_⟩
 have hd:Rat.divInt x z*(z:Rat)=(x:Rat):=by rw [jW];exact Rat.div_mul_cancel (hz h)
 rw [Rat.intCast_mul,Rat.intCast_mul, <- hd];grind
theorem Sm.is2 {p:H3} (h:Sm p) (c:Int):Is2 ((p.z*c:Int):Rat) (rp p):=⟨wint h.1,wint h.1⟩
theorem big_t:fv (ptk 40)=1 / (2*16^40:Nat):=by rw [rK];unfold fv;rw [jW];rfl
theorem small_hs {W:Int} (h1 : 1<=W) (h2:W<=3600) : 16*(W:Rat)*W*9223372036854775808*9223372036854775808*fv (ptk 40)<1:=by
 have hT:(0:Rat)<((2*16^40:Nat):Rat):=by decide
 have hWW:W*W<=3600*3600:=Int.mul_le_mul h2 h2 (by omega) (by omega)
 have hi : 16*(W*W)*9223372036854775808*9223372036854775808<((2*16^40:Nat):Int):=by
  have:((2*16^40:Nat):Int)=2923003274661805836407369665432566039311865085952:=by decide
  rw [this];omega
 have hr:((16*(W*W)*9223372036854775808*9223372036854775808:Int):Rat)<((((2*16^40:Nat):Int)):Rat):=Rat.intCast_lt_intCast.2 hi
 rw [big_t]
 have hc:((((2*16^40:Nat):Int)):Rat)=((2*16^40:Nat):Rat):=rfl
 rw [hc] at hr
 have ht:(1 / ((2*16^40:Nat):Rat))*((2*16^40:Nat):Rat)=1:=Rat.div_mul_cancel (by grind)
 have hpos : 0<1 / ((2*16^40:Nat):Rat):=by
  have:=big_t ▸ rJ 40
  exact this
 generalize 1 / ((2*16^40:Nat):Rat)=t at *
 generalize ((2*16^40:Nat):Rat)=T at *
 have:=Rat.mul_lt_mul_of_pos_right hr hpos
 have e:((16*(W*W)*9223372036854775808*9223372036854775808:Int):Rat)=16*(W:Rat)*W*9223372036854775808*9223372036854775808:=by push_cast;grind
 rw [e] at this
 grind
theorem free40 {L:List H3} {a b:H3} (hp:F0 (rp a) (rp b)≠0) (ha:Sm a) (hb:Sm b) (hL:∀ p ∈ L,Sm p/\p.z=1) (hf:U9 (L.map rp) (rp a) (rp b)):L8 (L.map rp) (rp a) (rp b) (fv (ptk 40)) L.length:=by
 intro j hj
 have hz1 : 1<=a.z*b.z:=Int.mul_pos ha.1 hb.1
 have hz2:a.z*b.z<=3600:=Int.le_trans (Int.mul_le_mul ha.2.1 hb.2.1 (by have:=hb.1;omega) (by omega)) (by decide)
 have hpt:∀ p ∈ L,Is2 1 (rp p)/\In2 9223372036854775808 (rp p):=fun p hp=>by
  obtain ⟨h1,h2⟩:=hL p hp
  refine ⟨?_,h1.in2⟩
  have:=h1.is2 1
  rw [h2] at this
  exact_mod_cast this
 have hf':=hf j (by rw [List.length_map];exact hj)
 rw [<- aP L j hj, <- bL L j hj] at hf' ⊢
 have p1:=hpt _ (F6 (l:=L) (k:=j) hj)
 have p2:=hpt _ (F6 (l:=L) (k:=(j+1)%L.length) (Nat.mod_lt _ (by omega)))
 refine free_small (W:=((a.z*b.z:Int):Rat)) (M:=9223372036854775808) (fun e=>hp (pcmp_zero.2 e)) (by exact_mod_cast hz1) ⟨_,rfl⟩ (ha.is2 b.z) (by rw [Int.mul_comm];exact hb.is2 a.z) p1.1 p2.1 ha.in2 hb.in2 p1.2 p2.2 (rJ 40) (small_hs hz1 hz2) hf'
theorem eU (w:World) (va vb:Value) (l:List H3) (a b:H3) (Ha:HrV w va l) (Hb:HsV w vb a b) (hn:l.length<=40) (hl:∀ p ∈ l,HB 5 p/\0<p.z) (ba:HB 5 a) (bb:HB 5 b) (za : 0<a.z) (zb : 0<b.z) (sa:Sm a) (sb:Sm b) (hL:∀ p ∈ l,Sm p/\p.z=1) (hf:F0 (rp a) (rp b)≠0->U9 (l.map rp) (rp a) (rp b)) :
 Calls Tryz.prog 17 #[va,vb] w (fun e w'=>e = .returned (.tuple #[.int .i64 (bes (l.map rp) (rp a) (rp b)).1,.int .i64 (bes (l.map rp) (rp a) (rp b)).2])/\w.grownBy w' none):=by
 rcases (show F0 (rp a) (rp b)=0\/F0 (rp a) (rp b)≠0 by omega) with h0 | h0
 · skip
   unfold bes
   rw [if_pos h0]
   refine A6 B6 Tryz.func17 [sHr 0 l,sHs a b] [sZ (F0 (rp a) (rp b)),sV (.bool true)] (.cons ⟨Ha,fun _ _=>Nat.zero_le _⟩ (.cons Hb .nil)) (rs:=[cl 2 15 [ag 6 1,.v true [.an 1 6,.an 1 7,.an 1 8,.an 1 9,.an 1 10,.an 1 11]],co 3 (.binOp .eql 3 (.tmp 10) (.const (.int .i64 0)) 3) 4 [on 2,.v false [.lit (.int .i64 0)]] [0,1,2] []]) (out := .tup [(false,[.lit (.int .i64 0)]),(false,[.lit (.int .i64 0)])]) (nc:=4) (by kernel_rfl)
    ⟨fun σ W g h hb=>(D2 W _ _ a b 5 (hs1 (h 1 rfl)) (hs2 (h 1 rfl)) (by omega) ba bb za zb).mono fun _ _ ⟨a,g⟩=>⟨_,a,rfl,g⟩,
    fun σ W g h hb=>fun ρ o ho _ hv=>⟨_,D7 true ho ((A0 hv).1.trans (h 2 rfl)) (A0 hv).2 (decide_eq_true h0),rfl⟩,
    trivial⟩ fun τ W g h=>⟨rfl,g⟩
 · skip
   have hf:=hf h0
   have h0':F0 (rp b) (rp a)≠0:=fun e=>h0 (pcmp_zero.2 (pcmp_zero.1 e).symm)
   have hlen:(l.map rp).length=l.length:=by simp
   refine A6 B6 Tryz.func17 [sHr 0 l,sHs a b] [sZ (F0 (rp a) (rp b)),sV (.bool false),sZ ((bes (l.map rp) (rp a) (rp b)).1),sZ ((bes (l.map rp) (rp a) (rp b)).2)] (.cons ⟨Ha,fun _ _=>Nat.zero_le _⟩ (.cons Hb .nil)) (rs:=[cl 2 15 [ag 6 1,.v true [.an 1 6,.an 1 7,.an 1 8,.an 1 9,.an 1 10,.an 1 11]],co 3 (.binOp .eql 3 (.tmp 10) (.const (.int .i64 0)) 3) 4 [on 2,.v false [.lit (.int .i64 0)]] [0,1,2] [],cl 4 48 [on 0,ag 12 1],cl 5 48 [on 0,.v true [.an 1 6,.an 1 7,.an 1 8,.an 1 9,.an 1 10,.an 1 11,.an 1 0,.an 1 1,.an 1 2,.an 1 3,.an 1 4,.an 1 5]]]) (out := .tup [(false,[.an 4 0]),(false,[.an 5 0])]) (nc:=6) (by kernel_rfl)
    ⟨fun σ W g h hb=>(D2 W _ _ a b 5 (hs1 (h 1 rfl)) (hs2 (h 1 rfl)) (by omega) ba bb za zb).mono fun _ _ ⟨a,g⟩=>⟨_,a,rfl,g⟩,
    fun σ W g h hb=>fun ρ o ho _ hv=>⟨_,D7 false ho ((A0 hv).1.trans (h 2 rfl)) (A0 hv).2 (decide_eq_false h0),rfl⟩,
    fun σ W g h hb=>by
     obtain ⟨h40a,hva⟩:=(show L8 (l.map rp) (rp a) (rp b) (fv (ptk 40)) l.length /\ ∀ t:Rat,0<t->L8 (l.map rp) (rp a) (rp b) t l.length->arN (l.map rp) (stp (rp a) (rp b) t)=(bes (l.map rp) (rp a) (rp b)).1 from ⟨free40 h0 sa sb hL hf,fun t t0 tf=>left_val h0 hf t0 (by rw [hlen];exact tf)⟩)
     exact (lP W _ _ l a b (h 0 rfl).1 (h 1 rfl) hn hl ba bb za zb h40a).mono fun e w2 ⟨t,t0,tf,e1,g2⟩=>⟨_,e1,congrArg (Value.int .i64) (hva t t0 tf),g2⟩,
    fun σ W g h hb=>by
     obtain ⟨h40a,hva⟩:=(show L8 (l.map rp) (rp b) (rp a) (fv (ptk 40)) l.length /\ ∀ t:Rat,0<t->L8 (l.map rp) (rp b) (rp a) t l.length->arN (l.map rp) (stp (rp b) (rp a) t)=(bes (l.map rp) (rp a) (rp b)).2 from ⟨free40 h0' sb sa hL (qG hf),fun t t0 tf=>(left_val h0' (qG hf) t0 (by rw [hlen];exact tf)).trans (bes_swap h0)⟩)
     exact (lP W _ _ l b a (h 0 rfl).1 (gJ (hs2 (h 1 rfl)) (hs1 (h 1 rfl))) hn hl bb ba zb za h40a).mono fun e w2 ⟨t,t0,tf,e1,g2⟩=>⟨_,e1,congrArg (Value.int .i64) (hva t t0 tf),g2⟩,
    trivial⟩ fun τ W g h=>by
     have e1 : τ.an 4 0=_:=h 4 rfl
     have e2 : τ.an 5 0=_:=h 5 rfl
     refine ⟨?_,g⟩
     show Ending.returned (.tuple #[τ.an 4 0, τ.an 5 0])=_
     rw [e1,e2]
theorem wrapN {n:Nat} (h:n<=1000):IntKind.u64.wrap (n:Int)=n:=by simp [IntKind.wrap,IntKind.signed,IntKind.bits];omega
end Go.Proofs.YtamdnbbgpacfkaaGreatDoor
namespace Go.Proofs.YtamdnbbgpacfkaaGreatDoor
open Go.ChangeShapes Go.WideShapes Go.ChangeAt Go.RowKit Go.ChangeMaps
theorem dV {W W':World} (h:W.grownBy W' none) {p:MemPlace} (hp:p.block<W.heap.size):W.sameAt W' p:=by
 cases p with
 | cell b o=>exact World.cell?_of_block (w:=W) (h.block b hp (by simp))
 | map b=>exact h.block b hp (by simp)
theorem rY {W W':World} (h:W.grownBy W' none) {b off:Nat} (hp:b<W.heap.size):W'.frozen? ⟨b,off,none⟩=W.frozen? ⟨b,off,none⟩:=by
 unfold World.frozen?
 rw [h.block b hp (by simp)]
theorem post_places {H:Type} {enc:TypeId × Value->H} {P:Program} {f:Func} {s:ChangeSpec} {apart fresh handsOn again:Bool} {W W':World} {args:Array Value} {v:Value} {ds gs:List (DataW H)} {before:List MemPlace}
 (hW:DataW.Whole enc P f.params.toList s.vars apart W args.toList ds gs before)
 (hlt:∀ p ∈ before,p.block<W.heap.size)
 (hres:∀ (b:Nat) (sp:Nat->Bool) (hd:Bool),DataW.TrodAll enc P W' b sp hd f.resultTypes.toList (v.resultList f.resultTypes.size) (s.fn H (ds++gs)).results [])
 (hargs:∀ sp:Nat->Bool,(∀ p ∈ before,sp p.block=true)->DataW.TrodAll enc P W' 0 sp true f.params.toList args.toList (s.fn H (ds++gs)).args before)
 (hvars:∀ sp:Nat->Bool,DataW.TrodVars enc P W' sp s.vars (s.fn H (ds++gs)).vars [])
 (hg:W.grownBy W' none)
 (hok:∀ (j:Nat) (t:TypeId) (r:Value),f.resultTypes[j]?=some t->(v.resultList f.resultTypes.size)[j]?=some r->Value.okWide P W' .any 0 t r) :
 s.post enc P f apart fresh handsOn again W args v W':=by
 have hW2:=hW
 obtain ⟨_,_,_,_,_,hfz,hnd⟩:=hW2
 have hA:=hargs (fun b=>decide (b<W.heap.size)) (fun p hp=>decide_eq_true (hlt p hp))
 refine ⟨ds,gs,before,[],before,[],hW,hres _ _ _,hA,hvars _,World.keptBut_mono (fun p hp=>hp.elim) (oU hg),fun _=>?_⟩
 refine ⟨hok,_,_,before,⟨before,[],trodAll_append (hargs (fun _=>true) (fun _ _=>rfl)) (hres _ _ _),hvars _,(List.append_nil _).symm, ?_,hnd⟩,fun p hp _=>hp⟩
 intro b off hp
 rw [rY hg (show b<W.heap.size from hlt _ hp)]
 exact hfz b off hp
end Go.Proofs.YtamdnbbgpacfkaaGreatDoor
namespace Go.Proofs.YtamdnbbgpacfkaaGreatDoor
open Go.ChangeShapes Go.WideShapes Go.ChangeAt Go.RowKit Go.ChangeMaps Mat
theorem pA : Tryz.prog.globalNamed "math/bits.deBruijn64tab" = some 2 := by kernel_rfl
theorem tab_typed:(Tryz.prog.globals[2]?).map (·.type)=some 302:=by kernel_rfl
theorem tab_cells:Tryz.prog.cellsOf 302=64:=by kernel_rfl
theorem u8_cells:Tryz.prog.cellsOf 5=1:=by kernel_rfl
theorem tab_of {W : World} (h : laidMetH Tryz.prog [("math/bits.deBruijn64tab", Rows.laid_math_bits_deBruijn64tab)] W) : Tab W := by
 have h1 : Lib.TabIs Tryz.prog W "math/bits.deBruijn64tab" .u8 (Lib.deBruijn64tab.map fun n : Nat => (n : Int)) := Lib.tabIs_of_head (rest := []) pA tab_typed Tryz.underlying302 Tryz.underlying5 u8_cells tab_cells h
 intro j hj
 rw [h1.cell pA j (by simpa using hj)]
 simp [List.getD_eq_getElem?_getD,List.getElem?_map,List.getElem?_eq_getElem hj]
noncomputable def gQ (os:Os):World:=
 { World.holding Tryz.prog os ⟨#[], #[],[]⟩ with heap:=(World.holding Tryz.prog os ⟨#[], #[],[]⟩).heap.modify 2 fun
  | .cells _ t frozen => .cells (Lib.deBruijn64tab.map fun z:Nat=>Value.int .u8 (z:Int)).toArray t frozen
  | o=>o }
end Go.Proofs.YtamdnbbgpacfkaaGreatDoor
namespace Go.Proofs.YtamdnbbgpacfkaaGreatDoor
open Go.ChangeShapes Go.WideShapes Go.ChangeAt Go.RowKit Go.ChangeMaps
section
variable {H:Type} {enc:TypeId × Value->H} {W:World} {sp:Nat->Bool}
theorem mL {n:Int} (h:(Lit.int .i64 n).wf=true) : -9223372036854775808<=n/\n<=9223372036854775807:=by
 simp [Lit.wf,IntKind.min,IntKind.max,IntKind.signed,IntKind.bits] at h
 omega
theorem qA:Tryz.prog.cellsOf 3=1:=by kernel_rfl
theorem dot_cells:Tryz.prog.cellsOf 24=3:=by kernel_rfl
theorem dot_fields:∃ f0 f1 f2:Field,Tryz.prog.underlying 24=some (.struct #[f0,f1,f2])/\f0.offset=0/\f1.offset=1/\f2.offset=2/\f0.type=3/\f1.type=3/\f2.type=3:=⟨_,_,_,Tryz.underlying24,rfl,rfl,rfl,rfl,rfl,rfl⟩
theorem open_dot {b0:Nat} {r:Reach} {v:Value} {d:DataW H} {p:List MemPlace} (hval:Value.okWide Tryz.prog W r b0 24 v) (h:DataW.Trod enc Tryz.prog W 0 sp true 24 v d p) :
 ∃ x y z:Int,v = .agg #[.int .i64 x,.int .i64 y,.int .i64 z]/\(-9223372036854775808<=x/\x<=9223372036854775807)/\(-9223372036854775808<=y/\y<=9223372036854775807)/\(-9223372036854775808<=z/\z<=9223372036854775807):=by
 obtain ⟨cs,rfl,hcs⟩:=okWide_struct Tryz.underlying24 hval
 rw [dot_cells] at hcs
 obtain ⟨n,hn⟩:=h
 obtain ⟨f0,f1,f2,he,o0,o1,o2,t0,t1,t2⟩:=dot_fields
 obtain ⟨xs,k',_,_,_,hxl,hf⟩:=DataW.trod_struct he hn
 obtain ⟨l0,rfl⟩:∃ l0:List Value,cs=l0.toArray:=⟨cs.toList,by simp⟩
 have hl0:l0.length=3:=by simpa using hcs
 match xs,hxl,l0,hl0 with
 | [y0,y1,y2],_,[v0,v1,v2],_=>
   have g0:=hf 0 f0 rfl
   have g1:=hf 1 f1 rfl
   have g2:=hf 2 f2 rfl
   simp [o0,o1,o2,t0,t1,t2,qA,Value.cells] at g0 g1 g2
   obtain ⟨x0,hx0,_,w0⟩:=DataW.trod_int Tryz.underlying3 g0
   obtain ⟨x1,hx1,_,w1⟩:=DataW.trod_int Tryz.underlying3 g1
   obtain ⟨x2,hx2,_,w2⟩:=DataW.trod_int Tryz.underlying3 g2
   simp at hx0 hx1 hx2
   subst hx0;subst hx1;subst hx2
   exact ⟨x0,x1,x2,rfl,mL w0,mL w1,mL w2⟩
theorem pt_cells:Tryz.prog.cellsOf 86=2:=by kernel_rfl
theorem pt_fields:∃ f0 f1:Field,Tryz.prog.underlying 86=some (.struct #[f0,f1])/\f0.offset=0/\f1.offset=1/\f0.type=3/\f1.type=3:=⟨_,_,Tryz.underlying86,rfl,rfl,rfl,rfl⟩
end
end Go.Proofs.YtamdnbbgpacfkaaGreatDoor
namespace Go.Proofs.YtamdnbbgpacfkaaGreatDoor
open Go.ChangeShapes Go.WideShapes Go.ChangeAt Go.RowKit Go.ChangeMaps Go.Deep
section
variable {H:Type} {enc:TypeId × Value->H} {W:World} {sp:Nat->Bool}
theorem cell_spot {w:World} {a:Addr} {v:Value} (h:w.cell? a=some v):a.spot=none:=by
 unfold World.cell? at h
 cases hs:a.spot with
 | none=>rfl
 | some x=>rw [hs] at h;revert h;cases w.heap[a.block]? with
   | none=>intro h;cases h
   | some o=>cases o<;>simp
end
section
variable {H:Type} {enc:TypeId × Value->H} {W:World} {sp:Nat->Bool}
theorem open_gs {a0:Option Addr} {len cap:Nat} {d:DataW H} {p:List MemPlace} (h:DataW.Trod enc Tryz.prog W 0 sp true 22 (.slice a0 len cap) d p) :
 ∃ l:List G2,GsV W.heap.size W (.slice a0 len cap) l /\ ∀ d ∈ l,iQ d:=by
 obtain ⟨n,hn⟩:=h
 rcases open_slice Tryz.underlying22 hn with ⟨hcs,_⟩ | ⟨a,ln,cp,m,k,D,Pl,hcs,_,hl,hm,hmm,_,hx⟩
 · simp [Value.cells] at hcs
   obtain ⟨rfl,rfl,rfl⟩:=hcs
   exact ⟨[],⟨none,0,0,rfl,rfl,Nat.le_refl _,.inl rfl⟩,fun d hd=>by cases hd⟩
 · simp [Value.cells] at hcs
   obtain ⟨rfl,rfl,rfl⟩:=hcs
   have hlm:len<=m:=by rw [hmm];split<;>omega
   obtain ⟨f0,f1,he,o0,o1,t0,t1⟩:=pt_fields
   have each:∀ i,i<len -> ∃ q:G2,W.cell? (a.add (i*2))=some (.int .i64 q.1)/\W.cell? (a.add (i*2+1))=some (.int .i64 q.2)/\iQ q:=fun i hi=>by
    obtain ⟨cs',h1,h2⟩:=hx i (by omega)
    rw [pt_cells] at h1
    obtain ⟨_,hlen,hcell⟩:=World.cells?_some h1
    obtain ⟨xs,k',_,_,_,hxl,hf⟩:=DataW.trod_struct he h2
    match xs,hxl,cs',hlen with
    | [y0,y1],_,[v0,v1],_=>
      have g0:=hf 0 f0 rfl
      have g1:=hf 1 f1 rfl
      simp [o0,o1,t0,t1,qA] at g0 g1
      have e0:=hcell 0 (by omega)
      have e1:=hcell 1 (by omega)
      rw [Go.Deep.add_add] at e0 e1
      obtain ⟨x0,hx0,_,w0⟩:=DataW.trod_int Tryz.underlying3 g0
      obtain ⟨x1,hx1,_,w1⟩:=DataW.trod_int Tryz.underlying3 g1
      simp at hx0 hx1
      subst hx0;subst hx1
      exact ⟨(x0,x1),by simpa using e0,by simpa using e1,mL w0,mL w1⟩
   obtain ⟨q,hq⟩:=choose_lt (α:=G2) each
   refine ⟨(List.range len).map q,⟨some a,len,cap,rfl,by simp,hl, ?_⟩,fun d hd=>?_⟩
   · by_cases h0:len=0
     · subst h0;exact .inl rfl
     · obtain ⟨c0,_⟩:=hq 0 (by omega)
       obtain ⟨b,off,spot⟩:=a
       have hs:=cell_spot c0
       have hs:spot=none:=by simpa [Addr.add] using hs
       subst hs
       refine .inr ⟨b,off,rfl, ?_,fun i hi=>?_⟩
       · rw [Addr.add_lit] at c0;exact cW c0
       · have hi:i<len:=by simpa using hi
         obtain ⟨c0,c1,_⟩:=hq i hi
         rw [Addr.add_lit] at c0 c1
         rw [Nat.mul_comm] at c0 c1
         simp only [List.getElem_map,List.getElem_range]
         exact ⟨c0,c1⟩
   · obtain ⟨i,hi,rfl⟩:=List.mem_map.1 hd
     exact (hq i (by simpa using hi)).2.2
end
end Go.Proofs.YtamdnbbgpacfkaaGreatDoor
