/- What the laws lean on, part 17. -/
import Derived.Below
import Derived.BigCall
import Derived.BigQuiet
import Derived.BigRegion
import Derived.Deep.AppendLies
import Derived.Deep.CutBlock
import Derived.Deep.CutRange
import Derived.Deep.DeepCutAuto
import Derived.Deep.LoopGhost
import Derived.Deep.MidRow
import Derived.Deep.QuietTactic
import Derived.Deep.RegionHeld3
import Derived.Deep.WholeRow
import Derived.Laws.AppendOwn
import Derived.Laws.CopyOwn
import Derived.Laws.Externs
import Derived.Laws.IdiomStrings
import Derived.Lib.BitFns
import Derived.Lib.Hide
import Derived.Lib.Slices
import Derived.Lib.Small
import Derived.Lib.Strings
import Derived.Lib.Walk
import Derived.LoopN
import Derived.OrdersHeld
import Derived.OrdersIn
import Derived.Outline
import Derived.OwnWalk
import Derived.RangeFuncCalls
import Derived.RangeFuncNested
import Derived.RangeFuncOwn
import Derived.Shelf.Bits.Mul64
import Derived.Shelf.Spec.TrailingZeros
import Derived.StillTailTactics
import Derived.WalkKit
import Derived.WalkLawsBesides
import Derived.WalkSpells
import Derived.Test.YtdgdmicbbfoghaaGreatDoorProg
import Derived.Test.YtdgdmicbbfoghaaGreatDoorMg16
set_option linter.unusedVariables false
set_option linter.unusedSimpArgs false
set_option maxRecDepth 100000
namespace Go.Proofs.YtdgdmicbbfoghaaGreatDoor
theorem O9 {f g:Sq} (hf:SCau f) (hg:SCau g) (h1 : 0<=rs f) (h2:rs g=1):rs (fun k=>f k+g k)=1:=by
 rw [rs_sum hf hg,h2];unfold sos
 rcases X4 f with h3 | h3 | h3<;>rw [h3]<;>simp<;>omega
theorem mA {f g:Sq} (hf:SCau f) (hg:SCau g) (h1:rs f=0) (h2:rs g=0):rs (fun k=>f k+g k)=0:=
 M7 ((M9 hf h1).add (M9 hg h2))
theorem uV {f g:Sq} (hf:SCau f) (hg:SCau g) (h1 : 0<=rs f) (h2 : 0<=rs g):rs (fun k=>f k-g k)=rs (fun k=>f k*f k-g k*g k):=by
 have e1:(fun k=>f k-g k)=(fun k=>f k + -g k):=by funext k;grind
 have hc:=hf.add hg.neg
 have hs:=hf.add hg
 have hm:=iA hc hs
 have e2:(fun k=>(f k + -g k)*(f k+g k))=(fun k=>f k*f k-g k*g k):=by funext k;grind
 rw [e2] at hm
 rw [e1,hm]
 by_cases h3:rs f=0
 · by_cases h4:rs g=0
   · rw [mA hf hg.neg h3 (by rw [uU hg,h4];rfl)];simp
   · have h5:rs g=1:=by rcases X4 g with h | h | h<;>omega
     rw [O9 hf hg (by omega) h5];simp
 · have h5:rs f=1:=by rcases X4 f with h | h | h<;>omega
   have e3:(fun k=>f k+g k)=(fun k=>g k+f k):=by funext k;grind
   rw [e3,O9 hg hf h2 h5];simp
noncomputable def prt (p:Int) (q:Nat):Sq:=fun k=>(p:Rat)*rt q k
theorem cP (p:Int) (q:Nat):SCau (prt p q):=(SCau.const _).mul (P6 q)
theorem prt_rs (p:Int) (q:Nat):rs (prt p q)=p.sign*(q:Int).sign:=by
 unfold prt
 rw [iA (SCau.const _) (P6 q),O8,fQ,rs_rt]
theorem prt_sq (p:Int) (q:Nat):SNull (fun k=>prt p q k*prt p q k-((p*p*q:Int):Rat)):=by
 have h:=(jF q).mul (SCau.const ((p:Rat)*p)).bd
 refine cast (congrArg SNull ?_) h
 funext k
 unfold prt
 simp only [Rat.intCast_mul,Rat.intCast_natCast]
 grind
theorem prt_less (p:Int) (q:Nat) (z:Int) (hp : 0<=p) (hz : 0<=z):rs (fun k=>prt p q k-(z:Rat))=(p*p*q-z*z).sign:=by
 have hs : 0<=rs (prt p q):=by
  rw [prt_rs]
  exact Int.mul_nonneg (Int.sign_nonneg_iff.2 hp) (Int.sign_nonneg_iff.2 (Int.natCast_nonneg q))
 rw [uV (cP p q) (SCau.const _) hs (by rw [O8,fQ];exact Int.sign_nonneg_iff.2 hz)]
 have e:(fun _:Nat=>((p*p*q-z*z:Int):Rat))=(fun _=>((p*p*q:Int):Rat)-((z*z:Int):Rat)):=by funext k;rw [Rat.intCast_sub]
 rw [<- fQ (p*p*q-z*z), <- O8,e]
 refine U8 (f:=fun _=>((p*p*q:Int):Rat)-((z*z:Int):Rat)) (by rw [<- e];exact SCau.const _) ?_
 refine cast (congrArg SNull ?_) (prt_sq p q).neg
 funext k
 simp only [Rat.intCast_mul]
 grind
noncomputable def blw (p:Int) (q:Nat):Int × Bool:=
 let s:=p.natAbs*p.natAbs*q
 let r:=T4 s
 let ex:=decide (r*r=s)
 (if 0<=p then (r:Int) else if ex=true then -(r:Int) else -((r:Int)+1),ex)
theorem nat_sq (p:Int) (q:Nat):((p.natAbs*p.natAbs*q:Nat):Int)=p*p*q:=by
 rw [Int.natCast_mul,Int.natCast_mul,Int.natAbs_mul_self' p]
theorem prt_neg (p:Int) (q:Nat):prt (-p) q=fun k => -prt p q k:=by
 funext k;unfold prt;rw [Rat.intCast_neg];grind
theorem blw_spec (p:Int) (q:Nat):((blw p q).2=true/\rs (fun k=>prt p q k-((blw p q).1:Rat))=0)\/((blw p q).2=false/\rs (fun k=>prt p q k-((blw p q).1:Rat))=1/\rs (fun k=>(((blw p q).1+1:Int):Rat)-prt p q k)=1):=by
 have hr:=dY (p.natAbs*p.natAbs*q)
 have hl:=pM (p.natAbs*p.natAbs*q)
 unfold blw
 simp only
 have hs:=nat_sq p q
 generalize p.natAbs*p.natAbs*q=s at *
 generalize T4 s=r at *
 have key:∀ P:Int,0<=P->P*P*q=(s:Int)->(r*r=s->rs (fun k=>prt P q k-((r:Int):Rat))=0)/\(r*r≠s->rs (fun k=>prt P q k-((r:Int):Rat))=1)/\rs (fun k=>prt P q k-(((r:Int)+1:Int):Rat)) = -1:=by
  intro P hP hPs
  rw [prt_less P q r hP (by omega),prt_less P q ((r:Int)+1) hP (by omega),hPs]
  have a1:((r*r:Nat):Int)=(r:Int)*r:=Int.natCast_mul r r
  have a2:(((r+1)*(r+1):Nat):Int)=((r:Int)+1)*((r:Int)+1):=by rw [Int.natCast_mul];rfl
  refine ⟨fun h=>?_,fun h=>?_, ?_⟩
  · rw [Int.sign_eq_zero_iff_zero];omega
  · exact Int.sign_eq_one_of_pos (by omega)
  · exact Int.sign_eq_neg_one_of_neg (by omega)
 have ng:∀ (f:Sq),SCau f -> ∀ z:Int,rs (fun k => -f k-((-z:Int):Rat)) = -rs (fun k=>f k-(z:Rat)):=by
  intro f hf z
  have hc:SCau (fun k=>f k-(z:Rat)):=by
   refine cast (congrArg SCau ?_) (hf.add (SCau.const (-(z:Rat))))
   funext k;grind
  rw [<- uU hc]
  congr 1
  funext k;rw [Rat.intCast_neg];grind
 have ng2:∀ (f:Sq),SCau f -> ∀ z:Int,rs (fun k=>(z:Rat)-f k) = -rs (fun k=>f k-(z:Rat)):=by
  intro f hf z
  have hc:SCau (fun k=>f k-(z:Rat)):=by
   refine cast (congrArg SCau ?_) (hf.add (SCau.const (-(z:Rat))))
   funext k;grind
  rw [<- uU hc]
  congr 1
  funext k;grind
 by_cases hp : 0<=p
 · obtain ⟨k1,k2,k3⟩:=key p hp hs.symm
   simp only [if_pos hp]
   by_cases he:r*r=s
   · exact Or.inl ⟨decide_eq_true he,k1 he⟩
   · refine Or.inr ⟨decide_eq_false he,k2 he, ?_⟩
     rw [ng2 _ (cP p q),k3];rfl
 · obtain ⟨k1,k2,k3⟩:=key (-p) (by omega) (by rw [Int.neg_mul_neg];exact hs.symm)
   simp only [if_neg hp]
   have hn:prt p q=fun k => -prt (-p) q k:=by rw [prt_neg];funext k;grind
   by_cases he:r*r=s
   · refine Or.inl ⟨decide_eq_true he, ?_⟩
     rw [if_pos (decide_eq_true he),hn,ng _ (cP (-p) q),k1 he];rfl
   · refine Or.inr ⟨decide_eq_false he, ?_, ?_⟩
     · rw [if_neg (by simpa using he),hn,ng _ (cP (-p) q),k3];rfl
     · rw [if_neg (by simpa using he),show -((r:Int)+1)+1 = -(r:Int) by omega,ng2 _ (cP p q),hn,ng _ (cP (-p) q),k2 he];rfl
theorem Q5 {f:Sq} (hf:SCau f) (z:Rat):SCau (fun k=>f k-z):=by
 refine cast (congrArg SCau ?_) (hf.add (SCau.const (-z)))
 funext k;grind
theorem U7 {f:Sq} (hf:SCau f) (z:Rat):SCau (fun k=>z-f k):=by
 refine cast (congrArg SCau ?_) (hf.neg.add (SCau.const z))
 funext k;grind
theorem rt_mul (m n:Nat):SNull (fun k=>rt m k*rt n k-rt (m*n) k):=by
 have hm:=P6 m
 have hn:=P6 n
 have hc:=hm.mul hn
 have hp:=P6 (m*n)
 have e:(fun k=>rt m k*rt n k-rt (m*n) k)=(fun k=>rt m k*rt n k + -rt (m*n) k):=by funext k;grind
 have hd:SCau (fun k=>rt m k*rt n k-rt (m*n) k):=by rw [e];exact hc.add hp.neg
 refine M9 hd ?_
 have s1:∀ x:Nat,0<=rs (rt x):=fun x=>by rw [rs_rt];exact Int.sign_nonneg_iff.2 (Int.natCast_nonneg x)
 rw [uV hc hp (by rw [iA hm hn];exact Int.mul_nonneg (s1 m) (s1 n)) (s1 _)]
 refine M7 ?_
 have h1:=(jF m).mul (hn.mul hn).bd
 have h2:=(jF n).mul (SCau.const (m:Rat)).bd
 have h3:=(jF (m*n)).neg
 refine cast (congrArg SNull ?_) ((h1.add h2).add h3)
 funext k
 rw [Rat.natCast_mul]
 grind
theorem rt_one:SNull (fun k=>rt 1 k-1):=by
 have hd:SCau (fun k=>rt 1 k-1):=Q5 (P6 1) 1
 refine M9 hd ?_
 rw [uV (P6 1) (SCau.const 1) (by rw [rs_rt];decide) (by rw [O8];decide)]
 refine M7 (cast (congrArg SNull ?_) (jF 1))
 funext k
 have:((1:Nat):Rat)=1:=rfl
 rw [this];grind
theorem sval_four (m n:Nat) (a b c d:Int):SNull (fun k=>X9 m n a b c d k-(((prt a 1 k+prt b m k)+prt c n k)+prt d (m*n) k)):=by
 have h1:=(rt_one.mul (SCau.const (a:Rat)).bd).neg
 have h2:=(rt_mul m n).mul (SCau.const (d:Rat)).bd
 refine cast (congrArg SNull ?_) (h1.add h2)
 funext k
 unfold X9 prt
 grind
noncomputable def cM (m n:Nat) (a b c d:Int):Int:=(((blw a 1).1+(blw b m).1)+(blw c n).1)+(blw d (m*n)).1
noncomputable def opn (p:Int) (q:Nat):Int:=if (blw p q).2=true then 0 else 1
noncomputable def bE (m n:Nat) (a b c d:Int):Int:=((opn a 1+opn b m)+opn c n)+opn d (m*n)
theorem cR (p:Int) (q:Nat):opn p q=0\/opn p q=1:=by unfold opn;split<;>simp
def Within (f:Sq) (lo op:Int):Prop:=SCau f/\0<=op/\(op=0->rs (fun k=>f k-(lo:Rat))=0)/\(0<op->rs (fun k=>f k-(lo:Rat))=1/\rs (fun k=>((lo+op:Int):Rat)-f k)=1)
theorem cJ (p:Int) (q:Nat):Within (prt p q) (blw p q).1 (opn p q):=by
 refine ⟨cP p q,by rcases cR p q with h | h<;>omega,fun h=>?_,fun h=>?_⟩
 · rcases blw_spec p q with ⟨h1,h2⟩ | ⟨h1,h2,h3⟩
   · exact h2
   · unfold opn at h;rw [h1] at h;simp at h
 · rcases blw_spec p q with ⟨h1,h2⟩ | ⟨h1,h2,h3⟩
   · unfold opn at h;rw [h1] at h;simp at h
   · have:opn p q=1:=by unfold opn;rw [h1];simp
     rw [this];exact ⟨h2,h3⟩
theorem Within.add {f g:Sq} {lo op lo' op':Int} (h:Within f lo op) (h':Within g lo' op'):Within (fun k=>f k+g k) (lo+lo') (op+op'):=by
 obtain ⟨cf,o1,z1,p1⟩:=h
 obtain ⟨cg,o2,z2,p2⟩:=h'
 have e1:(fun k=>f k+g k-((lo+lo':Int):Rat))=(fun k=>(f k-(lo:Rat))+(g k-(lo':Rat))):=by funext k;rw [Rat.intCast_add];grind
 have e1':(fun k=>f k+g k-((lo+lo':Int):Rat))=(fun k=>(g k-(lo':Rat))+(f k-(lo:Rat))):=by funext k;rw [Rat.intCast_add];grind
 have e2:(fun k=>((lo+lo'+(op+op'):Int):Rat)-(f k+g k))=(fun k=>(((lo+op:Int):Rat)-f k)+(((lo'+op':Int):Rat)-g k)):=by funext k;simp only [Rat.intCast_add];grind
 have e2':(fun k=>((lo+lo'+(op+op'):Int):Rat)-(f k+g k))=(fun k=>(((lo'+op':Int):Rat)-g k)+(((lo+op:Int):Rat)-f k)):=by funext k;simp only [Rat.intCast_add];grind
 have zz:∀ {h:Sq} {l:Int},SCau h->rs (fun k=>h k-(l:Rat))=0->rs (fun k=>(l:Rat)-h k)=0:=by
  intro h l hc hz
  have:=(M9 (Q5 hc _) hz).neg
  refine M7 (cast (congrArg SNull ?_) this)
  funext k;grind
 refine ⟨cf.add cg,by omega,fun h=>?_,fun h=>?_⟩
 · rw [e1];exact mA (Q5 cf _) (Q5 cg _) (z1 (by omega)) (z2 (by omega))
 · by_cases h1:op=0
   · have hz:=z1 h1
     have hp:=p2 (by omega)
     have hz':=zz cf hz
     rw [e1,e2,h1,Int.add_zero]
     exact ⟨O9 (Q5 cf _) (Q5 cg _) (by omega) hp.1,O9 (U7 cf _) (U7 cg _) (by omega) hp.2⟩
   · have hp:=p1 (by omega)
     by_cases h2:op'=0
     · have hz:=z2 h2
       have hz':=zz cg hz
       rw [e1',e2',h2,Int.add_zero]
       exact ⟨O9 (Q5 cg _) (Q5 cf _) (by omega) hp.1,O9 (U7 cg _) (U7 cf _) (by omega) hp.2⟩
     · have hq:=p2 (by omega)
       rw [e1,e2]
       exact ⟨O9 (Q5 cf _) (Q5 cg _) (by omega) hq.1,O9 (U7 cf _) (U7 cg _) (by omega) hq.2⟩
theorem lS (m n:Nat) (a b c d:Int):Within (X9 m n a b c d) (cM m n a b c d) (bE m n a b c d):=by
 have h:=(((cJ a 1).add (cJ b m)).add (cJ c n)).add (cJ d (m*n))
 obtain ⟨c0,o,z,p⟩:=h
 have hn:=sval_four m n a b c d
 have hn':=hn.neg
 have q1:∀ z:Rat,rs (fun k=>X9 m n a b c d k-z)=rs (fun k=>(((prt a 1 k+prt b m k)+prt c n k)+prt d (m*n) k)-z):=by
  intro z
  refine U8 (Q5 c0 z) (cast (congrArg SNull ?_) hn')
  funext k;grind
 have q2:∀ z:Rat,rs (fun k=>z-X9 m n a b c d k)=rs (fun k=>z-(((prt a 1 k+prt b m k)+prt c n k)+prt d (m*n) k)):=by
  intro z
  refine U8 (U7 c0 z) (cast (congrArg SNull ?_) hn)
  funext k;grind
 refine ⟨dN m n a b c d,o,fun h=>?_,fun h=>?_⟩
 · rw [q1];exact z h
 · rw [q1,q2];exact p h
noncomputable def U9 (m n:Nat) (a b c d:Int):Int:=if 1<bE m n a b c d then cM m n a b c d+(bE m n a b c d-1) else cM m n a b c d
theorem sg4_low (m n:Nat) (a b c d:Int) {z:Int} (h:z<=cM m n a b c d) : 0<=sg4 m n (a-z) b c d:=by
 obtain ⟨c0,o,z0,p⟩:=lS m n a b c d
 have h1 : 0<=sg4 m n ((a:Rat)-(cM m n a b c d:Int)) b c d:=by
  have e:X9 m n ((a:Rat)-(cM m n a b c d:Int)) b c d=fun k=>X9 m n a b c d k-((cM m n a b c d:Int):Rat):=by funext k;unfold X9;grind
  unfold sg4;rw [e]
  by_cases h0:bE m n a b c d=0
  · rw [z0 h0];exact Int.le_refl _
  · rw [(p (by omega)).1];decide
 have h2:=Rat.intCast_le_intCast.2 h
 exact Int.le_trans h1 (jB m n b c d (by grind))
theorem sg4_high (m n:Nat) (a b c d:Int) {z:Int} (h:U9 m n a b c d<z):sg4 m n (a-z) b c d = -1:=by
 obtain ⟨c0,o,z0,p⟩:=lS m n a b c d
 have e:∀ z:Int,X9 m n ((a:Rat)-(z:Rat)) b c d=fun k => -(((z:Int):Rat)-X9 m n a b c d k):=by intro z;funext k;unfold X9;grind
 have top:∀ z:Int,rs (fun k=>(z:Rat)-X9 m n a b c d k)=1->sg4 m n ((a:Rat)-(z:Rat)) b c d = -1:=by
  intro z hz
  unfold sg4;rw [e,uU (U7 c0 _),hz]
 have fin:∀ y:Int,y<=z->sg4 m n ((a:Rat)-(y:Rat)) b c d = -1->sg4 m n (a-z) b c d = -1:=by
  intro y hy h1
  have h2:=Rat.intCast_le_intCast.2 hy
  have h3:=jB m n b c d (show (a:Rat)-(z:Rat)<=(a:Rat)-(y:Rat) by grind)
  rcases sg4_tri m n ((a:Rat)-(z:Rat)) b c d with h4 | h4 | h4<;>omega
 by_cases h0:bE m n a b c d=0
 · refine fin (cM m n a b c d+1) (by unfold U9 at h;rw [h0] at h;simp at h;exact h) (top _ ?_)
   have h1:=(M9 (Q5 c0 _) (z0 h0)).neg
   have h2:SPos (fun _=>(1:Rat)):=⟨1,by decide,0,fun _ _=>Rat.le_refl⟩
   refine M6 (h2.congr ?_)
   refine cast (congrArg SNull ?_) h1.neg
   funext k
   rw [Rat.intCast_add]
   have:((1:Int):Rat)=1:=rfl
   rw [this];grind
 · refine fin (cM m n a b c d+bE m n a b c d) ?_ (top _ (p (by omega)).2)
   unfold U9 at h
   split at h<;>omega
end Go.Proofs.YtdgdmicbbfoghaaGreatDoor
namespace Go.Proofs.YtdgdmicbbfoghaaGreatDoor
open Go.RowKit Mat Ex
theorem root_uniq {a r:Nat} (h:IsRoot a r):r=T4 a:=by
 have h1:=dY a
 have h2:=pM a
 obtain ⟨h3,h4⟩:=h
 have k1:r<T4 a+1:=Nat.mul_self_lt_mul_self_iff.1 (Nat.lt_of_le_of_lt h3 h2)
 have k2:T4 a<r+1:=Nat.mul_self_lt_mul_self_iff.1 (Nat.lt_of_le_of_lt h1 h4)
 omega
theorem gI (w:World) (va:Value) (a K:Nat) (ha:NatV w va a) (la:a<B^K) (hK1 : 1<=K) (hK:K<=536870912) :
 Calls Tryz.prog 37 #[va] w (wE w (T4 a) (a-T4 a*T4 a)):=by
 have h:Calls Tryz.prog 37 #[va] w (gJ w a):=by
  by_cases h0:a=0
  · subst h0;exact Root_zero w va ha
  · exact Root_some w va a K ha (by omega) la hK1 hK
 refine h.mono ?_
 rintro e w' ⟨r,hr,h2⟩
 rw [<- root_uniq hr];exact h2
theorem vF (z:Nat):((nb z:Int) == 0)=decide (z=0):=by
 by_cases h:z=0
 · subst h;rw [nb_zero];rfl
 · have:=(bI (show 0<z by omega)).2.2
   rw [decide_eq_false h,beq_eq_false_iff_ne];omega
theorem mG {r K:Nat} (h:r<B^K):((r:Int)+1).natAbs<B^(K+1):=by
 have h1:((r:Int)+1).natAbs=r+1:=by omega
 have h2:B^(K+1)=B^K*B:=Nat.pow_succ ..
 have h3:B^K*2<=B^K*B:=Nat.mul_le_mul_left _ (by unfold B;decide)
 omega
def RetBelow (w:World) (z:Int) (b:Bool) (e:Ending) (w':World):Prop:=∃ v,e = .returned (.tuple #[v,.bool b])/\IntV w' v z/\w.grownBy w' none
theorem vY (p:Int) (q K:Nat) (lp:p.natAbs<B^K) (lq:q<B^K):(blw p q).1.natAbs<B^(K+K+K+1):=by
 have h1:=dY (p.natAbs*p.natAbs*q)
 have h2:p.natAbs*p.natAbs*q<B^(K+K+K):=by
  rw [Nat.pow_add,Nat.pow_add]
  exact Nat.mul_lt_mul'' (Nat.mul_lt_mul'' lp lp) lq
 have h3:T4 (p.natAbs*p.natAbs*q)<B^(K+K+K):=Nat.lt_of_le_of_lt (Nat.le_trans (Nat.le_mul_self _) h1) h2
 have h4:=mG h3
 have h5:T4 (p.natAbs*p.natAbs*q)<B^(K+K+K+1):=by omega
 unfold blw
 dsimp only
 split
 · rw [Int.natAbs_natCast];exact h5
 · split
   · rw [Int.natAbs_neg,Int.natAbs_natCast];exact h5
   · rw [Int.natAbs_neg];exact h4
def uA (w:World) (x y:Int) (e:Ending) (w':World):Prop:=∃ v u,e = .returned (.tuple #[v,u])/\IntV w' v x/\IntV w' u y/\w.grownBy w' none
theorem nY {x:Int} (h0 : -9223372036854775808<=x) (h1:x<=9223372036854775807):IntKind.i64.wrap x=x:=by
 rw [IntKind.wrap_i64];omega
def sBl (z:Int) (b:Bool):Sp := .of (.tup [(none,3),(none,0)]) (fun v W=>∃ u,v = .tuple #[u,.bool b]/\IntV W u z) (fun v W h=>by
 obtain ⟨u,rfl,s0,x0,b0,rfl,_⟩:=h
 exact X6 (u := .bool true) (cs:=[.slice s0 x0.length x0.length,.bool b0,.bool b]) (by simp [Value.oneCell']) rfl) (fun v W W' k h=>by obtain ⟨u,e,h⟩:=h;exact ⟨u,e,h.keeps k⟩)
theorem bl1 {z:Int} {b:Bool} {a c:Value} {W:World} : (sBl z b).F (.tuple #[a,c]) W->IntV W a z:=by rintro ⟨u,e,h⟩;cases e;exact h
theorem bl2 {z:Int} {b:Bool} {a c:Value} {W:World} : (sBl z b).F (.tuple #[a,c]) W->c = .bool b:=by rintro ⟨u,e,h⟩;cases e;rfl
theorem toBl {P:Program} {f:FuncId} {args:Array Value} {W:World} {z:Int} {b:Bool} (h:Calls P f args W (RetBelow W z b)):Calls P f args W (Ret W (sBl z b).F):=h.mono fun _ _ ⟨v,a,h,g⟩=>⟨_,a,⟨v,rfl,h⟩,g⟩
theorem toNN {P:Program} {f:FuncId} {args:Array Value} {W:World} {n m:Nat} (h:Calls P f args W (wE W n m)):Calls P f args W (Ret W (sNN n m).F):=h.mono fun _ _ ⟨v,u,a,h,h',g⟩=>⟨_,a,⟨v,u,rfl,h,h'⟩,g⟩
theorem jM {P:Program} {ρ : Operand->Value} {o:Oper} {t:TypeId} {x:Operand} {b:Bool} {W:World} (ho:o.op = .unOp .not t x) (hx : ρ x = .bool b) :
 (execOp ρ o).run P W = .ok (.value (.bool (!b))) W:=by simp only [execOp,ho,hx];rfl
theorem C6 {ρ : Operand->Value} {x:Operand} {u:Value} (h:[x].map ρ=[u]) : ρ x=u:=by simpa using h
theorem nH (p:Int):decide (0<=p.sign)=decide (0<=p):=by
 rcases Int.lt_trichotomy p 0 with h | h | h
 · rw [Int.sign_eq_neg_one_of_neg h,decide_eq_false (by omega),decide_eq_false (by omega)]
 · rw [h];rfl
 · rw [Int.sign_eq_one_of_pos h,decide_eq_true (by omega),decide_eq_true (by omega)]
theorem dA (w:World) (va vb:Value) (p:Int) (q:Nat) (K:Nat) (Ha:IntV w va p) (Hb:IntV w vb (q:Int)) (hK : 1<=K/\K<=100000) (lp:p.natAbs<B^K) (lq:q<B^K) :
 Calls Tryz.prog 133 #[va,vb] w (RetBelow w (blw p q).1 (blw p q).2):=by
 obtain ⟨s,hs⟩:∃ s,p.natAbs*p.natAbs*q=s:=⟨_,rfl⟩
 have hs':(p*p*(q:Int)).natAbs=s:=by rw [Int.natAbs_mul,Int.natAbs_mul,Int.natAbs_natCast];exact hs
 have ls:s<B^(K+K+K):=by rw [<- hs,Nat.pow_add,Nat.pow_add];exact Nat.mul_lt_mul'' (Nat.mul_lt_mul'' lp lp) lq
 obtain ⟨r,hr⟩:∃ r,T4 s=r:=⟨_,rfl⟩
 have h1:r*r<=s:=hr ▸ dY s
 have lr:r<B^(K+K+K):=Nat.lt_of_le_of_lt (Nat.le_trans (Nat.le_mul_self _) h1) ls
 obtain ⟨z,hz⟩:∃ z,s-r*r=z:=⟨_,rfl⟩
 have hx:(blw p q).2=decide (z=0):=by
  unfold blw;dsimp only;rw [hs,hr]
  exact decide_eq_decide.2 ⟨fun h2=>by omega,fun h2=>by omega⟩
 have hy:(blw p q).1=if 0<=p then (r:Int) else if decide (z=0)=true then -(r:Int) else -((r:Int)+1):=by
  rw [<- hx];unfold blw;dsimp only;rw [hs];cases hr;rfl
 have lz:z<B^(K+K+K):=by omega
 rw [hx,hy]
 rcases (show (0<=p/\z=0)\/(0<=p /\ ¬ z=0)\/(¬ 0<=p/\z=0)\/(¬ 0<=p /\ ¬ z=0) by omega) with ⟨hp,he⟩ | ⟨hp,he⟩ | ⟨hp,he⟩ | ⟨hp,he⟩
 · skip
   have hp0:decide (0<=p)=true:=decide_eq_true hp
   have hex:decide (z=0)=true:=decide_eq_true he
   rw [if_pos hp,hex]
   refine A6 B5 Tryz.func133 [sI p,sI (q:Int)] [sI (p*p),sI (p*p*(q:Int)),sN s,sNN r z,sZ (nb z),sV (.bool true),sI (r:Int),sZ p.sign,sV (.bool true)] (.cons Ha (.cons Hb .nil)) (rs:=[cl 2 38 [ag 2 0,ag 2 0],cl 3 38 [ag 2 2,ag 2 1],cl 4 36 [ag 2 3],cl 5 37 [ag 1 4],cl 6 104 [.v true [.an 5 1]],co 7 (.binOp .eql 3 (.tmp 21) (.const (.int .i64 0)) 3) 4 [on 6,.v false [.lit (.int .i64 0)]] [0,1,2,3,4,5,6] [],cl 8 40 [ag 1 5],cl 9 46 [ag 2 0],co 10 (.binOp .geq 3 (.tmp 26) (.const (.int .i64 0)) 3) 4 [on 9,.v false [.lit (.int .i64 0)]] [0,1,2,3,4,5,6,7,8,9] []]) (out := .tup [(true,[.an 8 0,.an 8 1]),(false,[.lit (.bool true)])]) (nc:=11) (by kernel_rfl)
    ⟨fun σ W g h hb=>F2 W _ _ p p K (h 0 rfl) (h 0 rfl) (by omega) lp lp,
    fun σ W g h hb=>F2 W _ _ (p*p) (q:Int) (K+K) (h 2 rfl) (h 1 rfl) (by omega) (G3 lp lp) (D2 (ldi lq) (by omega)),
    fun σ W g h hb=>hs' ▸ gP W _ _ (K+K+K) (h 3 rfl) (by omega) (hs'.symm ▸ ls),
    fun σ W g h hb=>toNN (hz ▸ hr ▸ gI W _ s (K+K+K) (h 4 rfl) ls (by omega) (by omega)),
    fun σ W g h hb=>(L9 W _ z (K+K+K) (nn2 (h 5 rfl)) (by omega) lz).mono fun _ _ ⟨a,g⟩=>⟨_,a,rfl,g⟩,
    fun σ W g h hb=>fun ρ o ho _ hv=>⟨_,A5 ho ((A0 hv).1.trans (h 6 rfl)) (A0 hv).2 rfl,congrArg Value.bool ((vF z).trans hex)⟩,
    fun σ W g h hb=>gN W _ r (K+K+K) (nn1 (h 5 rfl)) (by omega) lr,
    fun σ W g h hb=>(D5 W _ p K (h 0 rfl) (by omega) lp).mono fun _ _ ⟨a,g⟩=>⟨_,a,rfl,g⟩,
    fun σ W g h hb=>fun ρ o ho _ hv=>⟨_,A5 ho ((A0 hv).1.trans (h 9 rfl)) (A0 hv).2 rfl,congrArg Value.bool ((nH p).trans hp0)⟩,
    trivial⟩ fun τ W g h=>⟨_,rfl,h 8 rfl,g⟩
 · skip
   have hp0:decide (0<=p)=true:=decide_eq_true hp
   have hex:decide (z=0)=false:=decide_eq_false he
   rw [if_pos hp,hex]
   refine A6 B5 Tryz.func133 [sI p,sI (q:Int)] [sI (p*p),sI (p*p*(q:Int)),sN s,sNN r z,sZ (nb z),sV (.bool false),sI (r:Int),sZ p.sign,sV (.bool true)] (.cons Ha (.cons Hb .nil)) (rs:=[cl 2 38 [ag 2 0,ag 2 0],cl 3 38 [ag 2 2,ag 2 1],cl 4 36 [ag 2 3],cl 5 37 [ag 1 4],cl 6 104 [.v true [.an 5 1]],co 7 (.binOp .eql 3 (.tmp 21) (.const (.int .i64 0)) 3) 4 [on 6,.v false [.lit (.int .i64 0)]] [0,1,2,3,4,5,6] [],cl 8 40 [ag 1 5],cl 9 46 [ag 2 0],co 10 (.binOp .geq 3 (.tmp 26) (.const (.int .i64 0)) 3) 4 [on 9,.v false [.lit (.int .i64 0)]] [0,1,2,3,4,5,6,7,8,9] []]) (out := .tup [(true,[.an 8 0,.an 8 1]),(false,[.lit (.bool false)])]) (nc:=11) (by kernel_rfl)
    ⟨fun σ W g h hb=>F2 W _ _ p p K (h 0 rfl) (h 0 rfl) (by omega) lp lp,
    fun σ W g h hb=>F2 W _ _ (p*p) (q:Int) (K+K) (h 2 rfl) (h 1 rfl) (by omega) (G3 lp lp) (D2 (ldi lq) (by omega)),
    fun σ W g h hb=>hs' ▸ gP W _ _ (K+K+K) (h 3 rfl) (by omega) (hs'.symm ▸ ls),
    fun σ W g h hb=>toNN (hz ▸ hr ▸ gI W _ s (K+K+K) (h 4 rfl) ls (by omega) (by omega)),
    fun σ W g h hb=>(L9 W _ z (K+K+K) (nn2 (h 5 rfl)) (by omega) lz).mono fun _ _ ⟨a,g⟩=>⟨_,a,rfl,g⟩,
    fun σ W g h hb=>fun ρ o ho _ hv=>⟨_,A5 ho ((A0 hv).1.trans (h 6 rfl)) (A0 hv).2 rfl,congrArg Value.bool ((vF z).trans hex)⟩,
    fun σ W g h hb=>gN W _ r (K+K+K) (nn1 (h 5 rfl)) (by omega) lr,
    fun σ W g h hb=>(D5 W _ p K (h 0 rfl) (by omega) lp).mono fun _ _ ⟨a,g⟩=>⟨_,a,rfl,g⟩,
    fun σ W g h hb=>fun ρ o ho _ hv=>⟨_,A5 ho ((A0 hv).1.trans (h 9 rfl)) (A0 hv).2 rfl,congrArg Value.bool ((nH p).trans hp0)⟩,
    trivial⟩ fun τ W g h=>⟨_,rfl,h 8 rfl,g⟩
 · skip
   have hp0:decide (0<=p)=false:=decide_eq_false hp
   have hex:decide (z=0)=true:=decide_eq_true he
   rw [if_neg hp,hex]
   rw [if_pos rfl]
   refine A6 B5 Tryz.func133 [sI p,sI (q:Int)] [sI (p*p),sI (p*p*(q:Int)),sN s,sNN r z,sZ (nb z),sV (.bool true),sI (r:Int),sZ p.sign,sV (.bool false),sI (-(r:Int))] (.cons Ha (.cons Hb .nil)) (rs:=[cl 2 38 [ag 2 0,ag 2 0],cl 3 38 [ag 2 2,ag 2 1],cl 4 36 [ag 2 3],cl 5 37 [ag 1 4],cl 6 104 [.v true [.an 5 1]],co 7 (.binOp .eql 3 (.tmp 21) (.const (.int .i64 0)) 3) 4 [on 6,.v false [.lit (.int .i64 0)]] [0,1,2,3,4,5,6] [],cl 8 40 [ag 1 5],cl 9 46 [ag 2 0],co 10 (.binOp .geq 3 (.tmp 26) (.const (.int .i64 0)) 3) 4 [on 9,.v false [.lit (.int .i64 0)]] [0,1,2,3,4,5,6,7,8,9] [],cl 11 81 [ag 2 8]]) (out := .tup [(true,[.an 11 0,.an 11 1]),(false,[.lit (.bool true)])]) (nc:=12) (by kernel_rfl)
    ⟨fun σ W g h hb=>F2 W _ _ p p K (h 0 rfl) (h 0 rfl) (by omega) lp lp,
    fun σ W g h hb=>F2 W _ _ (p*p) (q:Int) (K+K) (h 2 rfl) (h 1 rfl) (by omega) (G3 lp lp) (D2 (ldi lq) (by omega)),
    fun σ W g h hb=>hs' ▸ gP W _ _ (K+K+K) (h 3 rfl) (by omega) (hs'.symm ▸ ls),
    fun σ W g h hb=>toNN (hz ▸ hr ▸ gI W _ s (K+K+K) (h 4 rfl) ls (by omega) (by omega)),
    fun σ W g h hb=>(L9 W _ z (K+K+K) (nn2 (h 5 rfl)) (by omega) lz).mono fun _ _ ⟨a,g⟩=>⟨_,a,rfl,g⟩,
    fun σ W g h hb=>fun ρ o ho _ hv=>⟨_,A5 ho ((A0 hv).1.trans (h 6 rfl)) (A0 hv).2 rfl,congrArg Value.bool ((vF z).trans hex)⟩,
    fun σ W g h hb=>gN W _ r (K+K+K) (nn1 (h 5 rfl)) (by omega) lr,
    fun σ W g h hb=>(D5 W _ p K (h 0 rfl) (by omega) lp).mono fun _ _ ⟨a,g⟩=>⟨_,a,rfl,g⟩,
    fun σ W g h hb=>fun ρ o ho _ hv=>⟨_,A5 ho ((A0 hv).1.trans (h 9 rfl)) (A0 hv).2 rfl,congrArg Value.bool ((nH p).trans hp0)⟩,
    fun σ W g h hb=>X1 W _ _ (K+K+K) (h 8 rfl) (by omega) (by rw [Int.natAbs_natCast];exact lr),
    trivial⟩ fun τ W g h=>⟨_,rfl,h 11 rfl,g⟩
 · skip
   have hp0:decide (0<=p)=false:=decide_eq_false hp
   have hex:decide (z=0)=false:=decide_eq_false he
   rw [if_neg hp,hex]
   rw [if_neg (by simp)]
   refine A6 B5 Tryz.func133 [sI p,sI (q:Int)] [sI (p*p),sI (p*p*(q:Int)),sN s,sNN r z,sZ (nb z),sV (.bool false),sI (r:Int),sZ p.sign,sV (.bool false),sI 1,sI ((r:Int)+1),sI (-((r:Int)+1))] (.cons Ha (.cons Hb .nil)) (rs:=[cl 2 38 [ag 2 0,ag 2 0],cl 3 38 [ag 2 2,ag 2 1],cl 4 36 [ag 2 3],cl 5 37 [ag 1 4],cl 6 104 [.v true [.an 5 1]],co 7 (.binOp .eql 3 (.tmp 21) (.const (.int .i64 0)) 3) 4 [on 6,.v false [.lit (.int .i64 0)]] [0,1,2,3,4,5,6] [],cl 8 40 [ag 1 5],cl 9 46 [ag 2 0],co 10 (.binOp .geq 3 (.tmp 26) (.const (.int .i64 0)) 3) 4 [on 9,.v false [.lit (.int .i64 0)]] [0,1,2,3,4,5,6,7,8,9] [],cl 11 10 [.v false [.lit (.int .i64 1)]],cl 12 45 [ag 2 8,ag 2 11],cl 13 81 [ag 2 12]]) (out := .tup [(true,[.an 13 0,.an 13 1]),(false,[.lit (.bool false)])]) (nc:=14) (by kernel_rfl)
    ⟨fun σ W g h hb=>F2 W _ _ p p K (h 0 rfl) (h 0 rfl) (by omega) lp lp,
    fun σ W g h hb=>F2 W _ _ (p*p) (q:Int) (K+K) (h 2 rfl) (h 1 rfl) (by omega) (G3 lp lp) (D2 (ldi lq) (by omega)),
    fun σ W g h hb=>hs' ▸ gP W _ _ (K+K+K) (h 3 rfl) (by omega) (hs'.symm ▸ ls),
    fun σ W g h hb=>toNN (hz ▸ hr ▸ gI W _ s (K+K+K) (h 4 rfl) ls (by omega) (by omega)),
    fun σ W g h hb=>(L9 W _ z (K+K+K) (nn2 (h 5 rfl)) (by omega) lz).mono fun _ _ ⟨a,g⟩=>⟨_,a,rfl,g⟩,
    fun σ W g h hb=>fun ρ o ho _ hv=>⟨_,A5 ho ((A0 hv).1.trans (h 6 rfl)) (A0 hv).2 rfl,congrArg Value.bool ((vF z).trans hex)⟩,
    fun σ W g h hb=>gN W _ r (K+K+K) (nn1 (h 5 rfl)) (by omega) lr,
    fun σ W g h hb=>(D5 W _ p K (h 0 rfl) (by omega) lp).mono fun _ _ ⟨a,g⟩=>⟨_,a,rfl,g⟩,
    fun σ W g h hb=>fun ρ o ho _ hv=>⟨_,A5 ho ((A0 hv).1.trans (h 9 rfl)) (A0 hv).2 rfl,congrArg Value.bool ((nH p).trans hp0)⟩,
    fun σ W g h hb=>B8 W 1 (by omega) (by omega),
    fun σ W g h hb=>F6 W _ _ (r:Int) 1 (K+K+K) (h 8 rfl) (h 11 rfl) (by omega) (ldi lr) (bH _ (by omega)),
    fun σ W g h hb=>X1 W _ _ (K+K+K+1) (h 12 rfl) (by omega) (mG lr),
    trivial⟩ fun τ W g h=>⟨_,rfl,h 13 rfl,g⟩
theorem blw4_nb (m n:Nat) (a b c d:Int) (E:Nat) (hE : 1<=E) (la:a.natAbs<B^E) (lb:b.natAbs<B^E) (lc:c.natAbs<B^E) (ld:d.natAbs<B^E) (lm:m<B^E) (ln:n<B^E) :
 (blw a 1).1.natAbs<B^(6*E+1)/\(blw b m).1.natAbs<B^(6*E+1)/\(blw c n).1.natAbs<B^(6*E+1)/\(blw d (m*n)).1.natAbs<B^(6*E+1):=by
 have lmn:m*n<B^(2*E):=by rw [show 2*E=E+E by omega,Nat.pow_add];exact Nat.mul_lt_mul'' lm ln
 exact ⟨D2 (vY a 1 E la (bH E hE)) (by omega),D2 (vY b m E lb lm) (by omega),D2 (vY c n E lc ln) (by omega),D2 (vY d (m*n) (2*E) (D2 ld (by omega)) lmn) (by omega)⟩
theorem vH (m n:Nat) (a b c d:Int) (E:Nat) (hE : 1<=E) (la:a.natAbs<B^E) (lb:b.natAbs<B^E) (lc:c.natAbs<B^E) (ld:d.natAbs<B^E) (lm:m<B^E) (ln:n<B^E) :
 ((blw a 1).1+(blw b m).1).natAbs<B^(6*E+2)/\(((blw a 1).1+(blw b m).1)+(blw c n).1).natAbs<B^(6*E+3)/\(cM m n a b c d).natAbs<B^(6*E+4):=by
 obtain ⟨h1,h2,h3,h4⟩:=blw4_nb m n a b c d E hE la lb lc ld lm ln
 have s1:=aP h1 h2
 have s2:=aP s1 (D2 h3 (show 6*E+1<=6*E+1+1 by omega))
 have s3:=aP s2 (D2 h4 (show 6*E+1<=6*E+1+1+1 by omega))
 exact ⟨s1,s2,s3⟩
theorem sU (m n:Nat) (a b c d:Int) : 0<=bE m n a b c d/\bE m n a b c d<=4:=by
 unfold bE
 rcases cR a 1 with h1 | h1<;>rcases cR b m with h2 | h2<;>rcases cR c n with h3 | h3<;>rcases cR d (m*n) with h4 | h4<;>omega
theorem rhigh_nb (m n:Nat) (a b c d:Int) (E:Nat) (hE : 1<=E) (la:a.natAbs<B^E) (lb:b.natAbs<B^E) (lc:c.natAbs<B^E) (ld:d.natAbs<B^E) (lm:m<B^E) (ln:n<B^E):(U9 m n a b c d).natAbs<B^(6*E+5):=by
 have h:=(vH m n a b c d E hE la lb lc ld lm ln).2.2
 unfold U9
 split
 · refine aP h ?_
   have h2:=sU m n a b c d
   have h3 : 4<B^(6*E+4):=Nat.lt_of_lt_of_le (show 4<B^1 by unfold B;decide) (Nat.pow_le_pow_right D6 (by omega))
   omega
 · exact D2 h (by omega)
theorem IntV.eq {W:World} {v:Value} {z z':Int} (e:z'=z) (h:IntV W v z):IntV W v z':=e ▸ h
theorem jJ {p:Int} {q:Nat} (h:(blw p q).2=true) (x:Int):x+opn p q=x:=by unfold opn;rw [if_pos h,Int.add_zero]
theorem fP {p:Int} {q:Nat} (h:(blw p q).2=false) (x:Int):x+opn p q=x+1:=by unfold opn;rw [if_neg (by rw [h];simp)]
theorem D3 {v:Value} {a b:Bool} (h:v = .bool a) (h2:v = .bool b):a=b:=by rw [h] at h2;exact Value.bool.inj h2
theorem notb {v:Value} {a b:Bool} (h:v = .bool (!a)) (h2:v = .bool b):a = !b:=by rw [h] at h2;cases Value.bool.inj h2;simp
theorem T9 {t:TypeId} {x y:Int} (h0 : 0<=x+y) (h1:x+y<=100):binOp .add t (.int .i64 x) (.int .i64 y) = .pure (.int .i64 (x+y)):=by
 show Sem.pure (Value.int .i64 (IntKind.i64.wrap (x+y)))=_
 rw [nY (by omega) (by omega)]
theorem sub_small {t:TypeId} {x y:Int} (h0 : 0<=x-y) (h1:x-y<=100):binOp .sub t (.int .i64 x) (.int .i64 y) = .pure (.int .i64 (x-y)):=by
 show Sem.pure (Value.int .i64 (IntKind.i64.wrap (x-y)))=_
 rw [nY (by omega) (by omega)]
theorem SAround_any (w:World) (va:Value) (m n:Nat) (r0 r1 r2 r3:Rat) (K:Nat) (Ha:SurdV w va (m:Int) (n:Int) r0 r1 r2 r3) (hK : 1<=K/\K<=2000) (b0:Bd1 K r0) (b1:Bd1 K r1) (b2:Bd1 K r2) (b3:Bd1 K r3) (lm:m<B^K) (ln:n<B^K) (hTab:Tab w) :
 Calls Tryz.prog 79 #[va] w (uA w (cM m n (r0*J9 r0 r1 r2 r3).num (r1*J9 r0 r1 r2 r3).num (r2*J9 r0 r1 r2 r3).num (r3*J9 r0 r1 r2 r3).num / (J9 r0 r1 r2 r3).num) (U9 m n (r0*J9 r0 r1 r2 r3).num (r1*J9 r0 r1 r2 r3).num (r2*J9 r0 r1 r2 r3).num (r3*J9 r0 r1 r2 r3).num / (J9 r0 r1 r2 r3).num)):=by
 have hf:=fC b0 b1 b2 b3
 have HW:∀ W v,SurdV W v m n r0 r1 r2 r3->Tab W->Calls Tryz.prog 51 #[v] W (kE W _ _ _ _ _):=fun W v hv hT=>rB W v m n r0 r1 r2 r3 K hv (by omega) b0 b1 b2 b3 hT
 have hS : 0<(J9 r0 r1 r2 r3).num:=by
  obtain ⟨c,hc,h0,_⟩:=hf
  rw [hc,Rat.num_intCast];omega
 obtain ⟨D,hD⟩:∃ D,J9 r0 r1 r2 r3=D:=⟨_,rfl⟩
 rw [hD] at HW hf hS
 rw [hD]
 have E0:=D2 (I7 hf b0.1) (show K+(1+K+K+K+K)<=5*K+1 by omega)
 have E1:=D2 (I7 hf b1.1) (show K+(1+K+K+K+K)<=5*K+1 by omega)
 have E2:=D2 (I7 hf b2.1) (show K+(1+K+K+K+K)<=5*K+1 by omega)
 have E3:=D2 (I7 hf b3.1) (show K+(1+K+K+K+K)<=5*K+1 by omega)
 have ED:=D2 hf.bd.1 (show 1+K+K+K+K<=6*(5*K+1)+5 by omega)
 have LM:=D2 lm (show K<=5*K+1 by omega)
 have LN:=D2 ln (show K<=5*K+1 by omega)
 obtain ⟨Z0,z0⟩:∃ Z,(r0*D).num=Z:=⟨_,rfl⟩
 obtain ⟨Z1,z1⟩:∃ Z,(r1*D).num=Z:=⟨_,rfl⟩
 obtain ⟨Z2,z2⟩:∃ Z,(r2*D).num=Z:=⟨_,rfl⟩
 obtain ⟨Z3,z3⟩:∃ Z,(r3*D).num=Z:=⟨_,rfl⟩
 obtain ⟨S,hs⟩:∃ S,D.num=S:=⟨_,rfl⟩
 rw [z0,z1,z2,z3,hs] at HW
 rw [z0] at E0
 rw [z1] at E1
 rw [z2] at E2
 rw [z3] at E3
 rw [hs] at ED hS
 rw [z0,z1,z2,z3,hs]
 have EE : 1<=5*K+1:=by omega
 obtain ⟨L0,L1,L2,L3⟩:=blw4_nb m n Z0 Z1 Z2 Z3 (5*K+1) EE E0 E1 E2 E3 LM LN
 obtain ⟨M1,M2,M3⟩:=vH m n Z0 Z1 Z2 Z3 (5*K+1) EE E0 E1 E2 E3 LM LN
 have MH:=rhigh_nb m n Z0 Z1 Z2 Z3 (5*K+1) EE E0 E1 E2 E3 LM LN
 have LMN:m*n<B^(2*(5*K+1)):=by rw [show 2*(5*K+1)=(5*K+1)+(5*K+1) by omega,Nat.pow_add];exact Nat.mul_lt_mul'' LM LN
 obtain ⟨O0,O1,O2,O3⟩:(0<=opn Z0 1/\opn Z0 1<=1)/\(0<=opn Z1 m/\opn Z1 m<=1)/\(0<=opn Z2 n/\opn Z2 n<=1)/\(0<=opn Z3 (m*n)/\opn Z3 (m*n)<=1):=by
  refine ⟨?_, ?_, ?_, ?_⟩
  · rcases cR Z0 1 with h | h<;>omega
  · rcases cR Z1 m with h | h<;>omega
  · rcases cR Z2 n with h | h<;>omega
  · rcases cR Z3 (m*n) with h | h<;>omega
 refine eH B5 Tryz.func79 [sSd (m:Int) (n:Int) r0 r1 r2 r3] [sWh Z0 Z1 Z2 Z3 S,sIs 1 (m:Int) (n:Int) ((m:Int)*(n:Int)),sBl (blw Z0 1).1 (blw Z0 1).2,sI (blw Z0 1).1,sB (!(blw Z0 1).2),sZ (opn Z0 1),sBl (blw Z1 m).1 (blw Z1 m).2,sI ((blw Z0 1).1+(blw Z1 m).1),sB (!(blw Z1 m).2),sZ ((opn Z0 1)+1),sZ ((opn Z0 1)+opn Z1 m),sBl (blw Z2 n).1 (blw Z2 n).2,sI (((blw Z0 1).1+(blw Z1 m).1)+(blw Z2 n).1),sB (!(blw Z2 n).2),sZ (((opn Z0 1)+opn Z1 m)+1),sZ (((opn Z0 1)+opn Z1 m)+opn Z2 n),sBl (blw Z3 (m*n)).1 (blw Z3 (m*n)).2,sI ((((blw Z0 1).1+(blw Z1 m).1)+(blw Z2 n).1)+(blw Z3 (m*n)).1),sB (!(blw Z3 (m*n)).2),sZ ((((opn Z0 1)+opn Z1 m)+opn Z2 n)+1),sZ ((((opn Z0 1)+opn Z1 m)+opn Z2 n)+opn Z3 (m*n)),sB (decide (1<bE m n Z0 Z1 Z2 Z3)),sZ (bE m n Z0 Z1 Z2 Z3-1),sI (bE m n Z0 Z1 Z2 Z3-1),sI (cM m n Z0 Z1 Z2 Z3+(bE m n Z0 Z1 Z2 Z3-1)),sI (U9 m n Z0 Z1 Z2 Z3),uR (cM m n Z0 Z1 Z2 Z3 / S) (cM m n Z0 Z1 Z2 Z3%S) 0,uR (U9 m n Z0 Z1 Z2 Z3 / S) (U9 m n Z0 Z1 Z2 Z3%S) 0] [] [some [[.t 7]],some [[.t 7]],some [[.t 7]],some [[.t 7]],some [[.c 14 0,.c 14 1]]] (.cons Ha .nil) (rs:=[(cl 1 51 [ag 20 0],[]),(cl 2 65 [ag 4 0],[]),(cl 3 133 [ag 2 1,ag 2 2],[]),(cl 4 45 [.v true [.lit (.slice none 0 0),.lit (.bool false)],ag 2 3],[]),(co 5 (.unOp .not 4 (.tmp 37)) 4 [.v false [.an 3 2]] [0,1,2,3,4] [],[]),(cl 7 133 [.v true [.an 1 2,.an 1 3],.v true [.an 2 2,.an 2 3]],[]),(cl 8 45 [ag 2 4,ag 2 7],[]),(co 9 (.unOp .not 4 (.tmp 37)) 4 [.v false [.an 7 2]] [0,1,2,3,4,5,6,7,8] [],[]),(co 10 (.binOp .add 3 (.tmp 39) (.const (.int .i64 1)) 3) 3 [on 6,.v false [.lit (.int .i64 1)]] [0,1,2,3,4,5,6,7,8,9] [],[(9,0,true)]),(cla 12 133 [.v true [.an 1 4,.an 1 5],.v true [.an 2 4,.an 2 5]] [0,1,2,3,4,5,6,7,8,9,11],[]),(cla 13 45 [ag 2 8,ag 2 12] [0,1,2,3,4,5,6,7,8,9,11,12],[]),(co 14 (.unOp .not 4 (.tmp 37)) 4 [.v false [.an 12 2]] [0,1,2,3,4,5,6,7,8,9,11,12,13] [],[]),(co 15 (.binOp .add 3 (.tmp 39) (.const (.int .i64 1)) 3) 3 [on 11,.v false [.lit (.int .i64 1)]] [0,1,2,3,4,5,6,7,8,9,11,12,13,14] [],[(14,0,true)]),(cla 17 133 [.v true [.an 1 6,.an 1 7],.v true [.an 2 6,.an 2 7]] [0,1,2,3,4,5,6,7,8,9,11,12,13,14,16],[]),(cla 18 45 [ag 2 13,ag 2 17] [0,1,2,3,4,5,6,7,8,9,11,12,13,14,16,17],[]),(co 19 (.unOp .not 4 (.tmp 37)) 4 [.v false [.an 17 2]] [0,1,2,3,4,5,6,7,8,9,11,12,13,14,16,17,18] [],[]),(co 20 (.binOp .add 3 (.tmp 39) (.const (.int .i64 1)) 3) 3 [on 16,.v false [.lit (.int .i64 1)]] [0,1,2,3,4,5,6,7,8,9,11,12,13,14,16,17,18,19] [],[(19,0,true)]),(co 22 (.binOp .gtr 3 (.tmp 43) (.const (.int .i64 1)) 3) 4 [on 21,.v false [.lit (.int .i64 1)]] [0,1,2,3,4,5,6,7,8,9,11,12,13,14,16,17,18,19,21] [],[]),(co 23 (.binOp .sub 3 (.tmp 46) (.const (.int .i64 1)) 3) 3 [on 21,.v false [.lit (.int .i64 1)]] [0,1,2,3,4,5,6,7,8,9,11,12,13,14,16,17,18,19,21,22] [],[(22,0,true)]),(cla 24 10 [on 23] [0,1,2,3,4,5,6,7,8,9,11,12,13,14,16,17,18,19,21,22,23],[(22,0,true)]),(cla 25 45 [ag 2 18,ag 2 24] [0,1,2,3,4,5,6,7,8,9,11,12,13,14,16,17,18,19,21,22,23,24],[(22,0,true)]),(cla 27 44 [ag 2 18,.v true [.an 1 8,.an 1 9]] [0,1,2,3,4,5,6,7,8,9,11,12,13,14,16,17,18,19,21,22,26],[]),(cla 28 44 [ag 2 26,.v true [.an 1 8,.an 1 9]] [0,1,2,3,4,5,6,7,8,9,11,12,13,14,16,17,18,19,21,22,26,27],[])]) (js:=[.test 5 0 (List.range 6) [],.meet [(6,.v false [.lit (.int .i64 1)])] (List.range 6) [(5,0,true)],.meet [(6,.v false [.lit (.int .i64 0)])] (List.range 6) [(5,0,false)],.test 9 0 (List.range 10) [],.meet [(11,on 10)] (List.range 11) [(9,0,true)],.meet [(11,on 6)] (List.range 10) [(9,0,false)],.test 14 0 [0,1,2,3,4,5,6,7,8,9,11,12,13,14] [],.meet [(16,on 15)] [0,1,2,3,4,5,6,7,8,9,11,12,13,14,15] [(14,0,true)],.meet [(16,on 11)] [0,1,2,3,4,5,6,7,8,9,11,12,13,14] [(14,0,false)],.test 19 0 [0,1,2,3,4,5,6,7,8,9,11,12,13,14,16,17,18,19] [],.meet [(21,on 20)] [0,1,2,3,4,5,6,7,8,9,11,12,13,14,16,17,18,19,20] [(19,0,true)],.meet [(21,on 16)] [0,1,2,3,4,5,6,7,8,9,11,12,13,14,16,17,18,19] [(19,0,false)],.test 22 0 [0,1,2,3,4,5,6,7,8,9,11,12,13,14,16,17,18,19,21,22] [],.meet [(26,ag 2 25)] [0,1,2,3,4,5,6,7,8,9,11,12,13,14,16,17,18,19,21,22,23,24,25] [(22,0,true)],.meet [(26,ag 2 18)] [0,1,2,3,4,5,6,7,8,9,11,12,13,14,16,17,18,19,21,22] [(22,0,false)]]) (outs:=[⟨.tup [(true,[.an 27 0,.an 27 1]),(true,[.an 28 0,.an 28 1])],[0,1,2,3,4,5,6,7,8,9,11,12,13,14,16,17,18,19,21,22,26,27,28],[],[],[]⟩]) (nc:=29) (by kernel_rfl)
  ⟨fun σ W g h hp hb=>toWh (HW W _ (h 0 rfl) (hTab.kept g (by simp))),
  fun σ W g h hp hb=>cF W _ (m:Int) (n:Int) K (sd0 (h 0 rfl)) (by omega) (ldi lm) (ldi ln),
  fun σ W g h hp hb=>toBl (dA W _ _ Z0 1 (5*K+1) (is0 (wh1 (h 1 rfl))) (is0 (h 2 rfl)) (by omega) E0 (bH _ EE)),
  fun σ W g h hp hb=>Int.zero_add (blw Z0 1).1 ▸ F6 W _ _ 0 _ (6*(5*K+1)+1) (IntV.zero W) (bl1 (h 3 rfl)) (by omega) (Nat.pow_pos D6) L0,
  fun σ W g h hp hb=>fun ρ o ho _ hv=>⟨_,jM ho ((C6 hv).trans (bl2 (h 3 rfl))),rfl⟩,
  fun σ W g h hp hb=>toBl (dA W _ _ Z1 m (5*K+1) (is1 (wh1 (h 1 rfl))) (is1 (h 2 rfl)) (by omega) E1 LM),
  fun σ W g h hp hb=>F6 W _ _ _ _ (6*(5*K+1)+4) (h 4 rfl) (bl1 (h 7 rfl)) (by omega) (D2 L0 (by omega)) (D2 L1 (by omega)),
  fun σ W g h hp hb=>fun ρ o ho _ hv=>⟨_,jM ho ((C6 hv).trans (bl2 (h 7 rfl))),rfl⟩,
  fun σ W g h hp hb=>fun ρ o ho _ hv=>⟨_,A5 ho ((A0 hv).1.trans (h 6 rfl)) (A0 hv).2 (T9 (by omega) (by omega)),rfl⟩,
  fun σ W g h hp hb=>toBl (dA W _ _ Z2 n (5*K+1) (is2 (wh1 (h 1 rfl))) (is2 (h 2 rfl)) (by omega) E2 LN),
  fun σ W g h hp hb=>F6 W _ _ _ _ (6*(5*K+1)+4) (h 8 rfl) (bl1 (h 12 rfl)) (by omega) (D2 M1 (by omega)) (D2 L2 (by omega)),
  fun σ W g h hp hb=>fun ρ o ho _ hv=>⟨_,jM ho ((C6 hv).trans (bl2 (h 12 rfl))),rfl⟩,
  fun σ W g h hp hb=>fun ρ o ho _ hv=>⟨_,A5 ho ((A0 hv).1.trans (h 11 rfl)) (A0 hv).2 (T9 (by omega) (by omega)),rfl⟩,
  fun σ W g h hp hb=>toBl (dA W _ _ Z3 (m*n) (2*(5*K+1)) (is3 (wh1 (h 1 rfl))) (show IntV W _ ((m*n:Nat):Int) from (Int.natCast_mul m n).symm ▸ is3 (h 2 rfl)) (by omega) (D2 E3 (by omega)) LMN),
  fun σ W g h hp hb=>F6 W _ _ _ _ (6*(5*K+1)+4) (h 13 rfl) (bl1 (h 17 rfl)) (by omega) (D2 M2 (by omega)) (D2 L3 (by omega)),
  fun σ W g h hp hb=>fun ρ o ho _ hv=>⟨_,jM ho ((C6 hv).trans (bl2 (h 17 rfl))),rfl⟩,
  fun σ W g h hp hb=>fun ρ o ho _ hv=>⟨_,A5 ho ((A0 hv).1.trans (h 16 rfl)) (A0 hv).2 (T9 (by omega) (by omega)),rfl⟩,
  fun σ W g h hp hb=>fun ρ o ho _ hv=>⟨_,A5 ho ((A0 hv).1.trans (h 21 rfl)) (A0 hv).2 rfl,rfl⟩,
  fun σ W g h hp hb=>fun ρ o ho _ hv=>⟨_,A5 ho ((A0 hv).1.trans (h 21 rfl)) (A0 hv).2 (sub_small (by have:=D3 (h 22 rfl) (hp 22 0 true rfl);have:=of_decide_eq_true this;show 0<=bE m n Z0 Z1 Z2 Z3-1;omega) (by show bE m n Z0 Z1 Z2 Z3-1<=100;unfold bE;omega)),rfl⟩,
  fun σ W g h hp hb=>R0 (h 23 rfl) (B8 W _ (by unfold bE;omega) (by unfold bE;omega)),
  fun σ W g h hp hb=>F6 W _ _ _ _ (6*(5*K+1)+4) (h 18 rfl) (h 24 rfl) (by omega) M3 (Nat.lt_of_le_of_lt (show (bE m n Z0 Z1 Z2 Z3-1).natAbs<=4 by unfold bE;omega) (Nat.lt_of_lt_of_le (show 4<B^1 by unfold B;decide) (Nat.pow_le_pow_right D6 (by omega)))),
  fun σ W g h hp hb=>sJ (U1 W _ _ _ S (6*(5*K+1)+5) (h 18 rfl) (wh2 (h 1 rfl)) (by omega) (D2 M3 (by omega)) ED (by omega)) rfl,
  fun σ W g h hp hb=>sJ (U1 W _ _ _ S (6*(5*K+1)+5) (h 26 rfl) (wh2 (h 1 rfl)) (by omega) MH ED (by omega)) rfl,
  trivial⟩
  ⟨fun σ W g h hp=>⟨_,h 5 rfl⟩,
  fun σ W g h hp=>⟨congrArg (Value.int .i64) (by have:=fP (notb (h 5 rfl) (hp 5 0 true rfl)) 0;omega),trivial⟩,
  fun σ W g h hp=>⟨congrArg (Value.int .i64) (by have:=jJ (notb (h 5 rfl) (hp 5 0 false rfl)) 0;omega),trivial⟩,
  fun σ W g h hp=>⟨_,h 9 rfl⟩,
  fun σ W g h hp=>⟨(h 10 rfl).trans (congrArg (Value.int .i64) (fP (notb (h 9 rfl) (hp 9 0 true rfl)) _).symm),trivial⟩,
  fun σ W g h hp=>⟨(h 6 rfl).trans (congrArg (Value.int .i64) (jJ (notb (h 9 rfl) (hp 9 0 false rfl)) _).symm),trivial⟩,
  fun σ W g h hp=>⟨_,h 14 rfl⟩,
  fun σ W g h hp=>⟨(h 15 rfl).trans (congrArg (Value.int .i64) (fP (notb (h 14 rfl) (hp 14 0 true rfl)) _).symm),trivial⟩,
  fun σ W g h hp=>⟨(h 11 rfl).trans (congrArg (Value.int .i64) (jJ (notb (h 14 rfl) (hp 14 0 false rfl)) _).symm),trivial⟩,
  fun σ W g h hp=>⟨_,h 19 rfl⟩,
  fun σ W g h hp=>⟨(h 20 rfl).trans (congrArg (Value.int .i64) (fP (notb (h 19 rfl) (hp 19 0 true rfl)) _).symm),trivial⟩,
  fun σ W g h hp=>⟨(h 16 rfl).trans (congrArg (Value.int .i64) (jJ (notb (h 19 rfl) (hp 19 0 false rfl)) _).symm),trivial⟩,
  fun σ W g h hp=>⟨_,h 22 rfl⟩,
  fun σ W g h hp=>⟨IntV.eq (show U9 m n Z0 Z1 Z2 Z3=cM m n Z0 Z1 Z2 Z3+(bE m n Z0 Z1 Z2 Z3-1) by unfold U9;rw [if_pos (of_decide_eq_true (D3 (h 22 rfl) (hp 22 0 true rfl)))]) (h 25 rfl),trivial⟩,
  fun σ W g h hp=>⟨IntV.eq (show U9 m n Z0 Z1 Z2 Z3=cM m n Z0 Z1 Z2 Z3 by unfold U9;rw [if_neg (of_decide_eq_false (D3 (h 22 rfl) (hp 22 0 false rfl)))]) (h 18 rfl),trivial⟩,
  trivial⟩
  ⟨fun τ W g h hp hb=>⟨_,_,rfl,iiE1 (h 27 rfl),iiE1 (h 28 rfl),g⟩,
  trivial⟩
end Go.Proofs.YtdgdmicbbfoghaaGreatDoor
namespace Go.Proofs.YtdgdmicbbfoghaaGreatDoor
theorem floor_low {m n:Nat} {a b c d:Rat} {s p0 p1 p2 p3:Int} (hs : 0<s) (h0:(p0:Rat)=a*s) (h1:(p1:Rat)=b*s) (h2:(p2:Rat)=c*s) (h3:(p3:Rat)=d*s) {z:Int} (h:z<=cM m n p0 p1 p2 p3 / s) : 0<=sg4 m n (a-z) b c d:=by
 have hs':(0:Rat)<(s:Rat):=by have:=Rat.intCast_lt_intCast.2 hs;exact this
 rw [<- kQ m n (a-z) b c d hs', <- h1, <- h2, <- h3]
 have h4:z*s<=cM m n p0 p1 p2 p3:=(Int.le_ediv_iff_mul_le hs).1 h
 have h5:=sg4_low m n p0 p1 p2 p3 h4
 have e:(a-(z:Rat))*(s:Rat)=(p0:Rat)-((z*s:Int):Rat):=by rw [h0,Rat.intCast_mul];grind
 rw [e];exact h5
theorem floor_high {m n:Nat} {a b c d:Rat} {s p0 p1 p2 p3:Int} (hs : 0<s) (h0:(p0:Rat)=a*s) (h1:(p1:Rat)=b*s) (h2:(p2:Rat)=c*s) (h3:(p3:Rat)=d*s) {z:Int} (h:U9 m n p0 p1 p2 p3 / s<z):sg4 m n (a-z) b c d = -1:=by
 have hs':(0:Rat)<(s:Rat):=by have:=Rat.intCast_lt_intCast.2 hs;exact this
 rw [<- kQ m n (a-z) b c d hs', <- h1, <- h2, <- h3]
 have h4:U9 m n p0 p1 p2 p3<z*s:=(Int.ediv_lt_iff_lt_mul hs).1 h
 have h5:=sg4_high m n p0 p1 p2 p3 h4
 have e:(a-(z:Rat))*(s:Rat)=(p0:Rat)-((z*s:Int):Rat):=by rw [h0,Rat.intCast_mul];grind
 rw [e];exact h5
def SNear (m n:Nat) (a b c d:Rat) (z:Int):Prop:=0<=sg4 m n (a-z+1 / 2) b c d/\sg4 m n (a-z-1 / 2) b c d<=0/\((sg4 m n (a-z+1 / 2) b c d=0\/sg4 m n (a-z-1 / 2) b c d=0)->z%2=0)
theorem N5 (z:Int):((z+1:Int):Rat)=(z:Rat)+1:=by rw [Rat.intCast_add];rfl
theorem SNear.uniq {m n:Nat} {a b c d:Rat} {x y:Int} (h:SNear m n a b c d x) (h':SNear m n a b c d y):x=y:=by
 have key:∀ {x y:Int},SNear m n a b c d x->SNear m n a b c d y -> ¬ x<y:=by
  intro x y h h' hlt
  have h1:x+1<=y:=hlt
  have h2:=Rat.intCast_le_intCast.2 h1
  rw [N5] at h2
  have hx:=h.2.1
  by_cases he:y=x+1
  · subst he
    have e:a-((x+1:Int):Rat)+1 / 2=a-(x:Rat)-1 / 2:=by rw [N5];grind
    have hy:=h'.1
    rw [e] at hy
    have hz:sg4 m n (a-(x:Rat)-1 / 2) b c d=0:=by omega
    have e1:=h.2.2 (Or.inr hz)
    have e2:=h'.2.2 (Or.inl (by rw [e];exact hz))
    omega
  · have h3:x+1+1<=y:=by omega
    have h4:=Rat.intCast_le_intCast.2 h3
    rw [N5,N5] at h4
    have h5:=h'.1
    have h6:=sg4_more m n b c d (show a-(y:Rat)+1 / 2<a-(x:Rat)-1 / 2 by grind) h5
    omega
 have:=key h h';have:=key h' h;omega
theorem near_of {m n:Nat} {a b c d:Rat} {f:Int} (h:SFloor m n (a+1 / 2) b c d f):(sg4 m n (a+1 / 2-f) b c d≠0->SNear m n a b c d f)/\(sg4 m n (a+1 / 2-f) b c d=0 -> ∀ z,(z=f\/z=f-1)->z%2=0->SNear m n a b c d z):=by
 obtain ⟨h1,h2⟩:=h
 rw [N5] at h2
 have e1:a-(f:Rat)+1 / 2=a+1 / 2-(f:Rat):=by grind
 have e2:a-(f:Rat)-1 / 2=a+1 / 2-((f:Rat)+1):=by grind
 refine ⟨fun hn=>⟨by rw [e1];exact h1,by rw [e2,h2];decide,fun h3=>?_⟩,fun hz z hzf he=>?_⟩
 · rcases h3 with h3 | h3
   · rw [e1] at h3;exact absurd h3 hn
   · rw [e2,h2] at h3;exact absurd h3 (by decide)
 · rcases hzf with rfl | rfl
   · exact ⟨by rw [e1];exact h1,by rw [e2,h2];decide,fun _=>he⟩
   · have e3:((f-1:Int):Rat)=(f:Rat)-1:=by rw [Rat.intCast_sub];rfl
     have e4:a-((f-1:Int):Rat)-1 / 2=a+1 / 2-(f:Rat):=by rw [e3];grind
     refine ⟨?_,by rw [e4,hz];decide,fun _=>he⟩
     have h5:=jB m n b c d (show a+1 / 2-(f:Rat)<=a-((f-1:Int):Rat)+1 / 2 by rw [e3];grind)
     omega
theorem floor_rat (m n:Nat) (a:Rat):SFloor m n a 0 0 0 a.floor:=by
 have h1:=Rat.floor_le a
 have h2:=Rat.lt_floor (x:=a)
 refine ⟨?_, ?_⟩
 · rw [nJ];exact Int.sign_nonneg_iff.2 (Rat.num_nonneg.2 (by grind))
 · rw [nJ,N5]
   refine Int.sign_eq_neg_one_of_neg ?_
   apply Classical.byContradiction
   intro h3
   have:=Rat.num_nonneg.1 (show 0<=(a-((a.floor:Rat)+1)).num by omega)
   grind
end Go.Proofs.YtdgdmicbbfoghaaGreatDoor
namespace Go.Proofs.YtdgdmicbbfoghaaGreatDoor
open Go.RowKit Mat
theorem around_le (m n:Nat) (a b c d s:Int) (hs : 0<s):cM m n a b c d / s<=U9 m n a b c d / s:=by
 refine Int.ediv_le_ediv hs ?_
 have h2:=sU m n a b c d
 unfold U9
 split<;>omega
theorem mN (m n:Nat) (r0 r1 r2 r3:Rat) (K:Nat) (hK : 1<=K/\K<=2000) (b0:Bd1 K r0) (b1:Bd1 K r1) (b2:Bd1 K r2) (b3:Bd1 K r3) (lm:m<B^K) (ln:n<B^K) :
 ∃ X Y:Int,(∀ w va,SurdV w va (m:Int) (n:Int) r0 r1 r2 r3->Tab w->Calls Tryz.prog 79 #[va] w (uA w X Y))/\X<=Y/\X.natAbs<B^(30*K+11)/\Y.natAbs<B^(30*K+11)/\(∀ z:Int,z<=X->0<=sg4 m n (r0-z) r1 r2 r3)/\(∀ z:Int,Y<z->sg4 m n (r0-z) r1 r2 r3 = -1):=by
 have hf:=fC b0 b1 b2 b3
 obtain ⟨e0,e1,e2,e3⟩:=wden_num r0 r1 r2 r3
 have hd:(((J9 r0 r1 r2 r3).num:Int):Rat)=J9 r0 r1 r2 r3:=by
  obtain ⟨c,hc,_,_⟩:=hf
  rw [hc,Rat.num_intCast]
 have hs : 0<(J9 r0 r1 r2 r3).num:=by
  obtain ⟨c,hc,h0,_⟩:=hf
  rw [hc,Rat.num_intCast];omega
 have q0:=D2 (I7 hf b0.1) (show K+(1+K+K+K+K)<=5*K+1 by omega)
 have q1:=D2 (I7 hf b1.1) (show K+(1+K+K+K+K)<=5*K+1 by omega)
 have q2:=D2 (I7 hf b2.1) (show K+(1+K+K+K+K)<=5*K+1 by omega)
 have q3:=D2 (I7 hf b3.1) (show K+(1+K+K+K+K)<=5*K+1 by omega)
 have lm':=D2 lm (show K<=5*K+1 by omega)
 have ln':=D2 ln (show K<=5*K+1 by omega)
 refine ⟨_,_,fun w va hv hT=>SAround_any w va m n r0 r1 r2 r3 K hv hK b0 b1 b2 b3 lm ln hT,around_le _ _ _ _ _ _ _ hs, ?_, ?_,fun z hz=>floor_low hs (by rw [hd];exact e0) (by rw [hd];exact e1) (by rw [hd];exact e2) (by rw [hd];exact e3) hz,fun z hz=>floor_high hs (by rw [hd];exact e0) (by rw [hd];exact e1) (by rw [hd];exact e2) (by rw [hd];exact e3) hz⟩
 · refine Nat.lt_of_le_of_lt (Int.natAbs_ediv_le_natAbs _ _) ?_
   exact D2 (vH m n _ _ _ _ (5*K+1) (by omega) q0 q1 q2 q3 lm' ln').2.2 (by omega)
 · refine Nat.lt_of_le_of_lt (Int.natAbs_ediv_le_natAbs _ _) ?_
   exact D2 (rhigh_nb m n _ _ _ _ (5*K+1) (by omega) q0 q1 q2 q3 lm' ln') (by omega)
def rF (w:World) (m n:Nat) (r0 r1 r2 r3:Rat) (E:Nat) (e:Ending) (w':World):Prop:=∃ z:Int,SFloor m n r0 r1 r2 r3 z/\z.natAbs<B^E/\E4 w z e w'
theorem sY {K:Nat} {r:Rat} (h:Bd1 K r):r.floor.natAbs<B^K:=by
 rw [Rat.floor_def]
 exact Nat.lt_of_le_of_lt (Int.natAbs_ediv_le_natAbs _ _) h.1
theorem K6 {E:Nat} {X Y z:Int} (hX:X.natAbs<B^E) (hY:Y.natAbs<B^E) (h1:X<=z) (h2:z<=Y):z.natAbs<B^E:=by omega
end Go.Proofs.YtdgdmicbbfoghaaGreatDoor
