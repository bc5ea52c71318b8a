/- What the laws lean on, part 4. -/
import Derived.BigQuiet
import Derived.Deep.CutBlock
import Derived.Deep.CutRange
import Derived.Deep.DeepCutAuto
import Derived.Deep.LoopGhost
import Derived.Deep.QuietTactic
import Derived.Deep.RegionHeld3
import Derived.Laws.CopyOwn
import Derived.Laws.Externs
import Derived.Lib.BitFns
import Derived.Lib.Hide
import Derived.Lib.Slices
import Derived.Lib.Small
import Derived.Lib.Strings
import Derived.Lib.Walk
import Derived.Outline
import Derived.Shelf.Bits.Mul64
import Derived.StillTailTactics
import Derived.WalkKit
import Derived.WalkLawsBesides
import Derived.WalkSpells
import Derived.Test.YtdgdmicbbfoghaaGreatDoorProg
import Derived.Test.YtdgdmicbbfoghaaGreatDoorMg3
set_option linter.unusedVariables false
set_option linter.unusedSimpArgs false
set_option maxRecDepth 100000
namespace Go.Proofs.YtdgdmicbbfoghaaGreatDoor
open Go.RowKit Mat
def eK (hi lo y:Nat):Nat:=(hi*B+lo) / y
def mZ (hi lo y:Nat):Nat:=(hi*B+lo)%y
def Dived (w:World) (hi lo y:Nat) (e:Ending) (w':World):Prop:=e = .returned (.tuple #[.int .u64 (eK hi lo y:Int),.int .u64 (mZ hi lo y:Int)]) /\ ∃ q,w'=w.drewN q
set_option maxHeartbeats 1000000 in
theorem div64_zero (lo y:Nat) (hl:lo<B) (hy:y<B) (h0 : 0<y) (w:World) :
 Calls Tryz.prog 150 #[.int .u64 0,.int .u64 (lo:Int),.int .u64 (y:Int)] w (Dived w 0 lo y):=by
 have e1:((lo:Int) / (y:Int))=(eK 0 lo y:Int):=by unfold eK;rw [Nat.zero_mul,Nat.zero_add];exact (Int.natCast_ediv ..).symm
 have e2:((lo:Int)%(y:Int))=(mZ 0 lo y:Int):=by unfold mZ;rw [Nat.zero_mul,Nat.zero_add];exact (Int.natCast_emod ..).symm
 have hq:eK 0 lo y<B:=by
  unfold eK;rw [Nat.zero_mul,Nat.zero_add];exact Nat.lt_of_le_of_lt (Nat.div_le_self _ _) hl
 have E2:=Lib.hid e2
 have E3:=Lib.hid (Mul64.wrapN _ hq)
 clear e2 hq
 have f1:((y:Int) == 0)=false:=beq_eq_false_iff_ne.2 (by omega)
 have f2:decide ((y:Int)<=0)=false:=decide_eq_false (by omega)
 go_enter Tryz.func150,Tryz.ntmps150
 go_wp2_with fail
 go_quiet (fail)
 go_wp2_with fail
 go_ret2
 refine ⟨?_,_,rfl⟩
 show Ending.returned (.tuple #[.int .u64 (IntKind.u64.wrap (eK 0 lo y:Int)),.int .u64 ((lo:Int)%(y:Int))])=_
 rw [E2.out,E3.out]
theorem dg_ge {u y1 y0 d b:Nat} (hb : 0<b) (h1 : 0<y1) (hd:d<b):(u*b+d) / (y1*b+y0)<=u / y1:=by
 have h:(u*b+d) / (y1*b+y0)<=(u*b+d) / (b*y1):=Nat.div_le_div_left (by rw [Nat.mul_comm];omega) (Nat.mul_pos hb h1)
 rw [<- Nat.div_div_eq_div_mul,Nat.mul_comm u b,Nat.mul_add_div hb,Nat.div_eq_of_lt hd,Nat.add_zero] at h
 rwa [Nat.mul_comm u b]
theorem dg_lt {u y1 y0 d b:Nat} (hd:d<b) (hu:u<y1*b+y0):(u*b+d) / (y1*b+y0)<b:=by
 rw [Nat.div_lt_iff_lt_mul (by omega)]
 have:(u+1)*b<=(y1*b+y0)*b:=Nat.mul_le_mul_right _ hu
 rw [Nat.add_mul] at this
 rw [Nat.mul_comm b];omega
theorem dg_dec {u y1 y0 d b q r:Nat} (h:q*y1+r=u) (ht:b*r+d<q*y0):(u*b+d) / (y1*b+y0)+1<=q:=by
 have hq : 0<q:=by
  rcases Nat.eq_zero_or_pos q with h0 | h0
  · subst h0;simp at ht
  · exact h0
 have hy : 0<y0:=by
  rcases Nat.eq_zero_or_pos y0 with h0 | h0
  · subst h0;simp at ht
  · exact h0
 have:(u*b+d)<(y1*b+y0)*q:=by
  have e:(y1*b+y0)*q=(q*y1)*b+q*y0:=by grind
  have e2:u*b=(q*y1)*b+b*r:=by rw [<- h];grind
  omega
 exact Nat.div_lt_of_lt_mul this
theorem nQ {u y1 y0 d b q r:Nat} (hy : 0<y1*b+y0) (h:q*y1+r=u) (ht:q*y0<=b*r+d):q<=(u*b+d) / (y1*b+y0):=by
 rw [Nat.le_div_iff_mul_le hy]
 have e:q*(y1*b+y0)=(q*y1)*b+q*y0:=by grind
 have e2:u*b=(q*y1)*b+b*r:=by rw [<- h];grind
 omega
theorem dg_stop2 {y0 d b q r:Nat} (hr:b<=r) (hq:q<=b) (hy:y0<b):q*y0<=b*r+d:=by
 have h1:q*y0<=b*b:=Nat.mul_le_mul hq (by omega)
 have h2:b*b<=b*r:=Nat.mul_le_mul_left _ hr
 omega
def W:Nat:=4294967296
theorem W_mul:W*W=B:=by decide
theorem wrap_rem {u d q y r:Nat} (h:u*W+d=q*y+r) (hr:r<B) :
 IntKind.u64.wrap (IntKind.u64.wrap (IntKind.u64.wrap ((u:Int)*4294967296)+(d:Int))-IntKind.u64.wrap ((q:Int)*(y:Int)))=(r:Int):=by
 have h2:(u:Int)*4294967296+(d:Int)=(q:Int)*(y:Int)+(r:Int):=by
  have:=congrArg (fun n:Nat=>(n:Int)) h
  simpa [W] using this
 have hr:r<18446744073709551616:=hr
 simp only [IntKind.wrap_u64]
 generalize (q:Int)*(y:Int)=p at *
 omega
theorem dived_end {u d1 d0 ys q1 v q0 hi lo y s:Nat} (h1:u*W+d1=q1*ys+v) (h2:v*W+d0=q0*ys+(v*W+d0)%ys) (hN:u*B+(d1*W+d0)=(hi*B+lo)*2^s) (hY:ys=y*2^s) (hy : 0<y) :
 q1*W+q0=eK hi lo y/\(v*W+d0)%ys / 2^s=mZ hi lo y:=by
 have hp : 0<2^s:=Nat.two_pow_pos s
 have hlt:(v*W+d0)%ys<ys:=Nat.mod_lt _ (by rw [hY];exact Nat.mul_pos hy hp)
 generalize (v*W+d0)%ys=r at *
 have e1:(hi*B+lo)*2^s=(q1*W+q0)*y*2^s+r:=by
  rw [<- hN, <- W_mul]
  have:u*(W*W)+(d1*W+d0)=(u*W+d1)*W+d0:=by grind
  rw [this,h1]
  have:(q1*ys+v)*W+d0=q1*ys*W+(v*W+d0):=by grind
  rw [this,h2,hY];grind
 show q1*W+q0=(hi*B+lo) / y/\r / 2^s=(hi*B+lo)%y
 generalize hi*B+lo=N at *
 generalize q1*W+q0=Q at *
 have hQN:Q*y<=N:=by
  rcases Nat.lt_or_ge N (Q*y) with h | h
  · have:=Nat.mul_lt_mul_of_pos_right h hp;omega
  · exact h
 obtain ⟨t,ht⟩:∃ t,N=Q*y+t:=⟨N-Q*y,by omega⟩
 have hr:r=t*2^s:=by rw [ht,Nat.add_mul] at e1;omega
 have hty:t<y:=by
  rw [hr,hY] at hlt
  exact Nat.lt_of_mul_lt_mul_right hlt
 have e2:N / y=Q:=by rw [ht,Nat.mul_comm,Nat.mul_add_div hy,Nat.div_eq_of_lt hty,Nat.add_zero]
 have e3:N%y=t:=by rw [ht,Nat.mul_comm,Nat.mul_add_mod,Nat.mod_eq_of_lt hty]
 exact ⟨e2.symm,by rw [hr,Nat.mul_div_cancel _ hp];exact e3.symm⟩
set_option maxHeartbeats 8000000 in
theorem div64_core (hi lo y s u y1 y0 d1 d0:Nat) (U Y1 Y0 D1 D0 YS LS:Int) (w:World) (h0 : 0<hi) (hlt:hi<y) (hs:s=64-Lib.bitLen y) (hy:y<B) (s64:s<=64)
 (e1:IntKind.u64.wrap ((y:Int)*2^s)=YS) (e2:IntKind.u64.wrap ((lo:Int)*2^s)=LS)
 (e3:bits .or .u64 (IntKind.u64.wrap ((hi:Int)*2^s)) ((lo:Int) / 2^(64-s))=U)
 (e4:bits .and .u64 YS 4294967295=Y0) (e5:YS / 4294967296=Y1) (e6:bits .and .u64 LS 4294967295=D0) (e7:LS / 4294967296=D1)
 (by1 : 2147483648<=Y1) (by1':Y1<4294967296) (by0 : 0<=Y0) (by0':Y0<4294967296) (bd1 : 0<=D1) (bd1':D1<4294967296) (bd0 : 0<=D0) (bd0':D0<4294967296)
 (hu0 : 0<=U) (hu:U<YS) (hYS:YS<=18446744073709551615)
 (HU:Hid (U=(u:Int))) (HY1:Hid (Y1=(y1:Int))) (HY0:Hid (Y0=(y0:Int))) (HD1:Hid (D1=(d1:Int))) (HD0:Hid (D0=(d0:Int))) (HYS:Hid (YS=((y1*W+y0:Nat):Int)))
 (HN:Hid (u*B+(d1*W+d0)=(hi*B+lo)*2^s)) (HY:Hid (y1*W+y0=y*2^s)) :
 Calls Tryz.prog 150 #[.int .u64 (hi:Int),.int .u64 (lo:Int),.int .u64 (y:Int)] w (Dived w hi lo y):=by
 have f1:((y:Int) == 0)=false:=beq_eq_false_iff_ne.2 (by omega)
 have f3:((hi:Int) == 0)=false:=beq_eq_false_iff_ne.2 (by omega)
 have f2:decide (y<=hi)=false:=decide_eq_false (by omega)
 have f4:(Y1 == 0)=false:=beq_eq_false_iff_ne.2 (by omega)
 have Hs:=Lib.hid hs
 clear hs
 have hypos:Hid (0<y1*W+y0):=by show _<_;have:=HY1.out;unfold W;omega
 obtain ⟨q1,hq1⟩:∃ q1,(u*W+d1) / (y1*W+y0)=q1:=⟨_,rfl⟩
 have HQ1:=Lib.hid hq1
 have hq1b:q1<4294967296:=by rw [<- hq1];exact dg_lt (show d1<W by have:=HD1.out;unfold W;omega) (by have:=HU.out;have:=HYS.out;omega)
 clear hq1
 obtain ⟨Q1,hQ1⟩:∃ Q1:Int,Q1=(q1:Int):=⟨_,rfl⟩
 have b1 : 0<=Q1:=by omega
 have b2:Q1<4294967296:=by omega
 have HQ1I:=Lib.hid hQ1
 clear hQ1 hq1b
 obtain ⟨QA,hQA⟩:∃ QA,U / Y1=QA:=⟨_,rfl⟩
 obtain ⟨PA,hPA⟩:∃ PA,QA*Y1=PA:=⟨_,rfl⟩
 have g0 : 0<=QA:=by rw [<- hQA];exact Int.ediv_nonneg hu0 (by omega)
 have hdm:U=QA*Y1+U%Y1:=by rw [<- hQA];have:=Int.mul_ediv_add_emod U Y1;rw [Int.mul_comm] at this;omega
 have hm1 : 0<=U%Y1:=Int.emod_nonneg _ (by omega)
 have hm2:U%Y1<Y1:=Int.emod_lt_of_pos _ (by omega)
 rw [hPA] at hdm
 generalize U%Y1=RA at *
 have hPU:PA<=U:=by omega
 have hP0 : 0<=PA:=by rw [<- hPA];exact Int.mul_nonneg g0 (by omega)
 have hQU:QA<=4294967297:=by
  have hh:U<Y1*4294967298:=by have:=HYS.out;have:=HY1.out;have:=HY0.out;unfold W at this;omega
  have h5:=Int.ediv_lt_of_lt_mul (by omega) hh
  first | (rw [hQA] at h5;omega) | (rw [Int.mul_comm] at hh;have h6:=Int.ediv_lt_of_lt_mul (by omega) hh;rw [hQA] at h6;omega)
 obtain ⟨qa,hqa⟩:∃ qa:Nat,QA=(qa:Int):=⟨QA.toNat,by omega⟩
 obtain ⟨ra,hra⟩:∃ ra:Nat,RA=(ra:Int):=⟨RA.toNat,by omega⟩
 have HQA:Hid (qa*y1+ra=u):=by
  show _=_
  have h1:=HY1.out;have h2:=HU.out
  rw [<- hPA,hqa,hra,h1,h2] at hdm
  have:((qa*y1+ra:Nat):Int)=(u:Int):=by rw [Int.natCast_add,Int.natCast_mul];exact hdm.symm
  exact Int.ofNat.inj this
 have hle:Hid (q1<=qa):=by
  show _<=_
  have h3:u / y1=qa:=by
   have:=hQA;rw [HU.out,HY1.out,hqa] at this
   exact Int.ofNat.inj ((Int.natCast_ediv ..).trans this)
  rw [<- HQ1.out, <- h3]
  exact dg_ge (by decide) (by have:=HY1.out;omega) (show d1<W by have:=HD1.out;unfold W;omega)
 have e8:=hQA
 have e9:=hPA
 have n1:Hid (U-PA=RA):=by show _=_;omega
 have Hqa:=Lib.hid hqa
 have Hra:=Lib.hid hra
 have HQAe:=Lib.hid hQA
 clear hqa hra hQA hPA hdm
 go_enter Tryz.func150,Tryz.ntmps150
 go_upto_block 0 with (go_at_call 168;refine (pS y hy _).mono ?_;rintro e w' ⟨rfl,rfl⟩;rw [<- Hs.out])
 rw [n1.out]
 go_cut [15,16] (fun a _ wx=>a = .int .u64 Q1/\w=wx)
 case first=>
  clear e1 e2 e3 e4 e5 e6 e7 e8 e9 f1 f2 f3 f4
  go_wp2_with fail
  go_loop [15,16] (fun a b=>∃ (q r:Nat) (QN RN:Int),a = .int .u64 QN/\b = .int .u64 RN/\Hid (QN=(q:Int))/\Hid (RN=(r:Int))/\Hid (q*y1+r=u)/\Hid (q1<=q)/\0<=QN/\QN<=4294967297/\0<=RN/\RN<4294967296) (fun a _=>(intOf a).toNat)
  case atStart=>exact ⟨qa,ra,QA,RA,congrArg (Value.int IntKind.u64) HQAe.out,rfl,Hqa,Hra,HQA,hle,g0,hQU,hm1,by omega⟩
  case round=>
   clear HQA hle Hqa Hra
   obtain ⟨q,r,QN,RN,rfl,rfl,hQN,hRN,hqr,hle,hq0,hub,hr0,hrb⟩:=hrel
   obtain ⟨P,hP⟩:∃ P,q*y0=P:=⟨_,rfl⟩
   obtain ⟨PI,hPI⟩:∃ PI:Int,PI=(P:Int):=⟨_,rfl⟩
   have eP:QN*Y0=PI:=by rw [hQN.out,HY0.out,hPI, <- hP];exact (Int.natCast_mul ..).symm
   have bP:q<4294967296->P<=18446744065119617025:=fun h=>by rw [<- hP];exact Nat.mul_le_mul (show q<=4294967295 by omega) (show y0<=4294967295 by have:=HY0.out;omega)
   have HPq:=Lib.hid hP
   have HPI:=Lib.hid hPI
   clear hP hPI
   by_cases hgo : 4294967296<=q\/(q<4294967296/\4294967296*r+d1<P)
   · have hq1:q1+1<=q:=by
      rcases hgo with h | ⟨_,h⟩
      · have:=HQ1I.out;omega
      · rw [<- HQ1.out];exact dg_dec hqr.out (by rw [HPq.out];exact h)
     have hqr2:Hid ((q-1)*y1+(r+y1)=u):=by
      show _=_
      obtain ⟨q',rfl⟩:∃ q',q=q'+1:=⟨q-1,by omega⟩
      have:=hqr.out
      rw [Nat.add_mul,Nat.one_mul] at this
      rw [Nat.add_sub_cancel];omega
     have Hq1:=Lib.hid hq1
     clear hq1 hle
     have hQ1:=hQN.out
     have hR1:=hRN.out
     have hY:=HY1.out
     have hD:=HD1.out
     have hPP:=HPI.out
     rcases hgo with hA | ⟨hA,ht⟩
     rotate_left
     replace bP:=bP hA
     replace bP:PI<=18446744065119617025:=by omega
     have bP0 : 0<=PI:=by omega
     replace hA:QN<4294967296:=by omega
     replace ht : 4294967296*RN+D1<PI:=by omega
     rotate_left
     clear bP eP
     replace hA:(4294967296:Int)<=QN:=by omega
     all_goals
      by_cases hbr:(4294967296:Int)<=RN+Y1
      · have hend:QN-1=Q1:=by
         have h1:=nQ (d:=d1) hypos.out hqr2.out (dg_stop2 (show W<=r+y1 by unfold W;omega) (show q-1<=W by unfold W;omega) (show y0<W by have:=HY0.out;unfold W;omega))
         rw [HQ1.out] at h1
         have:=HQ1I.out
         have:=Hq1.out
         omega
        have HE:=Lib.hid hend
        have hw3 : 0<=QN-1:=by have:=Hq1.out;omega
        clear hend hqr hqr2 HPq hQ1 hR1 hY hD hPP
        go_wp2_with fail
        go_meet
        exact ⟨congrArg (Value.int IntKind.u64) HE.out,rfl⟩
      · have hbr':RN+Y1<4294967296:=by omega
        have hw:Hid (RN+Y1=((r+y1:Nat):Int)):=by show _=_;omega
        have hw2:Hid (QN-1=((q-1:Nat):Int)):=by show _=_;have:=Hq1.out;omega
        have hw3 : 0<=QN-1:=by have:=Hq1.out;omega
        clear hbr hQ1 hR1 hY hD hPP hqr HPq
        go_wp2_with fail
        go_round
        case rel=>exact ⟨q-1,r+y1,QN-1,RN+Y1,by go_num,by go_num,hw2,hw,hqr2,show Hid _ from (by show _<=_;have:=Hq1.out;omega),by omega,by omega,by omega,by omega⟩
        case measure=>simp [intOf];omega
   · have hQ1:=hQN.out
     have hR1:=hRN.out
     have hD:=HD1.out
     have hPP:=HPI.out
     have hA:q<4294967296:=by omega
     have ht:P<=4294967296*r+d1:=by omega
     have hend:QN=Q1:=by
      have h1:=nQ (d:=d1) hypos.out hqr.out (by rw [HPq.out];exact ht)
      rw [HQ1.out] at h1
      have:=HQ1I.out
      have:=hle.out
      omega
     have HE:=Lib.hid hend
     replace bP:=bP hA
     replace bP:PI<=18446744065119617025:=by omega
     have bP0 : 0<=PI:=by omega
     replace ht:PI<=4294967296*RN+D1:=by omega
     replace hA:QN<4294967296:=by omega
     clear hend hle hqr HPq hgo hQ1 hR1 hD hPP
     go_wp2_with fail
     go_meet
     exact ⟨by rw [HE.out],rfl⟩
 case rest=>
  obtain ⟨rfl,rfl⟩:=hcut
  obtain ⟨v,hv⟩:∃ v,(u*W+d1)%(y1*W+y0)=v:=⟨_,rfl⟩
  have hvy:v<y1*W+y0:=by rw [<- hv];exact Nat.mod_lt _ hypos.out
  have hdm:u*W+d1=q1*(y1*W+y0)+v:=by
   have:=Nat.div_add_mod (u*W+d1) (y1*W+y0)
   rw [HQ1.out,hv,Nat.mul_comm] at this
   exact this.symm
  obtain ⟨V,hV⟩:∃ V:Int,V=(v:Int):=⟨_,rfl⟩
  have gv0 : 0<=V:=by omega
  have gv1:V<YS:=by have:=HYS.out;omega
  have g1:IntKind.u64.wrap (IntKind.u64.wrap (IntKind.u64.wrap (U*4294967296)+D1)-IntKind.u64.wrap (Q1*YS))=V:=by
   rw [HU.out,HD1.out,HQ1I.out,HYS.out,hV]
   exact wrap_rem hdm (show v<18446744073709551616 by omega)
  have HV:=Lib.hid hv
  have HDM:=Lib.hid hdm
  have HVI:=Lib.hid hV
  clear hv hdm hV hvy
  obtain ⟨q0s,hq0⟩:∃ q0s,(v*W+d0) / (y1*W+y0)=q0s:=⟨_,rfl⟩
  have HZ1:=Lib.hid hq0
  have hq0b:q0s<4294967296:=by rw [<- hq0];exact dg_lt (show d0<W by have:=HD0.out;unfold W;omega) (by have:=HVI.out;have:=HYS.out;omega)
  clear hq0
  obtain ⟨Q0S,hQ0S⟩:∃ Q0S:Int,Q0S=(q0s:Int):=⟨_,rfl⟩
  have c1 : 0<=Q0S:=by omega
  have c2:Q0S<4294967296:=by omega
  have HZ1I:=Lib.hid hQ0S
  clear hQ0S hq0b
  obtain ⟨QB,hQB⟩:∃ QB,V / Y1=QB:=⟨_,rfl⟩
  obtain ⟨PB,hPB⟩:∃ PB,QB*Y1=PB:=⟨_,rfl⟩
  have k0 : 0<=QB:=by rw [<- hQB];exact Int.ediv_nonneg gv0 (by omega)
  have hdm:V=QB*Y1+V%Y1:=by rw [<- hQB];have:=Int.mul_ediv_add_emod V Y1;rw [Int.mul_comm] at this;omega
  have km1 : 0<=V%Y1:=Int.emod_nonneg _ (by omega)
  have km2:V%Y1<Y1:=Int.emod_lt_of_pos _ (by omega)
  rw [hPB] at hdm
  generalize V%Y1=RB at *
  have hPV:PB<=V:=by omega
  have hPB0 : 0<=PB:=by rw [<- hPB];exact Int.mul_nonneg k0 (by omega)
  have hQBu:QB<=4294967297:=by
   have hh:V<Y1*4294967298:=by have:=HYS.out;have:=HY1.out;have:=HY0.out;unfold W at this;omega
   have h5:=Int.ediv_lt_of_lt_mul (by omega) hh
   first | (rw [hQB] at h5;omega) | (rw [Int.mul_comm] at hh;have h6:=Int.ediv_lt_of_lt_mul (by omega) hh;rw [hQB] at h6;omega)
  obtain ⟨qb,hqb⟩:∃ qb:Nat,QB=(qb:Int):=⟨QB.toNat,by omega⟩
  obtain ⟨rb,hrb⟩:∃ rb:Nat,RB=(rb:Int):=⟨RB.toNat,by omega⟩
  have HQB:Hid (qb*y1+rb=v):=by
   show _=_
   have h1:=HY1.out;have h2:=HVI.out
   rw [<- hPB,hqb,hrb,h1,h2] at hdm
   have:((qb*y1+rb:Nat):Int)=(v:Int):=by rw [Int.natCast_add,Int.natCast_mul];exact hdm.symm
   exact Int.ofNat.inj this
  have hle2:Hid (q0s<=qb):=by
   show _<=_
   have h3:v / y1=qb:=by
    have:=hQB;rw [HVI.out,HY1.out,hqb] at this
    exact Int.ofNat.inj ((Int.natCast_ediv ..).trans this)
   rw [<- HZ1.out, <- h3]
   exact dg_ge (by decide) (by have:=HY1.out;omega) (show d0<W by have:=HD0.out;unfold W;omega)
  have g2:=hQB
  have g3:=hPB
  have n2:Hid (V-PB=RB):=by show _=_;omega
  have Hqb:=Lib.hid hqb
  have Hrb:=Lib.hid hrb
  have HQBe:=Lib.hid hQB
  clear hqb hrb hQB hPB hdm e1 e2 e3 e4 e5 e6 e7 e8 e9
  go_upto_block 2 with (fail)
  rw [n2.out]
  go_cut [18,16] (fun a _ wx=>a = .int .u64 Q0S/\w=wx)
  case first=>
   clear f1 f2 f3 f4 g1 g2 g3
   go_wp2_with fail
   go_loop [18,16] (fun a b=>∃ (q r:Nat) (QN RN:Int),a = .int .u64 QN/\b = .int .u64 RN/\Hid (QN=(q:Int))/\Hid (RN=(r:Int))/\Hid (q*y1+r=v)/\Hid (q0s<=q)/\0<=QN/\QN<=4294967297/\0<=RN/\RN<4294967296) (fun a _=>(intOf a).toNat)
   case atStart=>exact ⟨qb,rb,QB,RB,congrArg (Value.int IntKind.u64) HQBe.out,rfl,Hqb,Hrb,HQB,hle2,k0,hQBu,km1,by omega⟩
   case round=>
    clear HQB hle2 Hqb Hrb
    obtain ⟨q,r,QN,RN,rfl,rfl,hQN,hRN,hqr,hle,hq0,hub,hr0,hrb⟩:=hrel
    obtain ⟨P,hP⟩:∃ P,q*y0=P:=⟨_,rfl⟩
    obtain ⟨PI,hPI⟩:∃ PI:Int,PI=(P:Int):=⟨_,rfl⟩
    have eP:QN*Y0=PI:=by rw [hQN.out,HY0.out,hPI, <- hP];exact (Int.natCast_mul ..).symm
    have bP:q<4294967296->P<=18446744065119617025:=fun h=>by rw [<- hP];exact Nat.mul_le_mul (show q<=4294967295 by omega) (show y0<=4294967295 by have:=HY0.out;omega)
    have HPq:=Lib.hid hP
    have HPI:=Lib.hid hPI
    clear hP hPI
    by_cases hgo : 4294967296<=q\/(q<4294967296/\4294967296*r+d0<P)
    · have hq0s:q0s+1<=q:=by
       rcases hgo with h | ⟨_,h⟩
       · have:=HZ1I.out;omega
       · rw [<- HZ1.out];exact dg_dec hqr.out (by rw [HPq.out];exact h)
      have hqr2:Hid ((q-1)*y1+(r+y1)=v):=by
       show _=_
       obtain ⟨q',rfl⟩:∃ q',q=q'+1:=⟨q-1,by omega⟩
       have:=hqr.out
       rw [Nat.add_mul,Nat.one_mul] at this
       rw [Nat.add_sub_cancel];omega
      have Hq0s:=Lib.hid hq0s
      clear hq0s hle
      have hQ1:=hQN.out
      have hR1:=hRN.out
      have hY:=HY1.out
      have hD:=HD0.out
      have hPP:=HPI.out
      rcases hgo with hA | ⟨hA,ht⟩
      rotate_left
      replace bP:=bP hA
      replace bP:PI<=18446744065119617025:=by omega
      have bP0 : 0<=PI:=by omega
      replace hA:QN<4294967296:=by omega
      replace ht : 4294967296*RN+D0<PI:=by omega
      rotate_left
      clear bP eP
      replace hA:(4294967296:Int)<=QN:=by omega
      all_goals
       by_cases hbr:(4294967296:Int)<=RN+Y1
       · have hend:QN-1=Q0S:=by
          have h1:=nQ (d:=d0) hypos.out hqr2.out (dg_stop2 (show W<=r+y1 by unfold W;omega) (show q-1<=W by unfold W;omega) (show y0<W by have:=HY0.out;unfold W;omega))
          rw [HZ1.out] at h1
          have:=HZ1I.out
          have:=Hq0s.out
          omega
         have HE:=Lib.hid hend
         have hw3 : 0<=QN-1:=by have:=Hq0s.out;omega
         clear hend hqr hqr2 HPq hQ1 hR1 hY hD hPP
         go_wp2_with fail
         go_meet
         exact ⟨congrArg (Value.int IntKind.u64) HE.out,rfl⟩
       · have hbr':RN+Y1<4294967296:=by omega
         have hw:Hid (RN+Y1=((r+y1:Nat):Int)):=by show _=_;omega
         have hw2:Hid (QN-1=((q-1:Nat):Int)):=by show _=_;have:=Hq0s.out;omega
         have hw3 : 0<=QN-1:=by have:=Hq0s.out;omega
         clear hbr hQ1 hR1 hY hD hPP hqr HPq
         go_wp2_with fail
         go_round
         case rel=>exact ⟨q-1,r+y1,QN-1,RN+Y1,by go_num,by go_num,hw2,hw,hqr2,show Hid _ from (by show _<=_;have:=Hq0s.out;omega),by omega,by omega,by omega,by omega⟩
         case measure=>simp [intOf];omega
    · have hQ1:=hQN.out
      have hR1:=hRN.out
      have hD:=HD0.out
      have hPP:=HPI.out
      have hA:q<4294967296:=by omega
      have ht:P<=4294967296*r+d0:=by omega
      have hend:QN=Q0S:=by
       have h1:=nQ (d:=d0) hypos.out hqr.out (by rw [HPq.out];exact ht)
       rw [HZ1.out] at h1
       have:=HZ1I.out
       have:=hle.out
       omega
      have HE:=Lib.hid hend
      replace bP:=bP hA
      replace bP:PI<=18446744065119617025:=by omega
      have bP0 : 0<=PI:=by omega
      replace ht:PI<=4294967296*RN+D0:=by omega
      replace hA:QN<4294967296:=by omega
      clear hend hle hqr HPq hgo hQ1 hR1 hD hPP
      go_wp2_with fail
      go_meet
      exact ⟨by rw [HE.out],rfl⟩
  case rest=>
   obtain ⟨rfl,rfl⟩:=hcut
   go_wp2_with fail
   go_ret2
   refine ⟨?_,0,rfl⟩
   show Ending.returned (.tuple #[.int .u64 (Q1*4294967296+Q0S),.int .u64 (IntKind.u64.wrap (IntKind.u64.wrap (IntKind.u64.wrap (V*4294967296)+D0)-IntKind.u64.wrap (Q0S*YS)) / 2^s)])=_
   have hd2:v*W+d0=q0s*(y1*W+y0)+(v*W+d0)%(y1*W+y0):=by
    have:=Nat.div_add_mod (v*W+d0) (y1*W+y0)
    rw [HZ1.out,Nat.mul_comm] at this
    exact this.symm
   obtain ⟨a1,a2⟩:=dived_end HDM.out hd2 HN.out HY.out (by omega)
   have hr2:(v*W+d0)%(y1*W+y0)<B:=by
    have h1:(v*W+d0)%(y1*W+y0)<y1*W+y0:=Nat.mod_lt _ hypos.out
    have h2:=HYS.out
    show _<18446744073709551616
    omega
   rw [HVI.out,HD0.out,HZ1I.out,HYS.out,wrap_rem hd2 hr2,nI,HQ1I.out]
   have h3:((q1:Int)*4294967296+(q0s:Int))=((q1*W+q0s:Nat):Int):=by rw [Int.natCast_add,Int.natCast_mul];rfl
   rw [h3,a1]
   show _=Ending.returned (.tuple #[.int .u64 (eK hi lo y:Int),.int .u64 (mZ hi lo y:Int)])
   rw [<- a2];rfl
theorem tU (hi lo y:Nat) (hl:lo<B) (hy:y<B) (hlt:hi<y) (w:World) :
 Calls Tryz.prog 150 #[.int .u64 (hi:Int),.int .u64 (lo:Int),.int .u64 (y:Int)] w (Dived w hi lo y):=by
 rcases Nat.eq_zero_or_pos hi with h0 | h0
 · subst h0;exact div64_zero lo y hl hy (by omega) w
 · have hL:=gH y hy
   obtain ⟨s1,s2,s3⟩:=W8 (y+1) y (by omega) (by omega) (by rw [<- bD];exact hy)
   obtain ⟨s,hs⟩:∃ s,s=64-Lib.bitLen y:=⟨_,rfl⟩
   have hp : 0<2^s:=Nat.two_pow_pos s
   have hlen:Lib.bitLen y=64-s:=by omega
   rw [hlen] at s1 s2 s3
   have hBs:=T0 (p:=s) (by omega)
   have hysB:y*2^s<B:=by rw [hBs];exact Nat.mul_lt_mul_of_pos_right s2 hp
   have hysl : 9223372036854775808<=y*2^s:=by
    have : 2^(64-s-1)*2^s<=y*2^s:=Nat.mul_le_mul_right _ s1
    rw [<- Nat.pow_add,show 64-s-1+s=63 from by omega] at this
    exact this
   have hhi:hi*2^s<B:=Nat.lt_trans (Nat.mul_lt_mul_of_pos_right hlt hp) hysB
   have hlo:lo / 2^(64-s)<2^s:=uO hl (by omega)
   have hu:hi*2^s+lo / 2^(64-s)<y*2^s:=by
    have:(hi+1)*2^s<=y*2^s:=Nat.mul_le_mul_right _ hlt
    rw [Nat.add_mul,Nat.one_mul] at this;omega
   have hysB:y*2^s<18446744073709551616:=hysB
   have hls:lo*2^s%B<18446744073709551616:=Nat.mod_lt _ D6
   have e1:IntKind.u64.wrap ((y:Int)*2^s)=((y*2^s:Nat):Int):=by
    rw [<- Mul64.wrapN _ hysB,Int.natCast_mul,Int.natCast_pow];rfl
   have e2:IntKind.u64.wrap ((lo:Int)*2^s)=((lo*2^s%B:Nat):Int):=by
    rw [IntKind.wrap_u64,Int.natCast_emod,Int.natCast_mul,Int.natCast_pow];rfl
   have e3:bits .or .u64 (IntKind.u64.wrap ((hi:Int)*2^s)) ((lo:Int) / 2^(64-s))=((hi*2^s+lo / 2^(64-s):Nat):Int):=by
    have h1:IntKind.u64.wrap ((hi:Int)*2^s)=((hi*2^s:Nat):Int):=by
     rw [<- Mul64.wrapN _ (show hi*2^s<18446744073709551616 from hhi),Int.natCast_mul,Int.natCast_pow];rfl
    rw [h1,nI]
    show bits .or .u64 _ ((lo / 2^(64-s):Nat):Int)=_
    rw [bits_or_u64_nat _ _ hhi (Nat.lt_trans (Nat.lt_of_lt_of_le hlo (by have h5 : 2^s<=2^63:=Nat.pow_le_pow_right (by omega) (by omega);exact h5)) (by decide)), <- Nat.shiftLeft_eq,Nat.shiftLeft_add_eq_or_of_lt hlo]
   refine div64_core hi lo y s (hi*2^s+lo / 2^(64-s)) (y*2^s / 4294967296) (y*2^s%4294967296) (lo*2^s%B / 4294967296) (lo*2^s%B%4294967296) _ _ _ _ _ _ _ w h0 hlt hs hy (by omega) e1 e2 e3
    (Mul64.maskN _ hysB) (Mul64.divN _) (Mul64.maskN _ hls) (Mul64.divN _) ?_ ?_ ?_ ?_ ?_ ?_ ?_ ?_ ?_ ?_ ?_ rfl rfl rfl rfl rfl ?_ ?_ ?_
   all_goals try omega
   · exact Int.natCast_nonneg _
   · refine (show _=_ from ?_)
     rw [show W=4294967296 from rfl,Nat.div_add_mod']
   · refine (show _=_ from ?_)
     rw [show W=4294967296 from rfl,Nat.div_add_mod']
     have h1:lo / 2^(64-s)=lo*2^s / B:=sP (by omega)
     have h2:=Nat.div_add_mod' (lo*2^s) B
     rw [h1]
     generalize lo*2^s / B=c at *
     generalize lo*2^s%B=d at *
     rw [Nat.add_mul,Nat.add_assoc,h2,Nat.add_mul,Nat.mul_right_comm]
   · refine (show _=_ from ?_)
     rw [show W=4294967296 from rfl,Nat.div_add_mod']
theorem sub_eq {x y c:Nat} (hx:x<B) (hy:y<B) (hc:c<=1):S2 x y c+y+c=x+aA x y c*B:=by
 unfold S2 aA
 split
 · rw [Nat.mod_eq_of_lt (by omega)];omega
 · have:x+B-y-c=(x-y-c)+B:=by omega
   rw [this,Nat.add_mod_right,Nat.mod_eq_of_lt (by omega)];omega
theorem taken_step (k v x y by' ad br s t:Nat) (hx:x<B) (hbr:br<=1) (h:v+t=s+(br+ad)*B^k) :
 v+B^k*S2 x (E7 (C8 y by') ad 0) br+(t+B^k*(y*by'))=s+B^k*x+(aA x (E7 (C8 y by') ad 0) br+(R1 y by'+G6 (C8 y by') ad 0))*B^(k+1):=by
 have e1:=kZ y by'
 have e2:E7 (C8 y by') ad 0+B*G6 (C8 y by') ad 0=C8 y by'+ad+0:=Nat.mod_add_div ..
 have e3:=sub_eq (y:=E7 (C8 y by') ad 0) hx (eO _ _ _) hbr
 generalize S2 x (E7 (C8 y by') ad 0) br=z at *
 generalize aA x (E7 (C8 y by') ad 0) br=b2 at *
 generalize E7 (C8 y by') ad 0=r2 at *
 generalize G6 (C8 y by') ad 0=c2 at *
 generalize C8 y by'=r1 at *
 generalize R1 y by'=q1 at *
 rw [<- e1,Nat.pow_succ]
 generalize B^k=T at *
 have e4:T*z+T*r2+T*br=T*x+T*(b2*B):=by rw [<- Nat.mul_add, <- Nat.mul_add,e3,Nat.mul_add]
 grind
def qZ (w:World) (b off:Nat) (xs ys:List Nat) (by':Nat) (cs:Array Value) (e:Ending) (w':World):Prop:=
 ∃ (br:Nat) (zs:List Nat) (cs':Array Value),e = .returned (.int .u64 (br:Int))/\Blk w' b cs'/\tZ cs cs' off zs/\w.grownBy w' (some b)/\zs.length=ys.length+1/\Dig B zs/\br<=1/\val B zs+val B ys*by'=val B xs+br*B^(ys.length+1)
set_option maxHeartbeats 2000000 in
theorem oC (w:World) (b off n cap:Nat) (xs:List Nat) (cs:Array Value) (sa:Option Addr) (m cap2:Nat) (ys:List Nat) (by':Nat) (hn:xs.length=n) (hmm:ys.length=m)
 (hb:Blk w b cs) (hx:At cs off xs) (hs:Rd w sa ys b) (hl:n=m+1) (hm:n<=1099511627776) (dx:Dig B xs) (dy:Dig B ys) (hby:by'<B) :
 Calls Tryz.prog 172 #[.slice (some ⟨b,off,none⟩) n cap,.slice sa m cap2,.int .u64 (by':Int)] w (qZ w b off xs ys by' cs):=by
 subst hl
 have Hn:=Lib.hid hn
 have Hm:=Lib.hid hmm
 clear hn hmm
 go_enter Tryz.func172,Tryz.ntmps172
 go_wp2_with fail
 go_loopw [7,8,16] (fun c d i wr=>∃ (k ad br:Nat) (zs:List Nat),k<=m/\i = .int .i64 k/\c = .int .u64 ad/\d = .int .u64 br/\ad<B/\br<=1/\Hid (zs.length=k)/\Dig B zs/\Blk wr b (Put cs off zs)/\w.grownBy wr (some b)/\Hid (val B zs+val B (ys.take k)*by'=val B (xs.take k)+(br+ad)*B^k))
  (fun _ _ i _=>m-(intOf i).toNat)
 case atStart=>exact ⟨0,0,0,[],Nat.zero_le _,rfl,rfl,rfl,D6,Nat.zero_le _,rfl,Dig.nil _,hb,A9 _ _,by show _=_;simp [val]⟩
 case round=>
  obtain ⟨k,ad,br,zs,hk,rfl,rfl,rfl,hc,hbr,hzl,hzd,hbk,hg,hv⟩:=hrel
  by_cases hlt:k<m
  · obtain ⟨x,ex⟩:∃ x,xs[k]'(by rw [Hn.out];omega)=x:=⟨_,rfl⟩
    obtain ⟨y,ey⟩:∃ y,ys[k]'(by rw [Hm.out];omega)=y:=⟨_,rfl⟩
    have hxB:x<B:=ex ▸ dx.get k _
    have hyB:y<B:=ey ▸ dy.get k _
    obtain ⟨b2,off2,cs2,rfl,hne,h2,hy⟩:=hs.get k (by rw [Hm.out];omega)
    have cx:wr.cell? ⟨b,off+k,none⟩=some (.int .u64 (x:Int)):=by
     rw [hbk.cell,J6 _ _ _ _ (by rw [hzl.out];omega),hx k (by rw [Hn.out];omega),ex]
    have cy:wr.cell? ⟨b2,off2+k,none⟩=some (.int .u64 (y:Int)):=by
     rw [(h2.kept hg (by simpa using hne)).cell,hy k (by rw [Hm.out];omega),ey]
    have fx:wr.frozen? ⟨b,off+k,none⟩=false:=hbk.frozen _
    have EX:=Lib.hid ex
    have EY:=Lib.hid ey
    clear ex ey
    have ha1:∀ w,(callFunc 165 #[.int .u64 (C8 y by':Int),.int .u64 (ad:Int),.int .u64 0]).run Tryz.prog w = .ok (.value (.tuple #[.int .u64 (E7 (C8 y by') ad 0:Int),.int .u64 (G6 (C8 y by') ad 0:Int)])) w:=fun w=>tY _ _ 0 (Nat.zero_le _) w
    have ha2:=fun w=>sub64 x (E7 (C8 y by') ad 0) br hbr w
    obtain ⟨b1,_⟩:=kY (x:=0) D6 hyB hby hc
    have b2':=b1
    have b1:R1 y by'+G6 (C8 y by') ad 0<18446744073709551616:=b1
    go_wp2_with (go_at_call 164;refine (bQ y by' hyB hby _).mono ?_;rintro e w' ⟨rfl,rfl⟩)
    clear ha1 ha2 cx cy fx
    go_roundw
    case rel=>
     refine ⟨k+1,R1 y by'+G6 (C8 y by') ad 0,aA x (E7 (C8 y by') ad 0) br,zs++[S2 x (E7 (C8 y by') ad 0) br],by omega,by go_num,by go_num,rfl,b2',iZ _ _ _, ?_,hzd.snoc (iY _ _ _), ?_,B2 hg _ _, ?_⟩
     · show _=_;rw [List.length_append,hzl.out];rfl
     · rw [P3,hzl.out];exact hbk.setCell _ _
     · show _=_
       rw [F8,hzl.out,C0 B xs k (by rw [Hn.out];omega),C0 B ys k (by rw [Hm.out];omega),EX.out,EY.out,Nat.add_mul (val B (ys.take k)),Nat.mul_assoc (B^k)]
       exact taken_step k _ x y by' ad br _ _ hxB hbr hv.out
    case measure=>simp [intOf];omega
  · obtain rfl:k=m:=by omega
    obtain ⟨x,ex⟩:∃ x,xs[k]'(by rw [Hn.out];omega)=x:=⟨_,rfl⟩
    have hxB:x<B:=ex ▸ dx.get k _
    have cx:wr.cell? ⟨b,off+k,none⟩=some (.int .u64 (x:Int)):=by
     rw [hbk.cell,J6 _ _ _ _ (by rw [hzl.out];omega),hx k (by rw [Hn.out];omega),ex]
    have fx:wr.frozen? ⟨b,off+k,none⟩=false:=hbk.frozen _
    have hsz:off+(k+1)<=cs.size:=by
     rcases hx.le with h | h
     · exfalso;have:=Hn.out;rw [h] at this;simp at this
     · rw [Hn.out] at h;omega
    have HF:Hid (qZ w b off xs ys by' cs (.returned (.int .u64 (aA x ad br:Int))) (wr.setCell ⟨b,off+k,none⟩ (.int .u64 (S2 x ad br:Int)))):=by
     have hb2:=hbk.setCell (off+k) (.int .u64 (S2 x ad br:Int))
     have hp:(Put cs off zs).setIfInBounds (off+k) (.int .u64 (S2 x ad br:Int))=Put cs off (zs++[S2 x ad br]):=by rw [P3,hzl.out]
     rw [hp] at hb2
     have hlen:(zs++[S2 x ad br]).length=k+1:=by rw [List.length_append,hzl.out];rfl
     refine ⟨_,zs++[S2 x ad br],_,rfl,hb2,⟨dQ _ _ _,fun j hj=>J6 _ _ _ _ hj,iR _ _ _ (by rw [hlen];exact hsz)⟩,B2 hg _ _,by rw [hlen,Hm.out],hzd.snoc (iY _ _ _),iZ _ _ _, ?_⟩
     have h1:=hv.out
     rw [<- Hm.out,List.take_length,Hm.out] at h1
     have h2:val B xs=val B (xs.take k)+B^k*x:=by
      have:=C0 B xs k (by rw [Hn.out];omega)
      rw [ex,List.take_of_length_le (by rw [Hn.out];omega)] at this;exact this
     have h3:=sub_eq hxB hc hbr
     rw [F8,hzl.out,Hm.out,h2,Nat.pow_succ]
     generalize S2 x ad br=z at *
     generalize aA x ad br=b3 at *
     generalize B^k=T at *
     have e4:T*z+T*ad+T*br=T*x+T*(b3*B):=by rw [<- Nat.mul_add, <- Nat.mul_add,h3,Nat.mul_add]
     clear ex
     grind
    have ha:=fun w=>sub64 x ad br hbr w
    clear hbk hg hv hzl hzd ex
    go_wp2_with fail
    go_ret
    exact HF
theorem W5 (l:List Nat) (i:Nat) (h:i<l.length):l[i]=l.getD i 0:=by rw [List.getD_eq_getElem?_getD,List.getElem?_eq_getElem h];rfl
theorem val_top3 {xs:List Nat} (dx:Dig B xs) (m:Nat) (hl:xs.length=m+3):val B xs<((xs.getD (m+2) 0*B+xs.getD (m+1) 0)*B+xs.getD m 0+1)*B^m:=by
 have h1:=G8 B xs (m+2) (by omega)
 have h2:=G8 B xs (m+1) (by omega)
 have h3:=G8 B xs m (by omega)
 have h4:=S1 B (xs.take m) (dx.take m)
 rw [List.length_take,Nat.min_eq_left (by omega)] at h4
 rw [List.take_of_length_le (by omega)] at h1
 generalize xs.getD (m+2) 0=t at *
 generalize xs.getD (m+1) 0=n at *
 generalize xs.getD m 0=h at *
 rw [h2,h3] at h1
 rw [h1]
 simp only [Nat.pow_succ]
 generalize B^m=T at *
 generalize val B (xs.take m)=v at *
 have:((t*B+n)*B+h+1)*T=T+T*h+T*B*n+T*B*B*t:=by grind
 rw [this]
 clear this h1 h2 h3
 generalize T*h=a at *
 generalize T*B*n=b at *
 generalize T*B*B*t=c at *
 omega
theorem val_top2 {xs:List Nat} (m:Nat) (hl:xs.length=m+2):(xs.getD (m+1) 0*B+xs.getD m 0)*B^m<=val B xs:=by
 have h2:=G8 B xs (m+1) (by omega)
 have h3:=G8 B xs m (by omega)
 rw [List.take_of_length_le (by omega)] at h2
 generalize xs.getD (m+1) 0=n at *
 generalize xs.getD m 0=h at *
 rw [h2,h3]
 simp only [Nat.pow_succ]
 generalize B^m=T at *
 have:(n*B+h)*T=T*h+T*B*n:=by grind
 rw [this];omega
theorem guess_first {u v t n h v1 v0 q l m:Nat} (hu:u<((t*B+n)*B+h+1)*B^m) (hv:(v1*B+v0)*B^m<=v) (hh:h<B) (hq:q*v1+l=t*B+n) (hl:l<v1):u<(q+1)*v:=by
 have h1:(q+1)*((v1*B+v0)*B^m)<=(q+1)*v:=Nat.mul_le_mul_left _ hv
 have h2:t*B+n+1<=(q+1)*v1:=by rw [Nat.add_mul,Nat.one_mul];omega
 have h3:(t*B+n+1)*B<=(q+1)*v1*B:=Nat.mul_le_mul_right _ h2
 have h4:(t*B+n)*B+h+1<=(q+1)*(v1*B+v0):=by
  have:(q+1)*(v1*B+v0)=(q+1)*v1*B+(q+1)*v0:=by grind
  rw [Nat.add_mul (t*B+n),Nat.one_mul] at h3
  omega
 have h5:=Nat.mul_le_mul_right (B^m) h4
 rw [Nat.mul_assoc (q+1)] at h5
 omega
theorem guess_next {u v t n h v1 v0 q l m:Nat} (hu:u<((t*B+n)*B+h+1)*B^m) (hv:(v1*B+v0)*B^m<=v) (hq:q*v1+l=t*B+n) (ht:l*B+h<q*v0):u<q*v:=by
 have h1:q*((v1*B+v0)*B^m)<=q*v:=Nat.mul_le_mul_left _ hv
 have h4:(t*B+n)*B+h+1<=q*(v1*B+v0):=by
  have e1:q*(v1*B+v0)=q*v1*B+q*v0:=by grind
  have e2:(t*B+n)*B=q*v1*B+l*B:=by rw [<- hq,Nat.add_mul]
  omega
 have h5:=Nat.mul_le_mul_right (B^m) h4
 rw [Nat.mul_assoc q] at h5
 omega
theorem words_lt {h lw l t p:Nat} (hp:lw+B*h=p) (hlw:lw<B) (ht:t<B):(l<h\/(h=l/\t<lw))->l*B+t<p:=by
 rintro (h1 | ⟨rfl,h1⟩)
 · have:B*(l+1)<=B*h:=Nat.mul_le_mul_left _ h1
   rw [Nat.mul_add,Nat.mul_one] at this
   rw [Nat.mul_comm l];omega
 · rw [Nat.mul_comm h];omega
def nX (w:World) (u v:Nat) (e:Ending) (w':World):Prop:=∃ q:Nat,e = .returned (.int .u64 (q:Int))/\q<B/\u<(q+1)*v/\w.grownBy w' none
set_option maxHeartbeats 4000000 in
theorem guess_any (w:World) (sx sy:Option Addr) (n cap cap2 m:Nat) (xs ys:List Nat) (hn:xs.length=n+1) (hm:ys.length=n) (hnm:n=m+2) (hx:Rdo w sx xs) (hy:Rdo w sy ys) (dx:Dig B xs) (dy:Dig B ys) (bn:n<=1099511627776)
 (hlt:val B xs<val B ys*B) :
 Calls Tryz.prog 171 #[.slice sx (n+1) cap,.slice sy n cap2] w (nX w (val B xs) (val B ys)):=by
 subst hnm
 obtain ⟨bb1,o1,rfl,cx⟩:=hx.cell (by omega)
 obtain ⟨bb2,o2,rfl,cy⟩:=hy.cell (by omega)
 have hu:=val_top3 dx m hn
 have hv:=val_top2 m hm
 have c1:=cx (m+2) (by omega)
 have c2:=cx (m+1) (by omega)
 have c3:=cx m (by omega)
 have d1:=cy (m+1) (by omega)
 have d0:=cy m (by omega)
 have g1:xs[m+2]'(by omega)=xs.getD (m+2) 0:=W5 _ _ (by omega)
 have g2:xs[m+1]'(by omega)=xs.getD (m+1) 0:=W5 _ _ (by omega)
 have g3:xs[m]'(by omega)=xs.getD m 0:=W5 _ _ (by omega)
 have g4:ys[m+1]'(by omega)=ys.getD (m+1) 0:=W5 _ _ (by omega)
 have g5:ys[m]'(by omega)=ys.getD m 0:=W5 _ _ (by omega)
 rw [g1] at c1
 rw [g2] at c2
 rw [g3] at c3
 rw [g4] at d1
 rw [g5] at d0
 have b1:=dx.getD D6 (m+2)
 have b2:=dx.getD D6 (m+1)
 have b3:=dx.getD D6 m
 have b4:=dy.getD D6 (m+1)
 have b5:=dy.getD D6 m
 clear g1 g2 g3 g4 g5 cx cy hx hy dx dy
 generalize xs.getD (m+2) 0=t at *
 generalize xs.getD (m+1) 0=nx at *
 generalize xs.getD m 0=h3 at *
 generalize ys.getD (m+1) 0=v1 at *
 generalize ys.getD m 0=v0 at *
 have HU:=Lib.hid hu
 have HV:=Lib.hid hv
 have HL:=Lib.hid hlt
 clear hu hv hlt hn hm
 by_cases hT:v1<=t
 · have HF:Hid (∀ w',w.grownBy w' none->nX w (val B xs) (val B ys) (.returned (.int .u64 18446744073709551615)) w'):=by
    intro w' hg
    refine ⟨18446744073709551615,rfl,by decide, ?_,hg⟩
    have:=HL.out
    rwa [Nat.mul_comm] at this
   have f1:decide (v1<=t)=true:=decide_eq_true hT
   go_enter Tryz.func171,Tryz.ntmps171
   go_wp2_with fail
   go_quiet (fail)
   go_wp2_with fail
   go_ret
   exact HF.out _ (D4 _ _ _)
 · have f1:decide (v1<=t)=false:=decide_eq_false hT
   go_enter Tryz.func171,Tryz.ntmps171
   go_wp2_with fail
   go_quiet (fail)
   go_wp2_with fail
   refine (tU t nx v1 b2 b4 (by omega) _).mono ?_
   rintro e w' ⟨rfl,q,rfl⟩
   have hq1:eK t nx v1*v1+mZ t nx v1=t*B+nx:=by unfold eK mZ;exact Nat.div_add_mod' ..
   have hr1:mZ t nx v1<v1:=Nat.mod_lt _ (by omega)
   have hq2:eK t nx v1<B:=by
    unfold eK
    rw [Nat.div_lt_iff_lt_mul (by omega)]
    have h5:B*(t+1)<=B*v1:=Nat.mul_le_mul_left _ (by omega)
    rw [Nat.mul_add,Nat.mul_comm] at h5
    omega
   have hG:=guess_first HU.out HV.out b3 hq1 hr1
   generalize eK t nx v1=qa at *
   generalize mZ t nx v1=ra at *
   have HQ1:=Lib.hid hq1
   have HG:=Lib.hid hG
   clear hq1 hG
   go_wp2_with (go_at_call 164;refine (bQ qa v0 hq2 b5 _).mono ?_;rintro e w' ⟨rfl,rfl⟩)
   have he0:=kZ qa v0
   have hl0:=mulLo_lt qa v0
   have HE0:=Lib.hid he0
   clear he0
   generalize R1 qa v0=hh at *
   generalize C8 qa v0=hw at *
   have hraB:ra<B:=Nat.lt_trans hr1 b4
   clear hr1 f1 hT
   go_loop [9,10,11,12] (fun a b c d=>∃ q l h lw:Nat,a = .int .u64 (q:Int)/\b = .int .u64 (l:Int)/\c = .int .u64 (h:Int)/\d = .int .u64 (lw:Int)/\q<B/\l<B/\lw<B/\Hid (lw+B*h=q*v0)/\Hid (q*v1+l=t*B+nx)/\Hid (val B xs<(q+1)*val B ys)) (fun a _ _ _=>(intOf a).toNat)
   case atStart=>exact ⟨qa,ra,hh,hw,rfl,rfl,rfl,rfl,hq2,hraB,hl0,HE0,HQ1,HG⟩
   case round=>
    clear hq2 hraB hl0 HE0 HQ1 HG
    obtain ⟨q,l,h,lw,rfl,rfl,rfl,rfl,hqB,hlB,hlwB,hp,hq,hg⟩:=hrel
    by_cases hgo:l<h\/(h=l/\h3<lw)
    · have hlt:=words_lt hp.out hlwB b3 hgo
      have hnext:Hid (val B xs<q*val B ys):=guess_next HU.out HV.out hq.out hlt
      have hq0 : 1<=q:=by
       rcases Nat.eq_zero_or_pos q with h0 | h0
       · rw [h0,Nat.zero_mul] at hlt;omega
       · exact h0
      obtain ⟨q,rfl⟩:∃ q',q=q'+1:=⟨q-1,by omega⟩
      have HQ2:Hid (q*v1+(l+v1)=t*B+nx):=by
       show _=_
       have:=hq.out
       rw [Nat.add_mul,Nat.one_mul] at this
       omega
      have hq1B:q<B:=by omega
      have hqN:q+1<18446744073709551616:=hqB
      clear hp hq hg hlt hqB hq0
      rcases hgo with hA | ⟨hA,hA2⟩
      rotate_left
      have t1:((h:Int) == (l:Int))=true:=beq_iff_eq.2 (by omega)
      have t0:decide (l<h)=false:=decide_eq_false (by omega)
      clear hA
      rotate_left
      all_goals
       by_cases hbr:l+v1<B
       · have hbr':l+v1<18446744073709551616:=hbr
         have t2:decide (l+v1<v1)=false:=decide_eq_false (by omega)
         go_wp2_with fail
         refine (bQ q v0 hq1B b5 _).mono ?_
         rintro e w' ⟨rfl,rfl⟩
         have he0:=Lib.hid (kZ q v0)
         have hl0:=mulLo_lt q v0
         go_wp2_with fail
         go_round
         case rel=>exact ⟨q,l+v1,R1 q v0,C8 q v0,by go_num,by go_num,rfl,rfl,hq1B,hbr,hl0,he0,HQ2,hnext⟩
         case measure=>simp [intOf]
       · obtain ⟨z,hz⟩:∃ z,l+v1=z+18446744073709551616:=⟨l+v1-18446744073709551616,by unfold B at hbr;omega⟩
         have hzv:z<v1:=by have:l<18446744073709551616:=hlB;omega
         have nz:IntKind.u64.wrap ((l:Int)+(v1:Int))=(z:Int):=by
          rw [IntKind.wrap_u64];have:v1<18446744073709551616:=b4;omega
         have t2:decide (z<v1)=true:=decide_eq_true hzv
         clear hz hbr
         go_wp2_with fail
         go_ret
         exact ⟨q,by go_num,hq1B,hnext.out,D4 _ _ _⟩
    · have t0:decide (l<h)=false:=decide_eq_false (by omega)
      have HF:Hid (∀ w',w.grownBy w' none->nX w (val B xs) (val B ys) (.returned (.int .u64 (q:Int))) w'):=fun w' hw=>⟨q,rfl,hqB,hg.out,hw⟩
      by_cases he:h=l
      · have t1:((h:Int) == (l:Int))=true:=beq_iff_eq.2 (by omega)
        have t3:decide (h3<lw)=false:=decide_eq_false (by omega)
        clear hgo he hp hq hg
        go_wp2_with fail
        go_ret
        exact HF.out _ (D4 _ _ _)
      · have t1:((h:Int) == (l:Int))=false:=beq_eq_false_iff_ne.2 (by omega)
        clear hgo he hp hq hg
        go_wp2_with fail
        go_ret
        exact HF.out _ (D4 _ _ _)
theorem gT (xs:List Nat) (j:Nat) (h:j<xs.length):val B (xs.drop j)=xs[j]+B*val B (xs.drop (j+1)):=by
 rw [List.drop_eq_getElem_cons h];rfl
def mR (w:World) (b off:Nat) (xs:List Nat) (y:Nat) (cs:Array Value) (e:Ending) (w':World):Prop:=
 ∃ (zs:List Nat) (cs':Array Value),e = .returned (.int .u64 ((val B xs%y:Nat):Int))/\Blk w' b cs'/\tZ cs cs' off zs/\w.grownBy w' (some b)/\zs.length=xs.length/\Dig B zs/\val B zs=val B xs / y
set_option maxHeartbeats 2000000 in
theorem eJ (w:World) (b off n cap:Nat) (xs:List Nat) (cs:Array Value) (y:Nat) (hn:xs.length=n) (hb:Blk w b cs) (hx:At cs off xs) (bn:n<=1099511627776) (dx:Dig B xs) (hy:y<B) (h0 : 0<y) :
 Calls Tryz.prog 111 #[.slice (some ⟨b,off,none⟩) n cap,.int .u64 (y:Int)] w (mR w b off xs y cs):=by
 have Hn:=Lib.hid hn
 clear hn
 go_enter Tryz.func111,Tryz.ntmps111
 go_wp2_with fail
 go_loopw [5,6] (fun r i wr=>∃ (k rr:Nat) (zs:List Nat) (cs2:Array Value),k<=n/\i = .int .i64 ((k:Int)-1)/\r = .int .u64 (rr:Int)/\rr<y/\Hid (zs.length=n-k)/\Dig B zs/\Blk wr b cs2/\Hid (cs2.size=cs.size)/\At cs2 off (xs.take k++zs)/\(∀ j,j<off\/off+n<=j->cs2[j]?=cs[j]?)/\w.grownBy wr (some b)/\Hid (val B zs*y+rr=val B (xs.drop k)))
  (fun _ i _=>(intOf i+1).toNat)
 case atStart=>exact ⟨n,0,[],cs,Nat.le_refl _,rfl,rfl,h0,by show _=_;simp,Dig.nil _,hb,rfl,by rw [List.append_nil,List.take_of_length_le (by rw [Hn.out];omega)];exact hx,fun _ _=>rfl,A9 _ _,by show _=_;rw [List.drop_eq_nil_of_le (by rw [Hn.out];omega)];simp [val]⟩
 case round=>
  obtain ⟨k,rr,zs,cs2,hk,rfl,rfl,hr,hzl,hzd,hbk,hcs,hat,hout,hg,hv⟩:=hrel
  by_cases h1:k=0
  · subst h1
    have HF:Hid (mR w b off xs y cs (.returned (.int .u64 (rr:Int))) wr):=by
     have h2:=hv.out
     rw [List.drop_zero] at h2
     have e1:val B xs%y=rr:=by rw [<- h2,Nat.mul_comm,Nat.mul_add_mod,Nat.mod_eq_of_lt hr]
     have e2:val B xs / y=val B zs:=by rw [<- h2,Nat.mul_comm,Nat.mul_add_div h0,Nat.div_eq_of_lt hr,Nat.add_zero]
     refine ⟨zs,cs2,by rw [e1],hbk,⟨hcs.out,fun j hj=>hout j (by have:=hzl.out;omega), ?_⟩,hg,by rw [hzl.out,Hn.out];omega,hzd,e2.symm⟩
     simpa using hat
    clear hv hbk hat hout hg hzl
    go_wp2_with fail
    go_ret
    exact HF
  · obtain ⟨j,rfl⟩:∃ j,k=j+1:=⟨k-1,by omega⟩
    clear h1
    obtain ⟨x,ex⟩:∃ x,xs[j]'(by rw [Hn.out];omega)=x:=⟨_,rfl⟩
    have hxB:x<B:=ex ▸ dx.get j _
    have cx:wr.cell? ⟨b,off+j,none⟩=some (.int .u64 (x:Int)):=by
     rw [hbk.cell,hat j (by rw [List.length_append,List.length_take,Hn.out];omega),List.getElem_append_left (by rw [List.length_take,Hn.out];omega),List.getElem_take,ex]
    have fx:wr.frozen? ⟨b,off+j,none⟩=false:=hbk.frozen _
    have e1:((j+1:Nat):Int)-1=(j:Int):=by omega
    rw [e1]
    clear e1
    have hdm:=Nat.div_add_mod (rr*B+x) y
    have hq:eK rr x y<B:=by
     unfold eK
     rw [Nat.div_lt_iff_lt_mul h0]
     have h5:B*(rr+1)<=B*y:=Nat.mul_le_mul_left _ hr
     rw [Nat.mul_add,Nat.mul_comm] at h5
     omega
    have hrr:mZ rr x y<y:=Nat.mod_lt _ h0
    have EX:=Lib.hid ex
    have HD:Hid (y*eK rr x y+mZ rr x y=rr*B+x):=hdm
    clear hdm ex
    go_wp2_with fail
    refine (tU rr x y hxB hy hr _).mono ?_
    rintro e w2 ⟨rfl,q,rfl⟩
    generalize eK rr x y=qq at *
    generalize mZ rr x y=r2 at *
    go_wp2_with fail
    go_roundw
    case rel=>
     refine ⟨j,r2,qq :: zs,cs2.setIfInBounds (off+j) (.int .u64 (qq:Int)),by omega,by go_num,rfl,hrr, ?_,Dig.cons hq hzd,hbk.drew.setCell _ _, ?_, ?_, ?_, ?_, ?_⟩
     · show _=_;rw [List.length_cons,hzl.out];omega
     · show _=_;rw [Array.size_setIfInBounds,hcs.out]
     · have h2:At cs2 off (xs.take j++([x]++zs)):=by
        rw [List.take_succ_eq_append_getElem (by rw [Hn.out];omega),EX.out,List.append_assoc] at hat;exact hat
       have:=h2.put_mid (Z:=[qq]) rfl
       rw [List.length_take,Nat.min_eq_left (by rw [Hn.out];omega)] at this
       exact this
     · intro i hi
       rw [Array.getElem?_setIfInBounds_ne (by omega)];exact hout i hi
     · exact B2 (A2 hg (D4 _ _ _)) _ _
     · show _=_
       rw [gT xs j (by rw [Hn.out];omega),EX.out, <- hv.out]
       have:=HD.out
       simp only [val]
       generalize val B zs=vz at *
       grind
    case measure=>simp [intOf]
theorem X8 (xs:List Nat) (j:Nat) (h:val B xs<B^j):val B (xs.take j)=val B xs:=by
 rcases Nat.lt_or_ge xs.length j with hl | hl
 · rw [List.take_of_length_le (by omega)]
 · have h1:=L4 B xs j hl
   have h2:val B (xs.drop j)=0:=by
    rcases Nat.eq_zero_or_pos (val B (xs.drop j)) with h0 | h0
    · exact h0
    · have:B^j*1<=B^j*val B (xs.drop j):=Nat.mul_le_mul_left _ h0
      omega
   rw [h2] at h1;omega
theorem rP (xs:List Nat) (j:Nat) (hj:j<=xs.length) (h:val B xs<B^j):val B (xs.drop j)=0:=by
 have h1:=L4 B xs j hj
 rw [X8 xs j h] at h1
 have hp : 0<B^j:=Nat.pow_pos D6
 rcases Nat.eq_zero_or_pos (val B (xs.drop j)) with h0 | h0
 · exact h0
 · have:=Nat.mul_pos hp h0;omega
theorem raised_fits {ys:List Nat} (dy:Dig B ys) (m s:Nat) (hm:ys.length=m+1) (ht:ys.getD m 0≠0) (hs:s=64-Lib.bitLen (ys.getD m 0)):val B ys*2^s<B^(m+1)/\B^m*2^s<=val B ys*2^s:=by
 have h1:=G8 B ys m (by omega)
 have h2:=S1 B (ys.take m) (dy.take m)
 rw [List.length_take,Nat.min_eq_left (by omega)] at h2
 rw [List.take_of_length_le (by omega)] at h1
 have h3:=dy.getD D6 m
 obtain ⟨_,s2,_⟩:=W8 (ys.getD m 0+1) (ys.getD m 0) (by omega) ht (by rw [<- bD];exact h3)
 have hL:=gH _ h3
 have hlen:Lib.bitLen (ys.getD m 0)=64-s:=by omega
 rw [hlen] at s2
 generalize ys.getD m 0=t at *
 have h4:(t+1)*2^s<=B:=by rw [T0 (p:=s) (by omega)];exact Nat.mul_le_mul_right _ s2
 constructor
 · have h5:val B ys<B^m*(t+1):=by rw [Nat.mul_add,Nat.mul_one];omega
   have h6:val B ys*2^s<B^m*(t+1)*2^s:=Nat.mul_lt_mul_of_pos_right h5 (Nat.two_pow_pos _)
   have h7:B^m*((t+1)*2^s)<=B^m*B:=Nat.mul_le_mul_left _ h4
   rw [Nat.pow_succ]
   rw [Nat.mul_assoc] at h6
   omega
 · refine Nat.mul_le_mul_right _ ?_
   have:B^m*1<=B^m*t:=Nat.mul_le_mul_left _ (by omega)
   omega
theorem guess_at (w:World) (sx sy:Option Addr) (N n cap cap2 m:Nat) (xs ys:List Nat) (hN:N=n+1) (hn:xs.length=n+1) (hm:ys.length=n) (hnm:n=m+2) (hx:Rdo w sx xs) (hy:Rdo w sy ys) (dx:Dig B xs) (dy:Dig B ys) (bn:n<=1099511627776)
 (hlt:val B xs<val B ys*B):Calls Tryz.prog 171 #[.slice sx N cap,.slice sy n cap2] w (nX w (val B xs) (val B ys)):=by
 subst hN;exact guess_any w sx sy n cap cap2 m xs ys hn hm hnm hx hy dx dy bn hlt
theorem Blk.set_row {w:World} {b g:Nat} {cs:Array Value} (h:Blk w b cs) (hne:b≠g) (o:Nat) (u:Value):Blk (w.setCell ⟨g,o,none⟩ u) b cs:=by
 unfold Blk at *
 rw [Below.heap_setCell _ _ _ _ hne];exact h
theorem long_step {T V Z Q q u L1 L2:Nat} (k2:L2+T*u=L1+T*Z) (hv6:Z+V*q=u):Q*(T*B)*V+L1=(q+B*Q)*T*V+L2:=by
 have e5:T*Z+T*(V*q)=T*u:=by rw [<- Nat.mul_add,hv6]
 have e6:L1=L2+T*(V*q):=by omega
 rw [e6];grind
theorem win_of {cs:Array Value} {L:List Nat} {i k:Nat} (h:At cs 0 L) (hk:i+k<=L.length):At cs i ((L.drop i).take k):=by
 have:=(h.drop i).take k
 rwa [Nat.zero_add] at this
theorem win_len {L:List Nat} {i k:Nat} (hk:i+k<=L.length):((L.drop i).take k).length=k:=by
 rw [List.length_take,List.length_drop];omega
theorem win_back {cs cs':Array Value} {L zs:List Nat} {i k:Nat} (h:At cs 0 L) (hk:i+k<=L.length) (hz:zs.length=k) (hat:At cs' i zs) (hout:∀ j,j<i\/i+k<=j->cs'[j]?=cs[j]?):At cs' 0 (L.take i++(zs++L.drop (i+k))):=by
 have hli:(L.take i).length=i:=by rw [List.length_take];omega
 refine At.append ?_ (At.append ?_ ?_)
 · intro j hj
   rw [hli] at hj
   rw [hout _ (by omega),h j (by omega),List.getElem_take]
 · rw [hli,Nat.zero_add];exact hat
 · intro j hj
   rw [List.length_drop] at hj
   rw [hli,hz,hout _ (by omega),List.getElem_drop]
   have:=h (i+k+j) (by omega)
   rwa [Nat.zero_add] at this ⊢
theorem win_val {L zs:List Nat} {i k u:Nat} (hk:i+k<=L.length) (hz:zs.length=k) (hu:val B ((L.drop i).take k)=u) (h0:val B (L.drop i)<B^k) :
 val B ((L.take i++(zs++L.drop (i+k))).drop i)=val B zs/\val B (L.take i++(zs++L.drop (i+k)))+B^i*u=val B L+B^i*val B zs:=by
 have hli:(L.take i).length=i:=by rw [List.length_take];omega
 have h1:val B (L.drop (i+k))=0:=by
  have:=rP (L.drop i) k (by rw [List.length_drop];omega) h0
  rwa [List.drop_drop] at this
 have h2:val B (L.drop i)=u:=by rw [<- hu];exact (X8 _ _ h0).symm
 have e:(L.take i++(zs++L.drop (i+k))).drop i=zs++L.drop (i+k):=by
  rw [List.drop_append_of_le_length (by omega),List.drop_eq_nil_of_le (by omega),List.nil_append]
 have h3:val B (zs++L.drop (i+k))=val B zs:=by rw [O6,h1];simp
 refine ⟨by rw [e,h3], ?_⟩
 rw [O6,hli,h3,L4 B L i (by omega),h2];omega
def FreshAt (n:Nat) (s:Option Addr):Prop:=∀ ad,s=some ad->n<=ad.block/\ad=⟨ad.block,0,none⟩
theorem FreshAt.none (n:Nat):FreshAt n none:=fun _ e=>by cases e
theorem FreshAt.some {n g:Nat} (h:n<=g):FreshAt n (some ⟨g,0,Option.none⟩):=fun _ e=>by cases e;exact ⟨h,rfl⟩
theorem FreshAt.of {n g m:Nat} {s:Option Addr} (h:n<=g) (h1 : 0<m->s=Option.some ⟨g,0,Option.none⟩) (h2:m=0->s=Option.none):FreshAt n s:=by
 rcases Nat.eq_zero_or_pos m with e | e
 · rw [h2 e];exact FreshAt.none _
 · rw [h1 e];exact FreshAt.some h
def R6 (w:World) (a b:Nat) (n:Nat) (e:Ending) (w':World):Prop:=
 ∃ (sq sr:Option Addr) (nq cq nr cr:Nat) (qs rs:List Nat),e = .returned (.tuple #[.slice sq nq cq,.slice sr nr cr])/\qs.length=nq/\nq<=cq/\nq<=n+1/\rs.length=nr/\nr<=cr/\nr<=n+1 /\
   Rdo w' sq qs/\Rdo w' sr rs/\Dig B qs/\Dig B rs/\val B qs=a / b/\val B rs=a%b/\w.grownBy w' none/\FreshAt w.heap.size sr
set_option maxHeartbeats 8000000 in
theorem qI (w:World) (sa sb:Option Addr) (ca cb:Nat) (xs ys:List Nat) (m d:Nat) (hx:Lm w sa xs) (hy:Lm w sb ys) (hm:ys.length=m+2) (hn:xs.length=m+2+d) (bn:m+2+d<=1073741000) :
 Calls Tryz.prog 163 #[.slice sa (m+2+d) ca,.slice sb (m+2) cb] w (R6 w (val B xs) (val B ys) (m+2+d)):=by
 obtain ⟨b2,o2,rfl,cy⟩:=hy.rd.cell (by omega)
 obtain ⟨i0,hi,hz0,hz1,hz2⟩:=info_parts Tryz.infoU64
 obtain ⟨t,ht⟩:∃ t,ys.getD (m+1) 0=t:=⟨_,rfl⟩
 have ct:=cy (m+1) (by omega)
 rw [W5,ht] at ct
 have htB:t<B:=by rw [<- ht];exact hy.dig.getD D6 _
 have ht0:ys.getD (m+1) 0≠0:=by
  refine hy.top _ ?_
  rw [List.getLast?_eq_getElem?,hm,List.getD_eq_getElem?_getD,show m+2-1=m+1 from by omega,List.getElem?_eq_getElem (by omega)];rfl
 obtain ⟨s,hs⟩:∃ s,64-Lib.bitLen t=s:=⟨_,rfl⟩
 obtain ⟨hV1,hV2⟩:=raised_fits hy.dig (m+1) s (by omega) ht0 (by rw [ht,hs])
 have hs64:s<64:=by
  obtain ⟨_,_,h3⟩:=W8 (t+1) t (by omega) (by rw [<- ht];exact ht0) (by rw [<- bD];exact htB)
  omega
 have HT:=Lib.hid ht
 have HS:=Lib.hid hs
 have HV1:=Lib.hid hV1
 have HV2:=Lib.hid hV2
 have Hm:=Lib.hid hm
 have Hn:=Lib.hid hn
 clear ht hs hV1 hV2 ht0 cy
 go_enter Tryz.func163,Tryz.ntmps163
 go_wp2_with fail
 refine (pS t htB _).mono ?_
 rintro e w' ⟨rfl,rfl⟩
 rw [HS.out]
 clear ct
 go_wp2_with fail
 refine (cO _ _ _ _ ys s hm hy.rd hy.dig (by omega) (by omega)).mono ?_
 rintro e w1 ⟨gb,nb,csb,bs,rfl,hgb,hbb,hatb,hlb,hnb,hdb,hvb,hg1⟩
 obtain rfl:nb=m+3:=by omega
 go_wp2_with fail
 refine (cO _ _ _ _ xs s hn (hx.rd.kept hg1) hx.dig (by omega) (by omega)).mono ?_
 rintro e w2 ⟨gr,nr,csr,rs,rfl,hgr,hbr,hatr,hlr,hnr,hdr,hvr,hg2⟩
 obtain rfl:nr=m+2+d+1:=by omega
 clear hnr hnb
 have hgr':gb<gr:=Nat.lt_of_lt_of_le hbb.lt hgr
 have hbb2:=hbb.kept hg2 (by simp)
 obtain ⟨vs,hvs⟩:∃ vs,bs.take (m+2)=vs:=⟨_,rfl⟩
 have hlv:vs.length=m+2:=by rw [<- hvs,List.length_take];omega
 have hatv:At csb 0 vs:=by rw [<- hvs];exact hatb.take _
 have hdv:Dig B vs:=by rw [<- hvs];exact hdb.take _
 have hvv:val B vs=val B ys*2^s:=by rw [<- hvs,X8 _ _ (by rw [hvb];exact HV1.out),hvb]
 have hgw2:=A2 hg1 hg2
 have Hlv:=Lib.hid hlv
 have Hvv:=Lib.hid hvv
 have Hvr:=Lib.hid hvr
 have Hlr:=Lib.hid hlr
 clear hvs hlv hvv hvr hlr hvb hlb hatb hdb hbb hg1 hg2
 go_wp2_with (at_make;refine wpList_make_full _ rfl _ _ 24 rfl _ 91 i0 (.int .u64 0) 1 Tryz.underlying24 hi hz0 hz1 .i64 .i64 _ _ (d+1) rfl rfl (by omega) (by omega) (by rw [hz2];omega) (by unfold maxLen;omega) (Nat.le_refl _) ?_;intro w3 hown hg3;obtain ⟨csq,hbq,hsq,hatq⟩:=cT hown;have HSQ:=Lib.hid hsq;clear hsq hown)
 obtain ⟨gq,hgq⟩:∃ gq,w2.heap.size=gq:=⟨_,rfl⟩
 rw [hgq] at hbq ⊢
 have hgrq:gr<gq:=by have:=hbr.lt;omega
 have hbb3:=hbb2.kept hg3 (by simp)
 have hbr3:=hbr.kept hg3 (by simp)
 have hgw3:=A2 hgw2 hg3
 clear hgq hbb2 hbr hg3 hgw2
 go_loopw [8] (fun i wr=>∃ (k:Nat) (L qs:List Nat) (cr2 cq2:Array Value),k<=d+1/\i = .int .i64 ((k:Int)-1)/\Hid (L.length=m+2+d+1)/\Dig B L/\Blk wr gr cr2/\At cr2 0 L/\Hid (qs.length=d+1-k)/\Dig B qs/\Blk wr gq cq2/\At cq2 0 (List.replicate k 0++qs)/\Blk wr gb csb/\w.grownBy wr none/\Hid (val B (L.drop k)<val B vs)/\Hid (val B xs*2^s=val B qs*B^k*val B vs+val B L))
  (fun i _=>(intOf i+1).toNat)
 case atStart=>
  refine ⟨d+1,rs,[],csr,csq,Nat.le_refl _,by go_num,Hlr,hdr,hbr3,hatr,by show _=_;simp,Dig.nil _,hbq,by rw [List.append_nil];exact hatq,hbb3,hgw3, ?_, ?_⟩
  · show _<_
    have h1:=L4 B rs (d+1) (by rw [Hlr.out];omega)
    have h2:=S1 B xs hx.dig
    rw [Hn.out] at h2
    have h3:val B rs<B^(m+2+d)*2^s:=by rw [Hvr.out];exact Nat.mul_lt_mul_of_pos_right h2 (Nat.two_pow_pos _)
    have h4:B^(m+2+d)*2^s=B^(d+1)*(B^(m+1)*2^s):=by rw [<- Nat.mul_assoc, <- Nat.pow_add];congr 2;omega
    have h5:B^(d+1)*val B (rs.drop (d+1))<B^(d+1)*(B^(m+1)*2^s):=by omega
    have h6:=Nat.lt_of_mul_lt_mul_left h5
    rw [Hvv.out]
    exact Nat.lt_of_lt_of_le h6 HV2.out
  · show _=_
    rw [Hvr.out];simp [val]
 case round=>
  clear hbb3 hbr3 hbq hatq hatr hdr hgw3 Hlr Hvr
  obtain ⟨k,L,qs,cr2,cq2,hk,rfl,hLl,hLd,hbr,hatL,hql,hqd,hbq,hatq,hbb,hgw,hlt,hv⟩:=hrel
  by_cases h0:k=0
  · subst h0
    have hres:Hid (val B qs=val B xs / val B ys/\val B L / 2^s=val B xs%val B ys):=by
     have h1:=hv.out
     have h2:=hlt.out
     rw [Nat.pow_zero,Nat.mul_one,Hvv.out] at h1
     rw [List.drop_zero,Hvv.out] at h2
     have hp : 0<2^s:=Nat.two_pow_pos s
     have hy0 : 0<val B ys:=by
      rcases Nat.eq_zero_or_pos (val B ys) with h | h
      · rw [h,Nat.zero_mul] at h2;omega
      · exact h
     generalize val B qs=Q at *
     generalize val B L=R at *
     generalize val B xs=X at *
     generalize val B ys=Y at *
     have hQX:Q*Y<=X:=by
      rcases Nat.lt_or_ge X (Q*Y) with h | h
      · have:=Nat.mul_lt_mul_of_pos_right h hp
        rw [Nat.mul_assoc] at this;omega
      · exact h
     obtain ⟨t,ht⟩:∃ t,X=Q*Y+t:=⟨X-Q*Y,by omega⟩
     have hr:R=t*2^s:=by
      rw [ht,Nat.add_mul] at h1
      have h3:Q*Y*2^s=Q*(Y*2^s):=Nat.mul_assoc ..
      omega
     have hty:t<Y:=by rw [hr] at h2;exact Nat.lt_of_mul_lt_mul_right h2
     refine ⟨?_, ?_⟩
     · rw [ht,Nat.mul_comm,Nat.mul_add_div hy0,Nat.div_eq_of_lt hty,Nat.add_zero]
     · rw [hr,Nat.mul_div_cancel _ hp,ht,Nat.mul_comm Q,Nat.mul_add_mod,Nat.mod_eq_of_lt hty]
    rw [List.replicate_zero,List.nil_append] at hatq
    clear hv hlt
    go_wp2_with fail
    refine (T8 _ gr 0 _ _ L cr2 s hLl.out hbr hatL hLd (Nat.le_refl _) (by omega) (by omega)).mono ?_
    rintro e w6 ⟨sr,mr,cr,cs6,rs6,rfl,hm6,hl6,hlx6,hd6,hv6,hs6,hz6,hb6,hat6,hg6⟩
    have hbq6:=hbq.kept hg6 (by simp;omega)
    have hgw6:=B1 hgw hg6 (by omega)
    have hrd:=Lowered.rdo hl6 hs6 hb6 hat6
    have HF:Hid (R6 w (val B xs) (val B ys) (m+2+d) (.returned (.tuple #[.slice (some ⟨gq,0,none⟩) (d+1) (d+1),.slice sr mr cr])) w6):=by
     refine ⟨_,_,_,_,_,_,qs,rs6,rfl,by rw [hql.out];omega,Nat.le_refl _,by omega,hl6,hm6,by rw [hLl.out] at hlx6;omega,Rdo.of hbq6 hatq,hrd,hqd,hd6,hres.out.1,hv6.trans hres.out.2,hgw6,FreshAt.of (by omega) hs6 hz6⟩
    clear hbq6 hgw6 hrd hv6 hl6 hs6 hb6 hat6 hg6 hbr hbq hbb hgw
    go_wp2_with fail
    go_ret2
    exact HF
  · obtain ⟨i,rfl⟩:∃ i,k=i+1:=⟨k-1,by omega⟩
    clear h0
    have e1:((i+1:Nat):Int)-1=(i:Int):=by omega
    rw [e1]
    clear e1
    obtain ⟨u,hu⟩:∃ u,val B ((L.drop i).take (m+3))=u:=⟨_,rfl⟩
    have hik:i+(m+3)<=L.length:=by rw [hLl.out];omega
    have hdc:=gT L i (by omega)
    have hLi:L[i]'(by omega)<B:=hLd.get i _
    have hVm:=S1 B vs hdv
    rw [Hlv.out] at hVm
    have hdu:val B (L.drop i)<val B vs*B:=by
     rw [hdc,Nat.mul_comm (val B vs)]
     have:B*(val B (L.drop (i+1))+1)<=B*val B vs:=Nat.mul_le_mul_left _ hlt.out
     rw [Nat.mul_add,Nat.mul_one] at this
     omega
    have hdB:val B (L.drop i)<B^(m+3):=by
     refine Nat.lt_trans hdu ?_
     rw [Nat.pow_succ]
     exact Nat.mul_lt_mul_of_pos_right hVm D6
    have huV:u<val B vs*B:=by rw [<- hu,X8 _ _ hdB];exact hdu
    have Hik:=Lib.hid hik
    have Hu:=Lib.hid hu
    have HdB:=Lib.hid hdB
    have HuV:=Lib.hid huV
    have hatw:=win_of hatL hik
    have hlw:=Lib.hid (win_len hik)
    have hdw:Dig B ((L.drop i).take (m+3)):=(hLd.drop i).take _
    clear hdc hLi hVm hdu hdB huV hik hu
    generalize hws:(L.drop i).take (m+3)=ws at *
    have Hws:=Lib.hid hws
    clear hws
    go_wp2_with fail
    refine (guess_at _ _ _ _ (m+2) _ _ m ws vs (by omega) hlw.out Hlv.out rfl (Rdo.of hbr hatw) (Rdo.of hbb hatv) hdw hdv (by omega) (by rw [Hu.out];exact HuV.out)).mono ?_
    rintro e w4 ⟨q,rfl,hqB,hqu,hg4⟩
    have hbr4:=hbr.kept hg4 (by simp)
    have hbq4:=hbq.kept hg4 (by simp)
    have hbb4:=hbb.kept hg4 (by simp)
    have hgw4:=A2 hgw hg4
    rw [Hu.out] at hqu
    have Hqu:=Lib.hid hqu
    clear hqu hbr hbq hbb hg4 hgw
    go_wp2_with fail
    refine (oC _ gr i _ _ ws cr2 (some ⟨gb,0,none⟩) (m+2) _ vs q (by rw [hlw.out];omega) Hlv.out hbr4 hatw (Or.inr ⟨gb,0,csb,rfl,by omega,hbb4,hatv⟩) (by omega) (by omega) hdw hdv hqB).mono ?_
    rintro e w5 ⟨br,zs,cr5,rfl,hbr5,hw5,hg5,hl5,hd5,hbr1,hv5⟩
    have hbq5:=hbq4.kept hg5 (by simp;omega)
    have hbb5:=hbb4.kept hg5 (by simp;omega)
    have hgw5:=B1 hgw4 hg5 (by omega)
    rw [Hlv.out] at hl5 hv5
    rw [Hu.out] at hv5
    have HL5:=Lib.hid hl5
    have HV5:=Lib.hid hv5
    have Hout5:∀ j,j<i\/i+(m+3)<=j->cr5[j]?=cr2[j]?:=fun j hj=>hw5.out j (by rw [HL5.out];omega)
    have hat5:=hw5.lies
    clear hl5 hv5 hbr4 hbq4 hbb4 hg5 hgw4 hw5 hatw
    obtain ⟨wo,rfl⟩:∃ wo:World,wo=wr:=⟨_,rfl⟩
    go_wp2_with fail
    go_loopw [10,11] (fun a c w6=>∃ (q sh:Nat) (zs:List Nat) (cr6:Array Value),a = .int .u64 (q:Int)/\c = .int .u64 (sh:Int)/\sh<=1/\q<B/\Hid (zs.length=m+3)/\Dig B zs/\Blk w6 gr cr6/\At cr6 i zs/\Hid (∀ j,j<i\/i+(m+3)<=j->cr6[j]?=cr2[j]?)/\Blk w6 gq cq2/\Blk w6 gb csb/\w.grownBy w6 none/\Hid (val B zs+val B vs*q=u+sh*B^(m+3))/\Hid (u<(q+1)*val B vs))
     (fun a _ _=>(intOf a).toNat)
    case atStart=>exact ⟨q,br,zs,cr5,rfl,rfl,hbr1,hqB,HL5,hd5,hbr5,hat5,Hout5,hbq5,hbb5,hgw5,HV5,Hqu⟩
    case round=>
     clear hbr1 hqB HL5 hd5 hbr5 hat5 Hout5 hbq5 hbb5 hgw5 HV5 Hqu
     obtain ⟨q,sh,zs,cr6,rfl,rfl,hsh,hqB,hl6,hd6,hbr6,hat6,hout6,hbq6,hbb6,hgw6,hv6,hqu⟩:=hrel
     by_cases hs0:sh=0
     · subst hs0
       obtain ⟨y,cy⟩:∃ y:Nat,wr.cell? ⟨gq,i,none⟩=some (.int .u64 (y:Int)):=⟨_,by
        have:=hatq i (by rw [List.length_append,List.length_replicate];omega)
        rw [Nat.zero_add] at this
        rw [hbq6.cell];exact this⟩
       have fy:wr.frozen? ⟨gq,i,none⟩=false:=hbq6.frozen _
       go_wp2_with fail
       clear cy fy
       go_roundw
       case rel=>
        have hv6:=hv6.out
        rw [Nat.zero_mul,Nat.add_zero] at hv6
        have hzV:val B zs<val B vs:=by
         have h1:=hqu.out
         rw [Nat.add_mul,Nat.one_mul,Nat.mul_comm q] at h1
         omega
        obtain ⟨k1,k2⟩:=win_val (u:=u) Hik.out hl6.out (by rw [Hws.out];exact Hu.out) HdB.out
        refine ⟨i,L.take i++(zs++L.drop (i+(m+3))),q :: qs,cr6,cq2.setIfInBounds i (.int .u64 (q:Int)),by omega,by go_num, ?_,(hLd.take _).append (hd6.append (hLd.drop _)), ?_,win_back hatL Hik.out hl6.out hat6 hout6.out, ?_,Dig.cons hqB hqd,hbq6.setCell _ _, ?_, ?_, ?_, ?_, ?_⟩
        · show _=_
          have:=Hik.out
          rw [List.length_append,List.length_append,List.length_take,List.length_drop,hl6.out,hLl.out];try omega
        · exact hbr6.set_row (by omega) _ _
        · show _=_;rw [List.length_cons,hql.out];omega
        · have h2:At cq2 0 (List.replicate i 0++([0]++qs)):=by
           have:=hatq
           rw [List.replicate_succ',List.append_assoc] at this;exact this
          have:=h2.put_mid (Z:=[q]) rfl
          rw [List.length_replicate,Nat.zero_add] at this
          exact this
        · exact hbb6.set_row (by omega) _ _
        · exact B1 hgw6 (B2 (A9 _ _) _ _) (by omega)
        · show _<_;rw [k1];exact hzV
        · show _=_
          rw [hv.out]
          simp only [val]
          rw [Nat.pow_succ]
          exact long_step k2 hv6
       case measure=>simp [intOf]
     · obtain rfl:sh=1:=by omega
       clear hs0
       have hz:=S1 B zs hd6
       rw [hl6.out] at hz
       have hv6':=hv6.out
       rw [Nat.one_mul] at hv6'
       have hqV:u<q*val B vs:=by rw [Nat.mul_comm];omega
       have hq0 : 1<=q:=by
        rcases Nat.eq_zero_or_pos q with h0 | h0
        · rw [h0,Nat.zero_mul] at hqV;omega
        · exact h0
       obtain ⟨q,rfl⟩:∃ q',q=q'+1:=⟨q-1,by omega⟩
       have HqV:=Lib.hid hqV
       have HV6:=Lib.hid hv6'
       have hqB':q<B:=by omega
       have hqN:q+1<18446744073709551616:=hqB
       clear hz hv6' hqV hv6 hqu hqB hq0
       go_wp2_with fail
       refine (addTo_at _ gr i _ _ zs cr6 (some ⟨gb,0,none⟩) (m+2) _ vs (by rw [hl6.out];omega) Hlv.out hbr6 hat6 (Or.inr ⟨gb,0,csb,rfl,by omega,hbb6,hatv⟩) (by omega) (by omega) hd6 hdv).mono ?_
       rintro e w7 ⟨c,zs7,cr7,rfl,hbr7,hw7,hg7,hl7,hd7,hc7,hv7⟩
       have hbq7:=hbq6.kept hg7 (by simp;omega)
       have hbb7:=hbb6.kept hg7 (by simp;omega)
       have hgw7:=B1 hgw6 hg7 (by omega)
       rw [hl6.out] at hl7 hv7
       have Hout7:Hid (∀ j,j<i\/i+(m+3)<=j->cr7[j]?=cr2[j]?):=fun j hj=>(hw7.out j (by rw [hl7];omega)).trans (hout6.out j hj)
       have hat7:=hw7.lies
       have HL7:=Lib.hid hl7
       have HV7:Hid (val B zs7+val B vs*q=u+(1-c)*B^(m+3)):=by
        show _=_
        have h1:=HV6.out
        rw [Nat.mul_add,Nat.mul_one] at h1
        have h2:c=0\/c=1:=by omega
        rcases h2 with rfl | rfl<;>simp at hv7 ⊢ <;> omega
       have n1:(1:Int)-(c:Int)=((1-c:Nat):Int):=by omega
       have N1:=Lib.hid n1
       clear hl7 hv7 hg7 hw7 n1 hbr6 hat6 hout6 hbq6 hbb6 hgw6 HV6
       go_wp2_with fail
       go_roundw
       case rel=>exact ⟨q,1-c,zs7,cr7,by go_num,congrArg (Value.int IntKind.u64) N1.out,by omega,hqB',HL7,hd7,hbr7,hat7,Hout7,hbq7,hbb7,hgw7,HV7,HqV⟩
       case measure=>simp [intOf]
end Go.Proofs.YtdgdmicbbfoghaaGreatDoor
