/- What the laws lean on, part 16. -/
import Derived.Below
import Derived.BigCall
import Derived.BigQuiet
import Derived.BigRegion
import Derived.Deep.AppendLies
import Derived.Deep.CutBlock
import Derived.Deep.CutRange
import Derived.Deep.DeepCutAuto
import Derived.Deep.DeepHandedRow
import Derived.Deep.LoopGhost
import Derived.Deep.MidRow
import Derived.Deep.QuietTactic
import Derived.Deep.RegionHeld3
import Derived.Deep.RegionLaw
import Derived.Deep.WholeRow
import Derived.Laws.AppendOwn
import Derived.Laws.Concat
import Derived.Laws.CopyOwn
import Derived.Laws.Externs
import Derived.Laws.IdiomStrings
import Derived.Lib.BitFns
import Derived.Lib.Bytealg
import Derived.Lib.Hide
import Derived.Lib.Slices
import Derived.Lib.Small
import Derived.Lib.Strings
import Derived.Lib.Walk
import Derived.LoopN
import Derived.OpenShut
import Derived.OrdersHeld
import Derived.OrdersIn
import Derived.Outline
import Derived.OwnWalk
import Derived.ProofKit
import Derived.RangeFuncCalls
import Derived.RangeFuncNested
import Derived.RangeFuncOwn
import Derived.Shelf.Bits.Mul64
import Derived.Shelf.Spec.TrailingZeros
import Derived.StillTailTactics
import Derived.WalkKit
import Derived.WalkLawsBesides
import Derived.WalkSpells
import Derived.Test.YtdgdmicbbfoghaaGreatDoorProg
import Derived.Test.YtdgdmicbbfoghaaGreatDoorRows
import Derived.Test.YtdgdmicbbfoghaaGreatDoorMg15
set_option linter.unusedVariables false
set_option linter.unusedSimpArgs false
set_option maxRecDepth 100000
namespace Go.Proofs.YtdgdmicbbfoghaaGreatDoor
open Go.RowKit Mat
theorem B3 {w:World} {g:Nat} {v0 v1 v2 v3:Value} {t:TypeId} (h:w.heap[g]?=some (.cells #[v0,v1,v2,v3] t (0,0))) :
 w.cell? ⟨g,0,none⟩=some v0/\w.cell? ⟨g,1,none⟩=some v1/\w.cell? ⟨g,2,none⟩=some v2/\w.cell? ⟨g,3,none⟩=some v3/\w.frozen? ⟨g,0,none⟩=false/\w.frozen? ⟨g,1,none⟩=false/\w.frozen? ⟨g,2,none⟩=false/\w.frozen? ⟨g,3,none⟩=false:=by
 simp [World.cell?,World.frozen?,h]
theorem Y8 {w:World} {g:Nat} {a0 a1 a2 a3:Value} {t:TypeId} (h:w.heap[g]?=some (.cells #[a0,a1,a2,a3] t (0,0))) (v0 v1 v2 v3:Value):((((w.setCell ⟨g,0,none⟩ v0).setCell ⟨g,1,none⟩ v1).setCell ⟨g,2,none⟩ v2).setCell ⟨g,3,none⟩ v3).heap[g]?=some (.cells #[v0,v1,v2,v3] t (0,0)):=by
 simp [World.setCell,Array.getElem?_modify,h]
theorem W4 {w:World} {g k:Nat} {o:Obj} (h:w.heap[k]?=some o) (hk:k≠g) (v0 v1 v2 v3:Value):((((w.setCell ⟨g,0,none⟩ v0).setCell ⟨g,1,none⟩ v1).setCell ⟨g,2,none⟩ v2).setCell ⟨g,3,none⟩ v3).heap[k]?=some o:=
 (Below.heap_setCell _ _ _ _ (by simpa using hk)).trans ((Below.heap_setCell _ _ _ _ (by simpa using hk)).trans (F7 h hk v0 v1))
theorem grown_set4 {w w':World} {g:Nat} (hg:w.grownBy w' none) (hl:w.heap.size<=g) (v0 v1 v2 v3:Value):w.grownBy ((((w'.setCell ⟨g,0,none⟩ v0).setCell ⟨g,1,none⟩ v1).setCell ⟨g,2,none⟩ v2).setCell ⟨g,3,none⟩ v3) none:=
 B1 (B1 (pW hg hl v0 v1) (B2 (A9 _ _) _ _) hl) (B2 (A9 _ _) _ _) hl
theorem RIntV.set4 {w:World} {v:Value} {n:Int} {g:Nat} {a0 a1 a2 a3:Value} (h:RIntV w v n) (hbox:w.heap[g]?=some (.cells #[a0,a1,a2,a3] 57 (0,0))) (v0 v1 v2 v3:Value):RIntV ((((w.setCell ⟨g,0,none⟩ v0).setCell ⟨g,1,none⟩ v1).setCell ⟨g,2,none⟩ v2).setCell ⟨g,3,none⟩ v3) v n:=by
 have k1:(w.setCell ⟨g,0,none⟩ v0).heap[g]?=some (.cells #[v0,a1,a2,a3] 57 (0,0)):=by simp [World.setCell,Array.getElem?_modify,hbox]
 have k2:((w.setCell ⟨g,0,none⟩ v0).setCell ⟨g,1,none⟩ v1).heap[g]?=some (.cells #[v0,v1,a2,a3] 57 (0,0)):=by simp [World.setCell,Array.getElem?_modify,hbox]
 have k3:(((w.setCell ⟨g,0,none⟩ v0).setCell ⟨g,1,none⟩ v1).setCell ⟨g,2,none⟩ v2).heap[g]?=some (.cells #[v0,v1,v2,a3] 57 (0,0)):=by simp [World.setCell,Array.getElem?_modify,hbox]
 exact (((h.set_other hbox (by decide) 0 v0).set_other k1 (by decide) 1 v1).set_other k2 (by decide) 2 v2).set_other k3 (by decide) 3 v3
theorem RQ.set4 {w:World} {v:Value} {r:Rat} {E:Nat} {g:Nat} {a0 a1 a2 a3:Value} (h:RQ w v r E) (hbox:w.heap[g]?=some (.cells #[a0,a1,a2,a3] 57 (0,0))) (v0 v1 v2 v3:Value):RQ ((((w.setCell ⟨g,0,none⟩ v0).setCell ⟨g,1,none⟩ v1).setCell ⟨g,2,none⟩ v2).setCell ⟨g,3,none⟩ v3) v r E:=by
 obtain ⟨g,s,l,c,g',s',l',c',n,d,e,h1,h2,h3⟩:=h
 exact ⟨g,s,l,c,g',s',l',c',n,d,e,h1.set4 hbox _ _ _ _,h2.set4 hbox _ _ _ _,h3⟩
theorem fM {w w':World} {r:Rat} {E:Nat} {code:Int} {g:Nat} {a0 a1 a2 a3 v0 v1 v2 v3:Value} (hg:w.grownBy w' none) (hbox:w'.heap[g]?=some (.cells #[a0,a1,a2,a3] 57 (0,0))) (hl:w.heap.size<=g) (h:RQ w' (.agg #[v0,v1,v2,v3]) r E) :
 dB w r E code (.returned (.tuple #[.agg #[v0,v1,v2,v3],.int .i64 code])) ((((w'.setCell ⟨g,0,none⟩ v0).setCell ⟨g,1,none⟩ v1).setCell ⟨g,2,none⟩ v2).setCell ⟨g,3,none⟩ v3):=
 ⟨_,rfl,h.set4 hbox _ _ _ _,grown_set4 hg hl _ _ _ _⟩
def slf (s:ByteArray) (k:Nat):Int:=if Lib.indexByte (s.data.toList.drop k) 47<0 then -1 else Lib.indexByte (s.data.toList.drop k) 47+k
theorem slf_end (s:ByteArray):slf s s.size = -1:=by
 unfold slf
 rw [List.drop_of_length_le (by simp)]
 rfl
theorem slf_zero (s:ByteArray):slf s 0=slx s:=by
 unfold slf slx
 rw [List.drop_zero]
 rcases oN s with ⟨h,_⟩ | ⟨k,_,h,_⟩
 · unfold slx at h;rw [h];rfl
 · unfold slx at h;rw [h,if_neg (by omega)];omega
theorem slf_step (s:ByteArray) (m:Nat) (h:m<s.size):slf s m=if (s[m]'h).toNat=47 then (m:Int) else slf s (m+1):=by
 have hl:m<s.data.toList.length:=by simpa using h
 have hd:s.data.toList.drop m=s[m]'h :: s.data.toList.drop (m+1):=by
  rw [List.drop_eq_getElem_cons hl];rfl
 have e:∀ (b:UInt8) (l:List UInt8),Lib.indexByte (b :: l) 47=if (b == 47)=true then 0 else if (Lib.indexByte l 47 == -1)=true then -1 else Lib.indexByte l 47+1:=fun _ _=>rfl
 unfold slf
 rw [hd,e]
 by_cases hb:(s[m]'h).toNat=47
 · have:(s[m]'h == 47)=true:=by rw [beq_iff_eq];exact UInt8.toNat_inj.1 hb
   rw [this,if_pos hb];simp
 · have:(s[m]'h == 47)=false:=beq_eq_false_iff_ne.2 fun e=>hb (by rw [e];rfl)
   rw [this,if_neg hb]
   simp only [Bool.false_eq_true,if_false]
   have hg:=Lib.indexByte_ge (s.data.toList.drop (m+1)) 47
   by_cases h1:Lib.indexByte (s.data.toList.drop (m+1)) 47 = -1
   · rw [h1];rfl
   · have:(Lib.indexByte (s.data.toList.drop (m+1)) 47 == -1)=false:=beq_eq_false_iff_ne.2 h1
     rw [this]
     simp only [Bool.false_eq_true,if_false]
     rw [if_neg (by omega),if_neg (by omega)]
     omega
theorem rNParse_num (w:World) (s:ByteArray) (hs:s.size<=4096):Calls Tryz.prog 124 #[.string s] w (U3 w (K3 s) (jO s)):=by
 unfold K3 jO
 by_cases h:lK (bts s)=true
 · rw [if_pos h,if_pos h];exact aV w s hs (cW h)
 · rw [if_neg h,if_neg h];exact rParse_form w s hs (fun hd=>h ((cX _).2 hd))
theorem dval_bdD {l:List Nat} {E:Nat} (h:S9 l) (hl:l.length<=4*E):G7 l<D^E:=by
 refine Nat.lt_of_lt_of_le (dval_lt ((cX l).2 h)) ?_
 refine Nat.le_trans (Nat.pow_le_pow_right (by omega) hl) ?_
 rw [Nat.pow_mul]
 exact Nat.pow_le_pow_left (by unfold D;decide) E
theorem nval_bdD (s:ByteArray) {E:Nat} (h:s.size<=4*E):K3 s<D^E:=by
 unfold K3
 split
 · next hd=>exact dval_bdD ((cX _).1 hd) (by rw [C7];exact h)
 · exact Nat.pow_pos mS
theorem zval_bdD (s:ByteArray) {E:Nat} (h:s.size<=4*E):(I3 s).natAbs<D^E:=by
 unfold I3
 split
 · next hc=>
   have hok:zok (bts s)=true:=by
    cases e:zok (bts s)
    · unfold U6 at hc
      rw [e] at hc
      split at hc
      · cases hc
      · simp at hc
    · rfl
   have hd:=((Q4 _).1 hok).1
   have hl:(Z7 (bts s)).length<=4*E:=by
    unfold Z7
    split
    · rw [List.length_tail,C7];omega
    · rw [C7];exact h
   have hb:=dval_bdD hd hl
   unfold mU
   split
   · rw [Int.natAbs_neg,Int.natAbs_natCast];exact hb
   · rw [Int.natAbs_natCast];exact hb
 · exact Nat.pow_pos mS
theorem RQ.zero5 {w:World} {v:Value} {E:Nat} (h:RQ w v ((0:Int):Rat) 5) (hE : 5<=E):RQ w v 0 E:=h.mono hE
set_option maxHeartbeats 32000000 in
theorem aU (w:World) (s:ByteArray) (E:Nat) (hs:s.size<=4000) (h5 : 5<=E) (hsz:s.size<=4*E) :
 Calls Tryz.prog 63 #[.string s] w (dB w (eG s) E (R7 s)):=by
 obtain ⟨U,hU⟩:∃ U,fup s=U:=⟨_,rfl⟩
 obtain ⟨D9,hD⟩:∃ D,bV s=D:=⟨_,rfl⟩
 have hUs:U.size<=s.size:=by rw [<- hU];exact pZ s
 have hDs:D9.size<=s.size:=by rw [<- hD];exact iJ s
 have HZB:Hid ((I3 U).natAbs<D^E):=zval_bdD U (by omega)
 have HNB:Hid (K3 D9<D^E):=nval_bdD D9 (by omega)
 have HE5:Hid (5<=E):=h5
 have HNP:Hid (∀ W,Calls Tryz.prog 124 #[.string D9] W (U3 W (K3 D9) (jO D9))):=fun W=>rNParse_num W D9 (by omega)
 have hz:=zcod_or (show U.size<=4000 by omega)
 have hn:=ncod_or D9
 have hcv:R7 s=(if U6 U≠0 then U6 U else if slx s<0 then 0 else if jO D9≠0 then jO D9 else if K3 D9=0 then 5 else 0):=by unfold R7;rw [hU,hD]
 have hfv:eG s=if R7 s=0 then (if slx s<0 then (I3 U:Rat) else Rat.divInt (I3 U) (K3 D9:Int)) else 0:=by unfold eG;rw [hU,hD]
 have HST:Hid (∀ m (h:m<s.size),slf s m=if (s[m]'h).toNat=47 then (m:Int) else slf s (m+1)):=slf_step s
 have HS0:=Lib.hid (slf_zero s)
 have HSE:=Lib.hid (slf_end s)
 have HSS:Hid (s.size<=4000):=hs
 have hx9:=oN s
 obtain ⟨c9,hc⟩:∃ c,R7 s=c:=⟨_,rfl⟩
 obtain ⟨R9,hr⟩:∃ r,eG s=r:=⟨_,rfl⟩
 rw [hc,hr]
 rw [hc] at hcv hfv
 rw [hr] at hfv
 clear hsz h5 hc hr
 have hG:w.grownBy (w.alloc (.cells #[.int .i64 0,.slice none 0 0,.int .i64 0,.slice none 0 0] 57)) none:=(World.grownBy_alloc _ _ _)
 have Bq:=(A4 w (.cells #[.int .i64 0,.slice none 0 0,.int .i64 0,.slice none 0 0] 57) (w.heap.size) rfl)
 go_enter Tryz.func63,Tryz.ntmps63
 obtain ⟨Cq0,Cq1,Cq2,Cq3,Fq0,Fq1,Fq2,Fq3⟩:=B3 Bq
 have HG0:=Lib.hid hG
 have HBQ:=Lib.hid Bq
 go_wp2_with fail
 generalize (w.alloc (.cells #[.int .i64 0,.slice none 0 0,.int .i64 0,.slice none 0 0] 57))=w0 at *
 clear Cq0 Fq0 Cq1 Fq1 Cq2 Fq2 Cq3 Fq3 hG Bq
 go_loopw [4,5] (fun a i wr=>∃ (j:Int) (k:Nat),k<=s.size/\j=(k:Int)-1/\i = .int .i64 j/\a = .int .i64 (slf s k)/\w0=wr) (fun _ i _=>(intOf i+1).toNat)
 case atStart=>exact ⟨_,s.size,Nat.le_refl _,rfl,by go_num,by rw [HSE.out],rfl⟩
 case round=>
  obtain ⟨j,k,hk,hj,rfl,rfl,rfl⟩:=hrel
  by_cases h0:k=0
  · skip
    subst h0
    obtain rfl:j = -1:=by omega
    rw [HS0.out]
    clear hk hj HST HSE
    have hG:=HG0.out
    have Bq:=HBQ.out
    rcases hx9 with ⟨hx,_⟩ | ⟨k,hk,hx,_,_⟩
    · skip
      have hUe:U=s:=by rw [<- hU];unfold fup;rw [if_pos (by omega)]
      rw [hx]
      rcases hz with hz | hz
      · skip
        have HZP:Hid (∀ W,Calls Tryz.prog 122 #[.string s] W (G0 W (I3 U) 0)):=fun W=>by rw [<- hz, <- hUe];exact aR W U
        have HI:Hid ((0:Int)<1/\Rat.divInt (I3 U) 1=(I3 U:Rat)/\(1:Int).natAbs<D^E):=⟨by decide,by rw [show (1:Int)=((1:Nat):Int) from rfl,Rat.divInt_ofNat];exact Rat.mkRat_self (I3 U:Rat),Nat.lt_of_lt_of_le (show 1<D^1 by unfold D;omega) (Nat.pow_le_pow_right mS (by have:=HE5.out;omega))⟩
        have hc9:c9=0:=by rw [hcv];simp [hz,hx]
        have hv9:R9=(I3 U:Rat):=by rw [hfv,hc9];simp [hx]
        clear hcv hfv
        subst hc9
        subst hv9
        clear hz hn hU hD hUs hDs hUe hx hs
        obtain ⟨Cq0,Cq1,Cq2,Cq3,Fq0,Fq1,Fq2,Fq3⟩:=B3 Bq
        go_wp2_with fail
        clear Cq0 Fq0 Cq1 Fq1 Cq2 Fq2 Cq3 Fq3
        refine (HZP.out w0).mono ?_
        rintro e es0z0w1 ⟨_,rfl,⟨gu,su,lu,cu,rfl,hu,mu⟩,ges0z0w1⟩
        have ru:RIntV es0z0w1 (.agg #[.int .i64 gu,.slice su lu cu]) (I3 U):=⟨gu,su,lu,cu,rfl,hu,mu⟩
        replace Bq:=A1 ges0z0w1 Bq
        replace hG:=A2 hG ges0z0w1
        clear ges0z0w1
        clear mu
        obtain ⟨Cq0,Cq1,Cq2,Cq3,Fq0,Fq1,Fq2,Fq3⟩:=B3 Bq
        have gbes0z0w1:=(World.grownBy_alloc es0z0w1 (.cells #[.int .i64 gu,.slice su lu cu] 55) none)
        have Bu:=(A4 es0z0w1 (.cells #[.int .i64 gu,.slice su lu cu] 55) (es0z0w1.heap.size) rfl)
        have hzes0z0w1:Hid (w.heap.size<=es0z0w1.heap.size):=Lib.hid hG.size
        have hlqes0z0w1:Hid (w.heap.size<es0z0w1.heap.size):=Lib.hid (Array.getElem?_eq_some_iff.1 Bq).1
        clear Cq0 Fq0 Cq1 Fq1 Cq2 Fq2 Cq3 Fq3
        replace Bq:=A1 gbes0z0w1 Bq
        replace ru:=ru.kept gbes0z0w1
        replace hG:=A2 hG gbes0z0w1
        clear gbes0z0w1
        obtain ⟨Cq0,Cq1,Cq2,Cq3,Fq0,Fq1,Fq2,Fq3⟩:=B3 Bq
        obtain ⟨Cu0,Cu1,Fu0,Fu1⟩:=A3 Bu
        go_wp2_with fail
        generalize (es0z0w1.alloc (.cells #[.int .i64 gu,.slice su lu cu] 55))=es0z0w2 at *
        generalize es0z0w1.heap.size=aes0z0w1 at *
        replace hzes0z0w1:=hzes0z0w1.out
        replace hlqes0z0w1:=hlqes0z0w1.out
        go_region_held3 (fun w'=>w'.cell? ⟨aes0z0w1,0,none⟩=some (.int .i64 gu)/\w'.cell? ⟨aes0z0w1,1,none⟩=some (.slice su lu cu))
         (first | assumption | exact ⟨Cu0,Cu1⟩ | exact HSes0z0w3_20 | go_keep)
         (first
          | (go_at_call 61;(with_reducible refine (dV es0z0w2.drew 1 (by omega) (by omega)).mono ?_);rintro e es0z0w3_1 ⟨v1,rfl,k1,ges0z0w3_1⟩;have hGes0z0w3_1:=H6 es0z0w2 ges0z0w3_1 rfl rfl rfl rfl;have hSes0z0w3_1:=(And.intro (hGes0z0w3_1.cell Cu0 (by simp)) (hGes0z0w3_1.cell Cu1 (by simp)));clear ges0z0w3_1)
          | (go_at_call 123;(with_reducible refine (pE es0z0w3_1 _ _ (I3 U) 1 E (ru.kept hGes0z0w3_1) k1 (by decide) HZB.out HI.out.2.2).mono ?_);rintro e es0z0w3_2 ⟨_,rfl,⟨gd,sd,ld,cd,gd',sd',ld',cd',nd,dd,rfl,hd,hd',ud⟩,ges0z0w3_2⟩;rw [HI.out.2.1] at ud;have hGes0z0w3_2:=A2 hGes0z0w3_1 ges0z0w3_2;replace k1:=k1.kept ges0z0w3_2;have yd:RQ es0z0w3_2 (.agg #[.int .i64 gd,.slice sd ld cd,.int .i64 gd',.slice sd' ld' cd']) (I3 U:Rat) E:=⟨gd,sd,ld,cd,gd',sd',ld',cd',nd,dd,rfl,hd,hd',ud⟩;have hSes0z0w3_2:=(And.intro (hGes0z0w3_2.cell Cu0 (by simp)) (hGes0z0w3_2.cell Cu1 (by simp)));clear ges0z0w3_2;clear hd hd';(obtain ⟨dq0,dq1,dq2,dq3,dq4,dq5,dq6,dq7⟩:=B3 (A1 hGes0z0w3_2 Bq));have HSes0z0w3_20:=(And.intro ((A3 (W4 (A1 hGes0z0w3_2 Bu) (show aes0z0w1≠w.heap.size by omega) (.int .i64 gd) (.slice sd ld cd) (.int .i64 gd') (.slice sd' ld' cd'))).1) ((A3 (W4 (A1 hGes0z0w3_2 Bu) (show aes0z0w1≠w.heap.size by omega) (.int .i64 gd) (.slice sd ld cd) (.int .i64 gd') (.slice sd' ld' cd'))).2.1))))
        replace Bq:=A1 hGes0z0w3_2 Bq
        replace Bu:=A1 hGes0z0w3_2 Bu
        replace ru:=ru.kept hGes0z0w3_2
        replace hG:=A2 hG hGes0z0w3_2
        clear Cq0 Fq0 Cq1 Fq1 Cq2 Fq2 Cq3 Fq3 Cu0 Fu0 Cu1 Fu1
        obtain ⟨k90,k91,k92,k93,k94,k95,k96,k97⟩:=B3 Bq
        obtain ⟨q90,q91,q92,q93,q94,q95,q96,q97⟩:=B3 (Y8 Bq (.int .i64 gd) (.slice sd ld cd) (.int .i64 gd') (.slice sd' ld' cd'))
        have hF:Hid (dB w (I3 U:Rat) E 0 (.returned (.tuple #[.agg #[.int .i64 gd,.slice sd ld cd,.int .i64 gd',.slice sd' ld' cd'],.int .i64 0])) ((((es0z0w3_2.setCell ⟨w.heap.size,0,none⟩ (.int .i64 gd)).setCell ⟨w.heap.size,1,none⟩ (.slice sd ld cd)).setCell ⟨w.heap.size,2,none⟩ (.int .i64 gd')).setCell ⟨w.heap.size,3,none⟩ (.slice sd' ld' cd'))):=fM hG Bq (by omega) yd
        clear ru k1 yd
        obtain ⟨Cu0,Cu1,Fu0,Fu1⟩:=A3 Bu
        go_wp2_with fail
        exact bodyPost_ret (v := .tuple #[.agg #[.int .i64 gd,.slice sd ld cd,.int .i64 gd',.slice sd' ld' cd'],.int .i64 0]) (by simp [results,Tryz.results63,go_sem,q90,q91,q92,q93]) rfl hF.out
      · skip
        have HZP:Hid (∀ W,Calls Tryz.prog 122 #[.string s] W (G0 W (I3 U) 3)):=fun W=>by rw [<- hz, <- hUe];exact aR W U
        have hc9:c9=3:=by rw [hcv];simp [hz,hx]
        have hv9:R9=0:=by rw [hfv,hc9];simp [hx]
        clear hcv hfv
        subst hc9
        subst hv9
        clear hz hn hU hD hUs hDs hUe hx hs
        obtain ⟨Cq0,Cq1,Cq2,Cq3,Fq0,Fq1,Fq2,Fq3⟩:=B3 Bq
        go_wp2_with fail
        clear Cq0 Fq0 Cq1 Fq1 Cq2 Fq2 Cq3 Fq3
        refine (HZP.out w0).mono ?_
        rintro e es0z3w1 ⟨_,rfl,⟨gu,su,lu,cu,rfl,hu,mu⟩,ges0z3w1⟩
        have ru:RIntV es0z3w1 (.agg #[.int .i64 gu,.slice su lu cu]) (I3 U):=⟨gu,su,lu,cu,rfl,hu,mu⟩
        replace Bq:=A1 ges0z3w1 Bq
        replace hG:=A2 hG ges0z3w1
        clear ges0z3w1
        clear mu
        obtain ⟨Cq0,Cq1,Cq2,Cq3,Fq0,Fq1,Fq2,Fq3⟩:=B3 Bq
        have gbes0z3w1:=(World.grownBy_alloc es0z3w1 (.cells #[.int .i64 gu,.slice su lu cu] 55) none)
        have Bu:=(A4 es0z3w1 (.cells #[.int .i64 gu,.slice su lu cu] 55) (es0z3w1.heap.size) rfl)
        have hzes0z3w1:Hid (w.heap.size<=es0z3w1.heap.size):=Lib.hid hG.size
        have hlqes0z3w1:Hid (w.heap.size<es0z3w1.heap.size):=Lib.hid (Array.getElem?_eq_some_iff.1 Bq).1
        clear Cq0 Fq0 Cq1 Fq1 Cq2 Fq2 Cq3 Fq3
        replace Bq:=A1 gbes0z3w1 Bq
        replace ru:=ru.kept gbes0z3w1
        replace hG:=A2 hG gbes0z3w1
        clear gbes0z3w1
        obtain ⟨Cq0,Cq1,Cq2,Cq3,Fq0,Fq1,Fq2,Fq3⟩:=B3 Bq
        obtain ⟨Cu0,Cu1,Fu0,Fu1⟩:=A3 Bu
        go_wp2_with fail
        generalize (es0z3w1.alloc (.cells #[.int .i64 gu,.slice su lu cu] 55))=es0z3w2 at *
        generalize es0z3w1.heap.size=aes0z3w1 at *
        replace hzes0z3w1:=hzes0z3w1.out
        replace hlqes0z3w1:=hlqes0z3w1.out
        clear Cq0 Fq0 Cq1 Fq1 Cq2 Fq2 Cq3 Fq3 Cu0 Fu0 Cu1 Fu1
        refine (dW es0z3w2 0 (by omega) (by omega)).mono ?_
        rintro e es0z3w3 ⟨_,rfl,⟨gd,sd,ld,cd,gd',sd',ld',cd',nd,dd,rfl,hd,hd',ud⟩,ges0z3w3⟩
        have yd:RQ es0z3w3 (.agg #[.int .i64 gd,.slice sd ld cd,.int .i64 gd',.slice sd' ld' cd']) ((0:Int):Rat) 5:=⟨gd,sd,ld,cd,gd',sd',ld',cd',nd,dd,rfl,hd,hd',ud⟩
        replace Bq:=A1 ges0z3w3 Bq
        replace Bu:=A1 ges0z3w3 Bu
        replace ru:=ru.kept ges0z3w3
        replace hG:=A2 hG ges0z3w3
        clear ges0z3w3
        clear hd hd'
        obtain ⟨Cq0,Cq1,Cq2,Cq3,Fq0,Fq1,Fq2,Fq3⟩:=B3 Bq
        obtain ⟨Cu0,Cu1,Fu0,Fu1⟩:=A3 Bu
        have yz:=RQ.zero5 yd HE5.out
        clear Cq0 Fq0 Cq1 Fq1 Cq2 Fq2 Cq3 Fq3 Cu0 Fu0 Cu1 Fu1
        obtain ⟨k90,k91,k92,k93,k94,k95,k96,k97⟩:=B3 Bq
        obtain ⟨q90,q91,q92,q93,q94,q95,q96,q97⟩:=B3 (Y8 Bq (.int .i64 gd) (.slice sd ld cd) (.int .i64 gd') (.slice sd' ld' cd'))
        have hF:Hid (dB w 0 E 3 (.returned (.tuple #[.agg #[.int .i64 gd,.slice sd ld cd,.int .i64 gd',.slice sd' ld' cd'],.int .i64 3])) ((((es0z3w3.setCell ⟨w.heap.size,0,none⟩ (.int .i64 gd)).setCell ⟨w.heap.size,1,none⟩ (.slice sd ld cd)).setCell ⟨w.heap.size,2,none⟩ (.int .i64 gd')).setCell ⟨w.heap.size,3,none⟩ (.slice sd' ld' cd'))):=fM hG Bq (by omega) yz
        clear ru yd yz
        obtain ⟨Cu0,Cu1,Fu0,Fu1⟩:=A3 Bu
        go_wp2_with fail
        exact bodyPost_ret (v := .tuple #[.agg #[.int .i64 gd,.slice sd ld cd,.int .i64 gd',.slice sd' ld' cd'],.int .i64 3]) (by simp [results,Tryz.results63,go_sem,q90,q91,q92,q93]) rfl hF.out
    · skip
      have hUe:U=s.extract 0 k:=by rw [<- hU];unfold fup;rw [if_neg (by omega),hx];rfl
      have hDe:D9=s.extract (k+1) s.size:=by rw [<- hD];unfold bV;rw [hx];rfl
      rw [hx]
      rcases hz with hz | hz
      · skip
        have HZP:Hid (∀ W,Calls Tryz.prog 122 #[.string (s.extract 0 k)] W (G0 W (I3 U) 0)):=fun W=>by rw [<- hz, <- hUe];exact aR W U
        rcases hn with hn | hn
        · skip
          have HNQ:Hid (∀ W,Calls Tryz.prog 124 #[.string (s.extract (k+1) s.size)] W (U3 W (K3 D9) 0)):=fun W=>by rw [<- hn, <- hDe];exact HNP.out W
          rcases Nat.eq_zero_or_pos (K3 D9) with h00 | h00
          · skip
            have HN0:=Lib.hid h00
            have hc9:c9=5:=by rw [hcv];simp [hz,hx,hn,h00,show ¬ ((k:Int)<0) by omega]
            have hv9:R9=0:=by rw [hfv,hc9];simp [hx]
            clear hcv hfv
            subst hc9
            subst hv9
            have hkb:(k:Int)<4000:=by omega
            clear hz hn hU hD hUs hDs hUe hx hs hDe
            clear h00
            obtain ⟨Cq0,Cq1,Cq2,Cq3,Fq0,Fq1,Fq2,Fq3⟩:=B3 Bq
            go_wp2_with fail
            clear Cq0 Fq0 Cq1 Fq1 Cq2 Fq2 Cq3 Fq3
            refine (HZP.out w0).mono ?_
            rintro e es1z0n0z1w1 ⟨_,rfl,⟨gu,su,lu,cu,rfl,hu,mu⟩,ges1z0n0z1w1⟩
            have ru:RIntV es1z0n0z1w1 (.agg #[.int .i64 gu,.slice su lu cu]) (I3 U):=⟨gu,su,lu,cu,rfl,hu,mu⟩
            replace Bq:=A1 ges1z0n0z1w1 Bq
            replace hG:=A2 hG ges1z0n0z1w1
            clear ges1z0n0z1w1
            clear mu
            obtain ⟨Cq0,Cq1,Cq2,Cq3,Fq0,Fq1,Fq2,Fq3⟩:=B3 Bq
            have gbes1z0n0z1w1:=(World.grownBy_alloc es1z0n0z1w1 (.cells #[.int .i64 gu,.slice su lu cu] 55) none)
            have Bu:=(A4 es1z0n0z1w1 (.cells #[.int .i64 gu,.slice su lu cu] 55) (es1z0n0z1w1.heap.size) rfl)
            have hzes1z0n0z1w1:Hid (w.heap.size<=es1z0n0z1w1.heap.size):=Lib.hid hG.size
            have hlqes1z0n0z1w1:Hid (w.heap.size<es1z0n0z1w1.heap.size):=Lib.hid (Array.getElem?_eq_some_iff.1 Bq).1
            clear Cq0 Fq0 Cq1 Fq1 Cq2 Fq2 Cq3 Fq3
            replace Bq:=A1 gbes1z0n0z1w1 Bq
            replace ru:=ru.kept gbes1z0n0z1w1
            replace hG:=A2 hG gbes1z0n0z1w1
            clear gbes1z0n0z1w1
            obtain ⟨Cq0,Cq1,Cq2,Cq3,Fq0,Fq1,Fq2,Fq3⟩:=B3 Bq
            obtain ⟨Cu0,Cu1,Fu0,Fu1⟩:=A3 Bu
            go_wp2_with fail
            generalize (es1z0n0z1w1.alloc (.cells #[.int .i64 gu,.slice su lu cu] 55))=es1z0n0z1w2 at *
            generalize es1z0n0z1w1.heap.size=aes1z0n0z1w1 at *
            replace hzes1z0n0z1w1:=hzes1z0n0z1w1.out
            replace hlqes1z0n0z1w1:=hlqes1z0n0z1w1.out
            clear Cq0 Fq0 Cq1 Fq1 Cq2 Fq2 Cq3 Fq3 Cu0 Fu0 Cu1 Fu1
            refine (HNQ.out es1z0n0z1w2).mono ?_
            rintro e es1z0n0z1w3 ⟨_,rfl,⟨sm,lm,cm,ym,rfl,hm⟩,ges1z0n0z1w3⟩
            have mm:RefV es1z0n0z1w3 (.agg #[.slice sm lm cm]) (K3 D9):=⟨sm,lm,cm,ym,rfl,hm⟩
            replace Bq:=A1 ges1z0n0z1w3 Bq
            replace Bu:=A1 ges1z0n0z1w3 Bu
            replace ru:=ru.kept ges1z0n0z1w3
            replace hG:=A2 hG ges1z0n0z1w3
            clear ges1z0n0z1w3
            clear hm
            obtain ⟨Cq0,Cq1,Cq2,Cq3,Fq0,Fq1,Fq2,Fq3⟩:=B3 Bq
            obtain ⟨Cu0,Cu1,Fu0,Fu1⟩:=A3 Bu
            obtain rfl:lm=0:=(uS mm).1 HN0.out
            have gbes1z0n0z1w3:=(World.grownBy_alloc es1z0n0z1w3 (.cells #[.slice sm 0 cm] 53) none)
            have Bm:=(A4 es1z0n0z1w3 (.cells #[.slice sm 0 cm] 53) (es1z0n0z1w3.heap.size) rfl)
            have hzes1z0n0z1w3:Hid (w.heap.size<=es1z0n0z1w3.heap.size):=Lib.hid hG.size
            have hlqes1z0n0z1w3:Hid (w.heap.size<es1z0n0z1w3.heap.size):=Lib.hid (Array.getElem?_eq_some_iff.1 Bq).1
            have hlues1z0n0z1w3:Hid (aes1z0n0z1w1<es1z0n0z1w3.heap.size):=Lib.hid (Array.getElem?_eq_some_iff.1 Bu).1
            clear Cq0 Fq0 Cq1 Fq1 Cq2 Fq2 Cq3 Fq3 Cu0 Fu0 Cu1 Fu1
            replace Bq:=A1 gbes1z0n0z1w3 Bq
            replace Bu:=A1 gbes1z0n0z1w3 Bu
            replace ru:=ru.kept gbes1z0n0z1w3
            replace mm:=mm.kept gbes1z0n0z1w3
            replace hG:=A2 hG gbes1z0n0z1w3
            clear gbes1z0n0z1w3
            obtain ⟨Cq0,Cq1,Cq2,Cq3,Fq0,Fq1,Fq2,Fq3⟩:=B3 Bq
            obtain ⟨Cu0,Cu1,Fu0,Fu1⟩:=A3 Bu
            obtain ⟨Cm0,Fm0⟩:=A7 Bm
            go_wp2_with fail
            generalize (es1z0n0z1w3.alloc (.cells #[.slice sm 0 cm] 53))=es1z0n0z1w4 at *
            generalize es1z0n0z1w3.heap.size=aes1z0n0z1w3 at *
            replace hzes1z0n0z1w3:=hzes1z0n0z1w3.out
            replace hlqes1z0n0z1w3:=hlqes1z0n0z1w3.out
            replace hlues1z0n0z1w3:=hlues1z0n0z1w3.out
            clear Cq0 Fq0 Cq1 Fq1 Cq2 Fq2 Cq3 Fq3 Cu0 Fu0 Cu1 Fu1 Cm0 Fm0
            refine (dW es1z0n0z1w4 0 (by omega) (by omega)).mono ?_
            rintro e es1z0n0z1w5 ⟨_,rfl,⟨gd,sd,ld,cd,gd',sd',ld',cd',nd,dd,rfl,hd,hd',ud⟩,ges1z0n0z1w5⟩
            have yd:RQ es1z0n0z1w5 (.agg #[.int .i64 gd,.slice sd ld cd,.int .i64 gd',.slice sd' ld' cd']) ((0:Int):Rat) 5:=⟨gd,sd,ld,cd,gd',sd',ld',cd',nd,dd,rfl,hd,hd',ud⟩
            replace Bq:=A1 ges1z0n0z1w5 Bq
            replace Bu:=A1 ges1z0n0z1w5 Bu
            replace Bm:=A1 ges1z0n0z1w5 Bm
            replace ru:=ru.kept ges1z0n0z1w5
            replace mm:=mm.kept ges1z0n0z1w5
            replace hG:=A2 hG ges1z0n0z1w5
            clear ges1z0n0z1w5
            clear hd hd'
            obtain ⟨Cq0,Cq1,Cq2,Cq3,Fq0,Fq1,Fq2,Fq3⟩:=B3 Bq
            obtain ⟨Cu0,Cu1,Fu0,Fu1⟩:=A3 Bu
            obtain ⟨Cm0,Fm0⟩:=A7 Bm
            have yz:=RQ.zero5 yd HE5.out
            clear Cq0 Fq0 Cq1 Fq1 Cq2 Fq2 Cq3 Fq3 Cu0 Fu0 Cu1 Fu1 Cm0 Fm0
            obtain ⟨k90,k91,k92,k93,k94,k95,k96,k97⟩:=B3 Bq
            obtain ⟨q90,q91,q92,q93,q94,q95,q96,q97⟩:=B3 (Y8 Bq (.int .i64 gd) (.slice sd ld cd) (.int .i64 gd') (.slice sd' ld' cd'))
            have hF:Hid (dB w 0 E 5 (.returned (.tuple #[.agg #[.int .i64 gd,.slice sd ld cd,.int .i64 gd',.slice sd' ld' cd'],.int .i64 5])) ((((es1z0n0z1w5.setCell ⟨w.heap.size,0,none⟩ (.int .i64 gd)).setCell ⟨w.heap.size,1,none⟩ (.slice sd ld cd)).setCell ⟨w.heap.size,2,none⟩ (.int .i64 gd')).setCell ⟨w.heap.size,3,none⟩ (.slice sd' ld' cd'))):=fM hG Bq (by omega) yz
            clear ru mm yd yz
            obtain ⟨Cu0,Cu1,Fu0,Fu1⟩:=A3 Bu
            obtain ⟨Cm0,Fm0⟩:=A7 Bm
            go_wp2_with fail
            exact bodyPost_ret (v := .tuple #[.agg #[.int .i64 gd,.slice sd ld cd,.int .i64 gd',.slice sd' ld' cd'],.int .i64 5]) (by simp [results,Tryz.results63,go_sem,q90,q91,q92,q93]) rfl hF.out
          · skip
            have HN0:=Lib.hid h00
            have HI:Hid (((K3 D9:Nat):Int)≠0/\((K3 D9:Nat):Int).natAbs<D^E/\((K3 D9:Nat):Int).sign=1/\((K3 D9:Nat):Int).natAbs=K3 D9):=⟨by omega,by rw [Int.natAbs_natCast];exact HNB.out,Int.sign_eq_one_of_pos (by omega),Int.natAbs_natCast _⟩
            have hc9:c9=0:=by rw [hcv];simp [hz,hx,hn,show ¬ (K3 D9=0) by omega,show ¬ ((k:Int)<0) by omega]
            have hv9:R9=Rat.divInt (I3 U) (K3 D9:Int):=by rw [hfv,hc9];simp [hx,show ¬ ((k:Int)<0) by omega]
            clear hcv hfv
            subst hc9
            have HV:=Lib.hid hv9
            clear hv9
            have hkb:(k:Int)<4000:=by omega
            clear hz hn hU hD hUs hDs hUe hx hs hDe
            clear h00
            obtain ⟨Cq0,Cq1,Cq2,Cq3,Fq0,Fq1,Fq2,Fq3⟩:=B3 Bq
            go_wp2_with fail
            clear Cq0 Fq0 Cq1 Fq1 Cq2 Fq2 Cq3 Fq3
            refine (HZP.out w0).mono ?_
            rintro e es1z0n0z0w1 ⟨_,rfl,⟨gu,su,lu,cu,rfl,hu,mu⟩,ges1z0n0z0w1⟩
            have ru:RIntV es1z0n0z0w1 (.agg #[.int .i64 gu,.slice su lu cu]) (I3 U):=⟨gu,su,lu,cu,rfl,hu,mu⟩
            replace Bq:=A1 ges1z0n0z0w1 Bq
            replace hG:=A2 hG ges1z0n0z0w1
            clear ges1z0n0z0w1
            clear mu
            obtain ⟨Cq0,Cq1,Cq2,Cq3,Fq0,Fq1,Fq2,Fq3⟩:=B3 Bq
            have gbes1z0n0z0w1:=(World.grownBy_alloc es1z0n0z0w1 (.cells #[.int .i64 gu,.slice su lu cu] 55) none)
            have Bu:=(A4 es1z0n0z0w1 (.cells #[.int .i64 gu,.slice su lu cu] 55) (es1z0n0z0w1.heap.size) rfl)
            have hzes1z0n0z0w1:Hid (w.heap.size<=es1z0n0z0w1.heap.size):=Lib.hid hG.size
            have hlqes1z0n0z0w1:Hid (w.heap.size<es1z0n0z0w1.heap.size):=Lib.hid (Array.getElem?_eq_some_iff.1 Bq).1
            clear Cq0 Fq0 Cq1 Fq1 Cq2 Fq2 Cq3 Fq3
            replace Bq:=A1 gbes1z0n0z0w1 Bq
            replace ru:=ru.kept gbes1z0n0z0w1
            replace hG:=A2 hG gbes1z0n0z0w1
            clear gbes1z0n0z0w1
            obtain ⟨Cq0,Cq1,Cq2,Cq3,Fq0,Fq1,Fq2,Fq3⟩:=B3 Bq
            obtain ⟨Cu0,Cu1,Fu0,Fu1⟩:=A3 Bu
            go_wp2_with fail
            generalize (es1z0n0z0w1.alloc (.cells #[.int .i64 gu,.slice su lu cu] 55))=es1z0n0z0w2 at *
            generalize es1z0n0z0w1.heap.size=aes1z0n0z0w1 at *
            replace hzes1z0n0z0w1:=hzes1z0n0z0w1.out
            replace hlqes1z0n0z0w1:=hlqes1z0n0z0w1.out
            clear Cq0 Fq0 Cq1 Fq1 Cq2 Fq2 Cq3 Fq3 Cu0 Fu0 Cu1 Fu1
            refine (HNQ.out es1z0n0z0w2).mono ?_
            rintro e es1z0n0z0w3 ⟨_,rfl,⟨sm,lm,cm,ym,rfl,hm⟩,ges1z0n0z0w3⟩
            have mm:RefV es1z0n0z0w3 (.agg #[.slice sm lm cm]) (K3 D9):=⟨sm,lm,cm,ym,rfl,hm⟩
            replace Bq:=A1 ges1z0n0z0w3 Bq
            replace Bu:=A1 ges1z0n0z0w3 Bu
            replace ru:=ru.kept ges1z0n0z0w3
            replace hG:=A2 hG ges1z0n0z0w3
            clear ges1z0n0z0w3
            clear hm
            obtain ⟨Cq0,Cq1,Cq2,Cq3,Fq0,Fq1,Fq2,Fq3⟩:=B3 Bq
            obtain ⟨Cu0,Cu1,Fu0,Fu1⟩:=A3 Bu
            have hl9:=(uS mm).2 HN0.out
            have f1:((lm:Int) == 0)=false:=beq_eq_false_iff_ne.2 (by omega)
            have gbes1z0n0z0w3:=(World.grownBy_alloc es1z0n0z0w3 (.cells #[.slice sm lm cm] 53) none)
            have Bm:=(A4 es1z0n0z0w3 (.cells #[.slice sm lm cm] 53) (es1z0n0z0w3.heap.size) rfl)
            have hzes1z0n0z0w3:Hid (w.heap.size<=es1z0n0z0w3.heap.size):=Lib.hid hG.size
            have hlqes1z0n0z0w3:Hid (w.heap.size<es1z0n0z0w3.heap.size):=Lib.hid (Array.getElem?_eq_some_iff.1 Bq).1
            have hlues1z0n0z0w3:Hid (aes1z0n0z0w1<es1z0n0z0w3.heap.size):=Lib.hid (Array.getElem?_eq_some_iff.1 Bu).1
            clear Cq0 Fq0 Cq1 Fq1 Cq2 Fq2 Cq3 Fq3 Cu0 Fu0 Cu1 Fu1
            replace Bq:=A1 gbes1z0n0z0w3 Bq
            replace Bu:=A1 gbes1z0n0z0w3 Bu
            replace ru:=ru.kept gbes1z0n0z0w3
            replace mm:=mm.kept gbes1z0n0z0w3
            replace hG:=A2 hG gbes1z0n0z0w3
            clear gbes1z0n0z0w3
            obtain ⟨Cq0,Cq1,Cq2,Cq3,Fq0,Fq1,Fq2,Fq3⟩:=B3 Bq
            obtain ⟨Cu0,Cu1,Fu0,Fu1⟩:=A3 Bu
            obtain ⟨Cm0,Fm0⟩:=A7 Bm
            go_wp2_with fail
            generalize (es1z0n0z0w3.alloc (.cells #[.slice sm lm cm] 53))=es1z0n0z0w4 at *
            generalize es1z0n0z0w3.heap.size=aes1z0n0z0w3 at *
            replace hzes1z0n0z0w3:=hzes1z0n0z0w3.out
            replace hlqes1z0n0z0w3:=hlqes1z0n0z0w3.out
            replace hlues1z0n0z0w3:=hlues1z0n0z0w3.out
            go_region_held3 (fun w'=>w'.cell? ⟨aes1z0n0z0w1,0,none⟩=some (.int .i64 gu)/\w'.cell? ⟨aes1z0n0z0w1,1,none⟩=some (.slice su lu cu)/\w'.cell? ⟨aes1z0n0z0w3,0,none⟩=some (.slice sm lm cm))
             (first | assumption | exact ⟨Cu0,Cu1,Cm0⟩ | exact HSes1z0n0z0w5_20 | go_keep)
             (first
              | (go_at_call 116;(with_reducible refine (T6 es1z0n0z0w4.drew _ 1 (K3 D9) ((K3 D9:Nat):Int) (mm.kept (C9 (A9 _ _))) HI.out.2.2.2 (Or.inr HI.out.2.2.1)).mono ?_);rintro e es1z0n0z0w5_1 ⟨v1,rfl,k1,ges1z0n0z0w5_1⟩;have hGes1z0n0z0w5_1:=H6 es1z0n0z0w4 ges1z0n0z0w5_1 rfl rfl rfl rfl;have hSes1z0n0z0w5_1:=(And.intro (hGes1z0n0z0w5_1.cell Cu0 (by simp)) (And.intro (hGes1z0n0z0w5_1.cell Cu1 (by simp)) (hGes1z0n0z0w5_1.cell Cm0 (by simp))));clear ges1z0n0z0w5_1)
              | (go_at_call 123;(with_reducible refine (pE es1z0n0z0w5_1 _ _ (I3 U) ((K3 D9:Nat):Int) E (ru.kept hGes1z0n0z0w5_1) k1 HI.out.1 HZB.out HI.out.2.1).mono ?_);rintro e es1z0n0z0w5_2 ⟨_,rfl,⟨gd,sd,ld,cd,gd',sd',ld',cd',nd,dd,rfl,hd,hd',ud⟩,ges1z0n0z0w5_2⟩;rw [<- HV.out] at ud;have hGes1z0n0z0w5_2:=A2 hGes1z0n0z0w5_1 ges1z0n0z0w5_2;replace k1:=k1.kept ges1z0n0z0w5_2;have yd:RQ es1z0n0z0w5_2 (.agg #[.int .i64 gd,.slice sd ld cd,.int .i64 gd',.slice sd' ld' cd']) R9 E:=⟨gd,sd,ld,cd,gd',sd',ld',cd',nd,dd,rfl,hd,hd',ud⟩;have hSes1z0n0z0w5_2:=(And.intro (hGes1z0n0z0w5_2.cell Cu0 (by simp)) (And.intro (hGes1z0n0z0w5_2.cell Cu1 (by simp)) (hGes1z0n0z0w5_2.cell Cm0 (by simp))));clear ges1z0n0z0w5_2;clear hd hd';(obtain ⟨dq0,dq1,dq2,dq3,dq4,dq5,dq6,dq7⟩:=B3 (A1 hGes1z0n0z0w5_2 Bq));have HSes1z0n0z0w5_20:=(And.intro ((A3 (W4 (A1 hGes1z0n0z0w5_2 Bu) (show aes1z0n0z0w1≠w.heap.size by omega) (.int .i64 gd) (.slice sd ld cd) (.int .i64 gd') (.slice sd' ld' cd'))).1) (And.intro ((A3 (W4 (A1 hGes1z0n0z0w5_2 Bu) (show aes1z0n0z0w1≠w.heap.size by omega) (.int .i64 gd) (.slice sd ld cd) (.int .i64 gd') (.slice sd' ld' cd'))).2.1) ((A7 (W4 (A1 hGes1z0n0z0w5_2 Bm) (show aes1z0n0z0w3≠w.heap.size by omega) (.int .i64 gd) (.slice sd ld cd) (.int .i64 gd') (.slice sd' ld' cd'))).1)))))
            replace Bq:=A1 hGes1z0n0z0w5_2 Bq
            replace Bu:=A1 hGes1z0n0z0w5_2 Bu
            replace Bm:=A1 hGes1z0n0z0w5_2 Bm
            replace ru:=ru.kept hGes1z0n0z0w5_2
            replace mm:=mm.kept hGes1z0n0z0w5_2
            replace hG:=A2 hG hGes1z0n0z0w5_2
            clear Cq0 Fq0 Cq1 Fq1 Cq2 Fq2 Cq3 Fq3 Cu0 Fu0 Cu1 Fu1 Cm0 Fm0
            obtain ⟨k90,k91,k92,k93,k94,k95,k96,k97⟩:=B3 Bq
            obtain ⟨q90,q91,q92,q93,q94,q95,q96,q97⟩:=B3 (Y8 Bq (.int .i64 gd) (.slice sd ld cd) (.int .i64 gd') (.slice sd' ld' cd'))
            have hF:Hid (dB w R9 E 0 (.returned (.tuple #[.agg #[.int .i64 gd,.slice sd ld cd,.int .i64 gd',.slice sd' ld' cd'],.int .i64 0])) ((((es1z0n0z0w5_2.setCell ⟨w.heap.size,0,none⟩ (.int .i64 gd)).setCell ⟨w.heap.size,1,none⟩ (.slice sd ld cd)).setCell ⟨w.heap.size,2,none⟩ (.int .i64 gd')).setCell ⟨w.heap.size,3,none⟩ (.slice sd' ld' cd'))):=fM hG Bq (by omega) yd
            clear ru mm k1 yd
            obtain ⟨Cu0,Cu1,Fu0,Fu1⟩:=A3 Bu
            obtain ⟨Cm0,Fm0⟩:=A7 Bm
            go_wp2_with fail
            exact bodyPost_ret (v := .tuple #[.agg #[.int .i64 gd,.slice sd ld cd,.int .i64 gd',.slice sd' ld' cd'],.int .i64 0]) (by simp [results,Tryz.results63,go_sem,q90,q91,q92,q93]) rfl hF.out
        · skip
          have HNQ:Hid (∀ W,Calls Tryz.prog 124 #[.string (s.extract (k+1) s.size)] W (U3 W (K3 D9) 3)):=fun W=>by rw [<- hn, <- hDe];exact HNP.out W
          have hc9:c9=3:=by rw [hcv];simp [hz,hx,hn,show ¬ ((k:Int)<0) by omega]
          have hv9:R9=0:=by rw [hfv,hc9];simp [hx]
          clear hcv hfv
          subst hc9
          subst hv9
          have hkb:(k:Int)<4000:=by omega
          clear hz hn hU hD hUs hDs hUe hx hs hDe
          obtain ⟨Cq0,Cq1,Cq2,Cq3,Fq0,Fq1,Fq2,Fq3⟩:=B3 Bq
          go_wp2_with fail
          clear Cq0 Fq0 Cq1 Fq1 Cq2 Fq2 Cq3 Fq3
          refine (HZP.out w0).mono ?_
          rintro e es1z0n3w1 ⟨_,rfl,⟨gu,su,lu,cu,rfl,hu,mu⟩,ges1z0n3w1⟩
          have ru:RIntV es1z0n3w1 (.agg #[.int .i64 gu,.slice su lu cu]) (I3 U):=⟨gu,su,lu,cu,rfl,hu,mu⟩
          replace Bq:=A1 ges1z0n3w1 Bq
          replace hG:=A2 hG ges1z0n3w1
          clear ges1z0n3w1
          clear mu
          obtain ⟨Cq0,Cq1,Cq2,Cq3,Fq0,Fq1,Fq2,Fq3⟩:=B3 Bq
          have gbes1z0n3w1:=(World.grownBy_alloc es1z0n3w1 (.cells #[.int .i64 gu,.slice su lu cu] 55) none)
          have Bu:=(A4 es1z0n3w1 (.cells #[.int .i64 gu,.slice su lu cu] 55) (es1z0n3w1.heap.size) rfl)
          have hzes1z0n3w1:Hid (w.heap.size<=es1z0n3w1.heap.size):=Lib.hid hG.size
          have hlqes1z0n3w1:Hid (w.heap.size<es1z0n3w1.heap.size):=Lib.hid (Array.getElem?_eq_some_iff.1 Bq).1
          clear Cq0 Fq0 Cq1 Fq1 Cq2 Fq2 Cq3 Fq3
          replace Bq:=A1 gbes1z0n3w1 Bq
          replace ru:=ru.kept gbes1z0n3w1
          replace hG:=A2 hG gbes1z0n3w1
          clear gbes1z0n3w1
          obtain ⟨Cq0,Cq1,Cq2,Cq3,Fq0,Fq1,Fq2,Fq3⟩:=B3 Bq
          obtain ⟨Cu0,Cu1,Fu0,Fu1⟩:=A3 Bu
          go_wp2_with fail
          generalize (es1z0n3w1.alloc (.cells #[.int .i64 gu,.slice su lu cu] 55))=es1z0n3w2 at *
          generalize es1z0n3w1.heap.size=aes1z0n3w1 at *
          replace hzes1z0n3w1:=hzes1z0n3w1.out
          replace hlqes1z0n3w1:=hlqes1z0n3w1.out
          clear Cq0 Fq0 Cq1 Fq1 Cq2 Fq2 Cq3 Fq3 Cu0 Fu0 Cu1 Fu1
          refine (HNQ.out es1z0n3w2).mono ?_
          rintro e es1z0n3w3 ⟨_,rfl,⟨sm,lm,cm,ym,rfl,hm⟩,ges1z0n3w3⟩
          have mm:RefV es1z0n3w3 (.agg #[.slice sm lm cm]) (K3 D9):=⟨sm,lm,cm,ym,rfl,hm⟩
          replace Bq:=A1 ges1z0n3w3 Bq
          replace Bu:=A1 ges1z0n3w3 Bu
          replace ru:=ru.kept ges1z0n3w3
          replace hG:=A2 hG ges1z0n3w3
          clear ges1z0n3w3
          clear hm
          obtain ⟨Cq0,Cq1,Cq2,Cq3,Fq0,Fq1,Fq2,Fq3⟩:=B3 Bq
          obtain ⟨Cu0,Cu1,Fu0,Fu1⟩:=A3 Bu
          have gbes1z0n3w3:=(World.grownBy_alloc es1z0n3w3 (.cells #[.slice sm lm cm] 53) none)
          have Bm:=(A4 es1z0n3w3 (.cells #[.slice sm lm cm] 53) (es1z0n3w3.heap.size) rfl)
          have hzes1z0n3w3:Hid (w.heap.size<=es1z0n3w3.heap.size):=Lib.hid hG.size
          have hlqes1z0n3w3:Hid (w.heap.size<es1z0n3w3.heap.size):=Lib.hid (Array.getElem?_eq_some_iff.1 Bq).1
          have hlues1z0n3w3:Hid (aes1z0n3w1<es1z0n3w3.heap.size):=Lib.hid (Array.getElem?_eq_some_iff.1 Bu).1
          clear Cq0 Fq0 Cq1 Fq1 Cq2 Fq2 Cq3 Fq3 Cu0 Fu0 Cu1 Fu1
          replace Bq:=A1 gbes1z0n3w3 Bq
          replace Bu:=A1 gbes1z0n3w3 Bu
          replace ru:=ru.kept gbes1z0n3w3
          replace mm:=mm.kept gbes1z0n3w3
          replace hG:=A2 hG gbes1z0n3w3
          clear gbes1z0n3w3
          obtain ⟨Cq0,Cq1,Cq2,Cq3,Fq0,Fq1,Fq2,Fq3⟩:=B3 Bq
          obtain ⟨Cu0,Cu1,Fu0,Fu1⟩:=A3 Bu
          obtain ⟨Cm0,Fm0⟩:=A7 Bm
          go_wp2_with fail
          generalize (es1z0n3w3.alloc (.cells #[.slice sm lm cm] 53))=es1z0n3w4 at *
          generalize es1z0n3w3.heap.size=aes1z0n3w3 at *
          replace hzes1z0n3w3:=hzes1z0n3w3.out
          replace hlqes1z0n3w3:=hlqes1z0n3w3.out
          replace hlues1z0n3w3:=hlues1z0n3w3.out
          clear Cq0 Fq0 Cq1 Fq1 Cq2 Fq2 Cq3 Fq3 Cu0 Fu0 Cu1 Fu1 Cm0 Fm0
          refine (dW es1z0n3w4 0 (by omega) (by omega)).mono ?_
          rintro e es1z0n3w5 ⟨_,rfl,⟨gd,sd,ld,cd,gd',sd',ld',cd',nd,dd,rfl,hd,hd',ud⟩,ges1z0n3w5⟩
          have yd:RQ es1z0n3w5 (.agg #[.int .i64 gd,.slice sd ld cd,.int .i64 gd',.slice sd' ld' cd']) ((0:Int):Rat) 5:=⟨gd,sd,ld,cd,gd',sd',ld',cd',nd,dd,rfl,hd,hd',ud⟩
          replace Bq:=A1 ges1z0n3w5 Bq
          replace Bu:=A1 ges1z0n3w5 Bu
          replace Bm:=A1 ges1z0n3w5 Bm
          replace ru:=ru.kept ges1z0n3w5
          replace mm:=mm.kept ges1z0n3w5
          replace hG:=A2 hG ges1z0n3w5
          clear ges1z0n3w5
          clear hd hd'
          obtain ⟨Cq0,Cq1,Cq2,Cq3,Fq0,Fq1,Fq2,Fq3⟩:=B3 Bq
          obtain ⟨Cu0,Cu1,Fu0,Fu1⟩:=A3 Bu
          obtain ⟨Cm0,Fm0⟩:=A7 Bm
          have yz:=RQ.zero5 yd HE5.out
          clear Cq0 Fq0 Cq1 Fq1 Cq2 Fq2 Cq3 Fq3 Cu0 Fu0 Cu1 Fu1 Cm0 Fm0
          obtain ⟨k90,k91,k92,k93,k94,k95,k96,k97⟩:=B3 Bq
          obtain ⟨q90,q91,q92,q93,q94,q95,q96,q97⟩:=B3 (Y8 Bq (.int .i64 gd) (.slice sd ld cd) (.int .i64 gd') (.slice sd' ld' cd'))
          have hF:Hid (dB w 0 E 3 (.returned (.tuple #[.agg #[.int .i64 gd,.slice sd ld cd,.int .i64 gd',.slice sd' ld' cd'],.int .i64 3])) ((((es1z0n3w5.setCell ⟨w.heap.size,0,none⟩ (.int .i64 gd)).setCell ⟨w.heap.size,1,none⟩ (.slice sd ld cd)).setCell ⟨w.heap.size,2,none⟩ (.int .i64 gd')).setCell ⟨w.heap.size,3,none⟩ (.slice sd' ld' cd'))):=fM hG Bq (by omega) yz
          clear ru mm yd yz
          obtain ⟨Cu0,Cu1,Fu0,Fu1⟩:=A3 Bu
          obtain ⟨Cm0,Fm0⟩:=A7 Bm
          go_wp2_with fail
          exact bodyPost_ret (v := .tuple #[.agg #[.int .i64 gd,.slice sd ld cd,.int .i64 gd',.slice sd' ld' cd'],.int .i64 3]) (by simp [results,Tryz.results63,go_sem,q90,q91,q92,q93]) rfl hF.out
      · skip
        have HZP:Hid (∀ W,Calls Tryz.prog 122 #[.string (s.extract 0 k)] W (G0 W (I3 U) 3)):=fun W=>by rw [<- hz, <- hUe];exact aR W U
        have hc9:c9=3:=by rw [hcv];simp [hz,hx]
        have hv9:R9=0:=by rw [hfv,hc9];simp [hx]
        clear hcv hfv
        subst hc9
        subst hv9
        have hkb:(k:Int)<4000:=by omega
        clear hz hn hU hD hUs hDs hUe hx hs hDe
        obtain ⟨Cq0,Cq1,Cq2,Cq3,Fq0,Fq1,Fq2,Fq3⟩:=B3 Bq
        go_wp2_with fail
        clear Cq0 Fq0 Cq1 Fq1 Cq2 Fq2 Cq3 Fq3
        refine (HZP.out w0).mono ?_
        rintro e es1z3w1 ⟨_,rfl,⟨gu,su,lu,cu,rfl,hu,mu⟩,ges1z3w1⟩
        have ru:RIntV es1z3w1 (.agg #[.int .i64 gu,.slice su lu cu]) (I3 U):=⟨gu,su,lu,cu,rfl,hu,mu⟩
        replace Bq:=A1 ges1z3w1 Bq
        replace hG:=A2 hG ges1z3w1
        clear ges1z3w1
        clear mu
        obtain ⟨Cq0,Cq1,Cq2,Cq3,Fq0,Fq1,Fq2,Fq3⟩:=B3 Bq
        have gbes1z3w1:=(World.grownBy_alloc es1z3w1 (.cells #[.int .i64 gu,.slice su lu cu] 55) none)
        have Bu:=(A4 es1z3w1 (.cells #[.int .i64 gu,.slice su lu cu] 55) (es1z3w1.heap.size) rfl)
        have hzes1z3w1:Hid (w.heap.size<=es1z3w1.heap.size):=Lib.hid hG.size
        have hlqes1z3w1:Hid (w.heap.size<es1z3w1.heap.size):=Lib.hid (Array.getElem?_eq_some_iff.1 Bq).1
        clear Cq0 Fq0 Cq1 Fq1 Cq2 Fq2 Cq3 Fq3
        replace Bq:=A1 gbes1z3w1 Bq
        replace ru:=ru.kept gbes1z3w1
        replace hG:=A2 hG gbes1z3w1
        clear gbes1z3w1
        obtain ⟨Cq0,Cq1,Cq2,Cq3,Fq0,Fq1,Fq2,Fq3⟩:=B3 Bq
        obtain ⟨Cu0,Cu1,Fu0,Fu1⟩:=A3 Bu
        go_wp2_with fail
        generalize (es1z3w1.alloc (.cells #[.int .i64 gu,.slice su lu cu] 55))=es1z3w2 at *
        generalize es1z3w1.heap.size=aes1z3w1 at *
        replace hzes1z3w1:=hzes1z3w1.out
        replace hlqes1z3w1:=hlqes1z3w1.out
        clear Cq0 Fq0 Cq1 Fq1 Cq2 Fq2 Cq3 Fq3 Cu0 Fu0 Cu1 Fu1
        refine (dW es1z3w2 0 (by omega) (by omega)).mono ?_
        rintro e es1z3w3 ⟨_,rfl,⟨gd,sd,ld,cd,gd',sd',ld',cd',nd,dd,rfl,hd,hd',ud⟩,ges1z3w3⟩
        have yd:RQ es1z3w3 (.agg #[.int .i64 gd,.slice sd ld cd,.int .i64 gd',.slice sd' ld' cd']) ((0:Int):Rat) 5:=⟨gd,sd,ld,cd,gd',sd',ld',cd',nd,dd,rfl,hd,hd',ud⟩
        replace Bq:=A1 ges1z3w3 Bq
        replace Bu:=A1 ges1z3w3 Bu
        replace ru:=ru.kept ges1z3w3
        replace hG:=A2 hG ges1z3w3
        clear ges1z3w3
        clear hd hd'
        obtain ⟨Cq0,Cq1,Cq2,Cq3,Fq0,Fq1,Fq2,Fq3⟩:=B3 Bq
        obtain ⟨Cu0,Cu1,Fu0,Fu1⟩:=A3 Bu
        have yz:=RQ.zero5 yd HE5.out
        clear Cq0 Fq0 Cq1 Fq1 Cq2 Fq2 Cq3 Fq3 Cu0 Fu0 Cu1 Fu1
        obtain ⟨k90,k91,k92,k93,k94,k95,k96,k97⟩:=B3 Bq
        obtain ⟨q90,q91,q92,q93,q94,q95,q96,q97⟩:=B3 (Y8 Bq (.int .i64 gd) (.slice sd ld cd) (.int .i64 gd') (.slice sd' ld' cd'))
        have hF:Hid (dB w 0 E 3 (.returned (.tuple #[.agg #[.int .i64 gd,.slice sd ld cd,.int .i64 gd',.slice sd' ld' cd'],.int .i64 3])) ((((es1z3w3.setCell ⟨w.heap.size,0,none⟩ (.int .i64 gd)).setCell ⟨w.heap.size,1,none⟩ (.slice sd ld cd)).setCell ⟨w.heap.size,2,none⟩ (.int .i64 gd')).setCell ⟨w.heap.size,3,none⟩ (.slice sd' ld' cd'))):=fM hG Bq (by omega) yz
        clear ru yd yz
        obtain ⟨Cu0,Cu1,Fu0,Fu1⟩:=A3 Bu
        go_wp2_with fail
        exact bodyPost_ret (v := .tuple #[.agg #[.int .i64 gd,.slice sd ld cd,.int .i64 gd',.slice sd' ld' cd'],.int .i64 3]) (by simp [results,Tryz.results63,go_sem,q90,q91,q92,q93]) rfl hF.out
  · skip
    obtain ⟨m,rfl⟩:∃ m:Nat,k=m+1:=⟨k-1,by omega⟩
    obtain rfl:j=(m:Int):=by omega
    have hm:m<s.size:=by omega
    clear hj h0
    have hst:=HST.out m hm
    obtain ⟨y,ey⟩:∃ y,(s[m]'hm).toNat=y:=⟨_,rfl⟩
    rw [ey] at hst
    by_cases hy:y=47
    · skip
      rw [if_pos hy] at hst
      subst hy
      have HST9:=Lib.hid hst
      clear hst hcv hfv hz hn hU hD hUs hDs hs hx9 HNP HZB HNB HG0 HBQ HS0 HSE HST
      have hs:=HSS.out
      go_wp2_with fail
      go_roundw
      case rel=>exact ⟨(m:Int)-1,m,by omega,rfl,by go_num,by rw [HST9.out],by trivial⟩
      case measure=>(simp [intOf]<;>omega)
    · skip
      rw [if_neg hy] at hst
      have f9:((y:Int) == 47)=false:=beq_eq_false_iff_ne.2 (by omega)
      have HST9:=Lib.hid hst
      clear hst hcv hfv hz hn hU hD hUs hDs hs hx9 HNP HZB HNB HG0 HBQ HS0 HSE HST
      have hs:=HSS.out
      go_wp2_with fail
      go_roundw
      case rel=>exact ⟨(m:Int)-1,m,by omega,rfl,by go_num,by rw [HST9.out],by trivial⟩
      case measure=>(simp [intOf]<;>omega)
end Go.Proofs.YtdgdmicbbfoghaaGreatDoor
namespace Go.Proofs.YtdgdmicbbfoghaaGreatDoor
open Go.RowKit Mat Ex
theorem bH (E:Nat) (h : 1<=E) : 1<B^E:=Nat.one_lt_pow (by omega) (by unfold B;decide)
theorem sq_bd {u v m:Int} {K:Nat} (lu:u.natAbs<B^K) (lv:v.natAbs<B^K) (lm:m.natAbs<B^K):(u*u+v*v*m).natAbs<B^(K+K+K+1):=
 aP (D2 (G3 lu lu) (by omega)) (G3 (G3 lv lv) lm)
theorem uI {u v:Int} {K:Nat} (lu:u.natAbs<B^K) (lv:v.natAbs<B^K):(u*v+u*v).natAbs<B^(K+K+K+1):=
 D2 (aP (G3 lu lv) (G3 lu lv)) (by omega)
theorem less_bd {u x n:Int} {L:Nat} (lu:u.natAbs<B^L) (lx:x.natAbs<B^L) (ln:n.natAbs<B^L):(u-x*n).natAbs<B^(L+L+1):=
 ssub_bd (D2 lu (by omega)) (G3 lx ln)
def sqs (m n u v x y:Int):Int:=sos ((u*u+v*v*m)-(x*x+y*y*m)*n).sign (((u*v+u*v)-(x*y+x*y)*n).sign*m.sign) (((u*u+v*v*m)-(x*x+y*y*m)*n)*((u*u+v*v*m)-(x*x+y*y*m)*n)-((u*v+u*v)-(x*y+x*y)*n)*((u*v+u*v)-(x*y+x*y)*n)*m).sign
theorem sqs_one3 (m n u v x y:Int):One3 (sqs m n u v x y):=sos_one3 (H4 _) ((H4 _).mul (H4 _)) (H4 _)
def psz (u v m:Int):Int:=sos u.sign (v.sign*m.sign) (u*u-v*v*m).sign
theorem pF (u v m:Int):One3 (psz u v m):=sos_one3 (H4 _) ((H4 _).mul (H4 _)) (H4 _)
def ssz (m n a b c d:Int):Int:=sos (psz a b m) (psz c d m*n.sign) (sqs m n a b c d)
def vW (C r:Rat):Rat:=C*(((r*C).den:Int):Rat)
def cfine (E:Nat) (C:Rat):Prop:=∃ c:Nat,C=(((c:Int)):Rat)/\0<c/\c<B^E
theorem cfine.bd {E:Nat} {C:Rat} (h:cfine E C):C.num.natAbs<B^E/\C.den=1:=by
 obtain ⟨c,rfl,h0,h1⟩:=h
 exact ⟨by rw [Rat.num_intCast,Int.natAbs_natCast];exact h1,Rat.den_intCast _⟩
theorem cmul_den {E:Nat} {r C:Rat} (h:cfine E C):(r*C).den<=r.den:=by
 rw [jH,h.bd.2,Nat.gcd_one_right,Nat.div_one,Nat.mul_one];exact Nat.div_le_self _ _
theorem I7 {E K:Nat} {r C:Rat} (h:cfine E C) (hr:r.num.natAbs<B^K):(r*C).num.natAbs<B^(K+E):=by
 rw [jG,h.bd.2,Nat.gcd_one_right,Int.natAbs_mul,Nat.pow_add]
 refine Nat.mul_lt_mul'' ?_ ?_
 · rw [show ((1:Nat):Int)=1 from rfl,Int.ediv_one];exact hr
 · refine Nat.lt_of_le_of_lt ?_ h.bd.1
   exact Int.natAbs_ediv_le_natAbs _ _
theorem cfine.next {E K:Nat} {r C:Rat} (h:cfine E C) (hr:r.den<B^K):cfine (E+K) (C*(((r*C).den:Int):Rat)):=by
 have hd:=cmul_den (r:=r) h
 obtain ⟨c,rfl,h0,h1⟩:=h
 refine ⟨c*(r*((c:Int):Rat)).den, ?_,Nat.mul_pos h0 (Rat.den_pos _), ?_⟩
 · rw [Int.natCast_mul,Rat.intCast_mul]
 · rw [Nat.pow_add];exact Nat.mul_lt_mul'' h1 (Nat.lt_of_le_of_lt hd hr)
theorem cfine.mono {E F:Nat} {C:Rat} (h:cfine E C) (hF:E<=F):cfine F C:=by
 obtain ⟨c,e,h0,h1⟩:=h
 exact ⟨c,e,h0,Nat.lt_of_lt_of_le h1 (Nat.pow_le_pow_right (by unfold B;decide) hF)⟩
theorem cone:cfine 1 1:=⟨1,rfl,by decide,by unfold B;decide⟩
def iw (x:Rat):Prop:=∃ z:Int,x=(z:Rat)
theorem den_mul (e:Rat):e*(((e.den:Int)):Rat)=(e.num:Rat):=by
 have h9:Rat.divInt e.num (e.den:Int)=e:=Rat.num_divInt_den e
 rw [Rat.divInt_eq_div] at h9
 conv=>lhs;lhs;rw [<- h9]
 have h3:(0:Rat)<(e.den:Rat):=Rat.natCast_pos.2 e.den_pos
 have h10:((e.den:Int):Rat)=(e.den:Rat):=rfl
 rw [h10]
 exact Rat.div_mul_cancel (by grind)
theorem vK (r C:Rat):iw (r*vW C r):=by
 refine ⟨(r*C).num, ?_⟩
 unfold vW
 rw [<- Rat.mul_assoc]
 exact den_mul _
theorem fU {r C:Rat} (t:Rat) (h:iw (r*C)):iw (r*vW C t):=by
 obtain ⟨z,hz⟩:=h
 refine ⟨z*((t*C).den:Int), ?_⟩
 unfold vW
 rw [<- Rat.mul_assoc,hz,Rat.intCast_mul]
theorem vJ {x:Rat} (h:iw x):(x.num:Rat)=x:=by
 obtain ⟨z,rfl⟩:=h;rw [Rat.num_intCast]
def J9 (r0 r1 r2 r3:Rat):Rat:=vW (vW (vW (vW 1 r0) r1) r2) r3
theorem wden_num (r0 r1 r2 r3:Rat):((r0*J9 r0 r1 r2 r3).num:Rat)=r0*J9 r0 r1 r2 r3/\((r1*J9 r0 r1 r2 r3).num:Rat)=r1*J9 r0 r1 r2 r3/\((r2*J9 r0 r1 r2 r3).num:Rat)=r2*J9 r0 r1 r2 r3/\((r3*J9 r0 r1 r2 r3).num:Rat)=r3*J9 r0 r1 r2 r3:=
 ⟨vJ (fU _ (fU _ (fU _ (vK _ _)))),vJ (fU _ (fU _ (vK _ _))),vJ (fU _ (vK _ _)),vJ (vK _ _)⟩
theorem fC {K:Nat} {r0 r1 r2 r3:Rat} (b0:Bd1 K r0) (b1:Bd1 K r1) (b2:Bd1 K r2) (b3:Bd1 K r3):cfine (1+K+K+K+K) (J9 r0 r1 r2 r3):=
 (((cone.next b0.2).next b1.2).next b2.2).next b3.2
def kE (w:World) (z0 z1 z2 z3 s:Int) (e:Ending) (w':World):Prop:=∃ v u,e = .returned (.tuple #[v,u])/\IntsV w' v z0 z1 z2 z3/\IntV w' u s/\w.grownBy w' none
theorem ssz_ssg (m n:Nat) (a b c d:Int):ssz (m:Int) (n:Int) a b c d=ssg m n a b c d:=rfl
theorem wden_pos {K:Nat} {r0 r1 r2 r3:Rat} (b0:Bd1 K r0) (b1:Bd1 K r1) (b2:Bd1 K r2) (b3:Bd1 K r3) : 0<J9 r0 r1 r2 r3:=by
 obtain ⟨c,e,h0,_⟩:=fC b0 b1 b2 b3
 rw [e];exact Rat.intCast_pos.2 (by omega)
theorem oO {K:Nat} (m n:Nat) {r0 r1 r2 r3:Rat} (b0:Bd1 K r0) (b1:Bd1 K r1) (b2:Bd1 K r2) (b3:Bd1 K r3) :
 ssz (m:Int) (n:Int) (r0*J9 r0 r1 r2 r3).num (r1*J9 r0 r1 r2 r3).num (r2*J9 r0 r1 r2 r3).num (r3*J9 r0 r1 r2 r3).num=sg4 m n r0 r1 r2 r3:=by
 obtain ⟨h0,h1,h2,h3⟩:=wden_num r0 r1 r2 r3
 rw [ssz_ssg, <- ssg_rs,h0,h1,h2,h3]
 exact kQ m n r0 r1 r2 r3 (wden_pos b0 b1 b2 b3)
theorem G4 {E:Nat} {z:Int} (hE : 1<=E) (h:z.natAbs<B^E):Bd1 E (z:Rat):=⟨by rw [Rat.num_intCast];exact h,by rw [Rat.den_intCast];exact bH E hE⟩
def sWh (z0 z1 z2 z3 s:Int):Sp := .of (.tup [(none,9),(none,3)]) (fun v W=>∃ u t,v = .tuple #[u,t]/\IntsV W u z0 z1 z2 z3/\IntV W t s) (fun v W h=>by
 obtain ⟨u,t,rfl,⟨s0,x0,b0,s1,x1,b1,s2,x2,b2,s3,x3,b3,rfl,_⟩,s4,x4,b4,rfl,_⟩:=h
 exact X6 (u := .bool true) (cs:=[.slice s0 x0.length x0.length,.bool b0,.slice s1 x1.length x1.length,.bool b1,.slice s2 x2.length x2.length,.bool b2,.slice s3 x3.length x3.length,.bool b3,.slice s4 x4.length x4.length,.bool b4]) (by simp [Value.oneCell']) rfl) (fun v W W' k h=>by obtain ⟨u,t,e,h,h'⟩:=h;exact ⟨u,t,e,h.keeps k,h'.keeps k⟩)
theorem wh1 {z0 z1 z2 z3 s:Int} {a b:Value} {W:World} : (sWh z0 z1 z2 z3 s).F (.tuple #[a,b]) W->IntsV W a z0 z1 z2 z3:=by rintro ⟨u,t,e,h,_⟩;cases e;exact h
theorem wh2 {z0 z1 z2 z3 s:Int} {a b:Value} {W:World} : (sWh z0 z1 z2 z3 s).F (.tuple #[a,b]) W->IntV W b s:=by rintro ⟨u,t,e,_,h⟩;cases e;exact h
theorem toWh {P:Program} {f:FuncId} {args:Array Value} {W:World} {z0 z1 z2 z3 s:Int} (h:Calls P f args W (kE W z0 z1 z2 z3 s)):Calls P f args W (Ret W (sWh z0 z1 z2 z3 s).F):=h.mono fun _ _ ⟨v,u,a,h,h',g⟩=>⟨_,a,⟨v,u,rfl,h,h'⟩,g⟩
theorem rB (w:World) (va:Value) (m n:Int) (r0 r1 r2 r3:Rat) (K:Nat) (Ha:SurdV w va m n r0 r1 r2 r3) (hK:K<=10000) (b0:Bd1 K r0) (b1:Bd1 K r1) (b2:Bd1 K r2) (b3:Bd1 K r3) (hTab:Tab w) :
 Calls Tryz.prog 51 #[va] w (kE w (r0*J9 r0 r1 r2 r3).num (r1*J9 r0 r1 r2 r3).num (r2*J9 r0 r1 r2 r3).num (r3*J9 r0 r1 r2 r3).num (J9 r0 r1 r2 r3).num):=by
 have E1 : 1<=5*K+1:=by omega
 have f1:=cone.next b0.2
 have f2:=f1.next b1.2
 have f3:=f2.next b2.2
 have f4:=f3.next b3.2
 obtain ⟨C1,c1⟩:∃ C,1*(((r0*1).den:Int):Rat)=C:=⟨_,rfl⟩
 rw [c1] at f1 f2 f3 f4
 obtain ⟨C2,c2⟩:∃ C,C1*(((r1*C1).den:Int):Rat)=C:=⟨_,rfl⟩
 rw [c2] at f2 f3 f4
 obtain ⟨C3,c3⟩:∃ C,C2*(((r2*C2).den:Int):Rat)=C:=⟨_,rfl⟩
 rw [c3] at f3 f4
 obtain ⟨C4,c4⟩:∃ C,C3*(((r3*C3).den:Int):Rat)=C:=⟨_,rfl⟩
 rw [c4] at f4
 have hw:J9 r0 r1 r2 r3=C4:=by unfold J9 vW;rw [c1,c2,c3,c4]
 rw [hw]
 have hk:∀ {E:Nat} {C:Rat},cfine E C->E<=5*K+1->Bd1 (5*K+1) C:=fun h e=>⟨(h.mono e).bd.1,by rw [(h.mono e).bd.2];exact bH _ E1⟩
 have hbb:∀ {r:Rat},Bd1 K r->Bd1 (5*K+1) r:=fun h=>h.mono (by omega)
 have hd:∀ {E:Nat} {r C:Rat},Bd1 K r->cfine E C->(r*C).den<B^(5*K+1):=fun h f=>D2 (Nat.lt_of_le_of_lt (cmul_den f) h.2) (by omega)
 have f0:=cone
 have HT:∀ W,w.grownBy W none->Tab W:=fun W g=>hTab.kept g (by simp)
 refine A6 B5 Tryz.func51 [sSd m n r0 r1 r2 r3] [sI 1,sQ 1,sQ (r0*1),sI ((r0*1).den:Int),sQ (((r0*1).den:Int):Rat),sQ C1,sQ (r1*C1),sI ((r1*C1).den:Int),sQ (((r1*C1).den:Int):Rat),sQ C2,sQ (r2*C2),sI ((r2*C2).den:Int),sQ (((r2*C2).den:Int):Rat),sQ C3,sQ (r3*C3),sI ((r3*C3).den:Int),sQ (((r3*C3).den:Int):Rat),sQ C4,sQ (r0*C4),sI (r0*C4).num,sQ (r1*C4),sI (r1*C4).num,sQ (r2*C4),sI (r2*C4).num,sQ (r3*C4),sI (r3*C4).num,sI C4.num] (.cons Ha .nil) (rs:=[cl 1 10 [.v false [.lit (.int .i64 1)]],cl 2 9 [ag 2 1],cl 3 67 [.v true [.an 0 4,.an 0 5,.an 0 6,.an 0 7],ag 4 2],cl 4 109 [ag 4 3],cl 5 9 [ag 2 4],cl 6 67 [ag 4 2,ag 4 5],cl 7 67 [.v true [.an 0 8,.an 0 9,.an 0 10,.an 0 11],ag 4 6],cl 8 109 [ag 4 7],cl 9 9 [ag 2 8],cl 10 67 [ag 4 6,ag 4 9],cl 11 67 [.v true [.an 0 12,.an 0 13,.an 0 14,.an 0 15],ag 4 10],cl 12 109 [ag 4 11],cl 13 9 [ag 2 12],cl 14 67 [ag 4 10,ag 4 13],cl 15 67 [.v true [.an 0 16,.an 0 17,.an 0 18,.an 0 19],ag 4 14],cl 16 109 [ag 4 15],cl 17 9 [ag 2 16],cl 18 67 [ag 4 14,ag 4 17],cl 19 67 [.v true [.an 0 4,.an 0 5,.an 0 6,.an 0 7],ag 4 18],cl 20 90 [ag 4 19],cl 21 67 [.v true [.an 0 8,.an 0 9,.an 0 10,.an 0 11],ag 4 18],cl 22 90 [ag 4 21],cl 23 67 [.v true [.an 0 12,.an 0 13,.an 0 14,.an 0 15],ag 4 18],cl 24 90 [ag 4 23],cl 25 67 [.v true [.an 0 16,.an 0 17,.an 0 18,.an 0 19],ag 4 18],cl 26 90 [ag 4 25],cl 27 90 [ag 4 18]]) (out := .tup [(true,[.an 20 0,.an 20 1,.an 22 0,.an 22 1,.an 24 0,.an 24 1,.an 26 0,.an 26 1]),(true,[.an 27 0,.an 27 1])]) (nc:=28) (by kernel_rfl)
  ⟨fun σ W g h hb=>B8 W 1 (by omega) (by omega),
  fun σ W g h hb=>B4 W _ 1 1 (h 1 rfl) (by omega) (bH 1 (by omega)),
  fun σ W g h hb=>B6 W _ _ r0 1 (5*K+1) (sd1 (h 0 rfl)) (h 2 rfl) (by omega) (hbb b0).1 (hbb b0).2 (hk f0 (by omega)).1 (hk f0 (by omega)).2 (HT W g),
  fun σ W g h hb=>kI W _ (r0*1) (5*K+1) (h 3 rfl) (by omega) (hd b0 f0),
  fun σ W g h hb=>B4 W _ _ (5*K+1) (h 4 rfl) (by omega) (ldi (hd b0 f0)),
  fun σ W g h hb=>c1 ▸ B6 W _ _ 1 (((r0*1).den:Int):Rat) (5*K+1) (h 2 rfl) (h 5 rfl) (by omega) (hk f0 (by omega)).1 (hk f0 (by omega)).2 (G4 E1 (ldi (hd b0 f0))).1 (G4 E1 (ldi (hd b0 f0))).2 (HT W g),
  fun σ W g h hb=>B6 W _ _ r1 C1 (5*K+1) (sd2 (h 0 rfl)) (h 6 rfl) (by omega) (hbb b1).1 (hbb b1).2 (hk f1 (by omega)).1 (hk f1 (by omega)).2 (HT W g),
  fun σ W g h hb=>kI W _ (r1*C1) (5*K+1) (h 7 rfl) (by omega) (hd b1 f1),
  fun σ W g h hb=>B4 W _ _ (5*K+1) (h 8 rfl) (by omega) (ldi (hd b1 f1)),
  fun σ W g h hb=>c2 ▸ B6 W _ _ C1 (((r1*C1).den:Int):Rat) (5*K+1) (h 6 rfl) (h 9 rfl) (by omega) (hk f1 (by omega)).1 (hk f1 (by omega)).2 (G4 E1 (ldi (hd b1 f1))).1 (G4 E1 (ldi (hd b1 f1))).2 (HT W g),
  fun σ W g h hb=>B6 W _ _ r2 C2 (5*K+1) (sd3 (h 0 rfl)) (h 10 rfl) (by omega) (hbb b2).1 (hbb b2).2 (hk f2 (by omega)).1 (hk f2 (by omega)).2 (HT W g),
  fun σ W g h hb=>kI W _ (r2*C2) (5*K+1) (h 11 rfl) (by omega) (hd b2 f2),
  fun σ W g h hb=>B4 W _ _ (5*K+1) (h 12 rfl) (by omega) (ldi (hd b2 f2)),
  fun σ W g h hb=>c3 ▸ B6 W _ _ C2 (((r2*C2).den:Int):Rat) (5*K+1) (h 10 rfl) (h 13 rfl) (by omega) (hk f2 (by omega)).1 (hk f2 (by omega)).2 (G4 E1 (ldi (hd b2 f2))).1 (G4 E1 (ldi (hd b2 f2))).2 (HT W g),
  fun σ W g h hb=>B6 W _ _ r3 C3 (5*K+1) (sd4 (h 0 rfl)) (h 14 rfl) (by omega) (hbb b3).1 (hbb b3).2 (hk f3 (by omega)).1 (hk f3 (by omega)).2 (HT W g),
  fun σ W g h hb=>kI W _ (r3*C3) (5*K+1) (h 15 rfl) (by omega) (hd b3 f3),
  fun σ W g h hb=>B4 W _ _ (5*K+1) (h 16 rfl) (by omega) (ldi (hd b3 f3)),
  fun σ W g h hb=>c4 ▸ B6 W _ _ C3 (((r3*C3).den:Int):Rat) (5*K+1) (h 14 rfl) (h 17 rfl) (by omega) (hk f3 (by omega)).1 (hk f3 (by omega)).2 (G4 E1 (ldi (hd b3 f3))).1 (G4 E1 (ldi (hd b3 f3))).2 (HT W g),
  fun σ W g h hb=>B6 W _ _ r0 C4 (5*K+1) (sd1 (h 0 rfl)) (h 18 rfl) (by omega) (hbb b0).1 (hbb b0).2 (hk f4 (by omega)).1 (hk f4 (by omega)).2 (HT W g),
  fun σ W g h hb=>cH W _ (r0*C4) (6*K+1) (h 19 rfl) (by omega) (D2 (I7 f4 b0.1) (by omega)),
  fun σ W g h hb=>B6 W _ _ r1 C4 (5*K+1) (sd2 (h 0 rfl)) (h 18 rfl) (by omega) (hbb b1).1 (hbb b1).2 (hk f4 (by omega)).1 (hk f4 (by omega)).2 (HT W g),
  fun σ W g h hb=>cH W _ (r1*C4) (6*K+1) (h 21 rfl) (by omega) (D2 (I7 f4 b1.1) (by omega)),
  fun σ W g h hb=>B6 W _ _ r2 C4 (5*K+1) (sd3 (h 0 rfl)) (h 18 rfl) (by omega) (hbb b2).1 (hbb b2).2 (hk f4 (by omega)).1 (hk f4 (by omega)).2 (HT W g),
  fun σ W g h hb=>cH W _ (r2*C4) (6*K+1) (h 23 rfl) (by omega) (D2 (I7 f4 b2.1) (by omega)),
  fun σ W g h hb=>B6 W _ _ r3 C4 (5*K+1) (sd4 (h 0 rfl)) (h 18 rfl) (by omega) (hbb b3).1 (hbb b3).2 (hk f4 (by omega)).1 (hk f4 (by omega)).2 (HT W g),
  fun σ W g h hb=>cH W _ (r3*C4) (6*K+1) (h 25 rfl) (by omega) (D2 (I7 f4 b3.1) (by omega)),
  fun σ W g h hb=>cH W _ C4 (5*K+1) (h 18 rfl) (by omega) (hk f4 (by omega)).1,
  trivial⟩ fun τ W g h=>⟨_,_,rfl,mkis (h 20 rfl) (h 22 rfl) (h 24 rfl) (h 26 rfl),h 27 rfl,g⟩
theorem SSign1_any (w:World) (p q r:Nat) (p0 p1 p2 p3 t0 t1 t2 t3 q0 q1 q2 q3 q4 q5 q6 q7 q8 q9 q10 q11 q12 q13 q14 q15 q16 q17 q18 q19:Value) (u v x y m n:Int) (r0 r1 r2 r3:Rat) (K:Nat) (Bp:w.heap[p]?=some (.cells #[p0,p1,p2,p3] 98 (0,0))) (Bq:w.heap[q]?=some (.cells #[q0,q1,q2,q3,q4,q5,q6,q7,q8,q9,q10,q11,q12,q13,q14,q15,q16,q17,q18,q19] 37 (0,0))) (Br:w.heap[r]?=some (.cells #[t0,t1,t2,t3] 98 (0,0))) (ne02:p≠r) (Hp:TwoV w (.agg #[p0,p1,p2,p3]) u v) (Hr:TwoV w (.agg #[t0,t1,t2,t3]) x y) (Hq:SurdV w (.agg #[q0,q1,q2,q3,q4,q5,q6,q7,q8,q9,q10,q11,q12,q13,q14,q15,q16,q17,q18,q19]) m n r0 r1 r2 r3) (hK:K<=30000) (lu:u.natAbs<B^K) (lv:v.natAbs<B^K) (lx:x.natAbs<B^K) (ly:y.natAbs<B^K) (lm:m.natAbs<B^K) (ln:n.natAbs<B^K) :
 Calls Tryz.prog 54 #[.pointer (some ⟨p,0,none⟩),.pointer (some ⟨q,0,none⟩),.pointer (some ⟨r,0,none⟩)] w (nA w (sqs m n u v x y)):=by
 have ne01:p≠q:=vN Bp Bq (by simp)
 have ne12:q≠r:=vN Bq Br (by simp)
 obtain ⟨s0,x0,b0,s1,x1,b1,e,h0,h1⟩:=Hp
 cases e
 obtain ⟨s2,x2,b2,s3,x3,b3,e,h2,h3⟩:=Hr
 cases e
 obtain ⟨s4,x4,b4,s5,x5,b5,s6,x6,b6,s7,x7,b7,s8,x8,b8,s9,x9,b9,s10,x10,b10,s11,x11,b11,s12,x12,b12,s13,x13,b13,e,h4,h5,h6,h7,h8⟩:=Hq
 cases e
 exact P2 B5 Tryz.func54 [sTw u v,sTw x y,sSd m n r0 r1 r2 r3,sTw (u*u+v*v*m) (u*v+u*v),sTw (x*x+y*y*m) (x*y+x*y),sTw ((u*u+v*v*m)-(x*x+y*y*m)*n) ((u*v+u*v)-(x*y+x*y)*n),sZ (sqs m n u v x y)] 3 [.v false [.ptr 0 0],.v false [.ptr 1 0],.v false [.ptr 2 0]] [(98,[.an 0 0,.an 0 1,.an 0 2,.an 0 3]),(37,[.an 2 0,.an 2 1,.an 2 2,.an 2 3,.an 2 4,.an 2 5,.an 2 6,.an 2 7,.an 2 8,.an 2 9,.an 2 10,.an 2 11,.an 2 12,.an 2 13,.an 2 14,.an 2 15,.an 2 16,.an 2 17,.an 2 18,.an 2 19]),(98,[.an 1 0,.an 1 1,.an 1 2,.an 1 3])] (rs:=[cl 3 55 [ag 4 0,ag 2 2],cl 4 55 [ag 4 1,ag 2 2],cl 5 56 [ag 4 3,ag 4 4,.v true [.an 2 2,.an 2 3]],cl 6 53 [ag 4 5,ag 2 2]]) (out:=on 6) (nc:=7) (by kernel_rfl) w
  ⟨fun n=>match n with | 0=>P5 [.slice s0 x0.length x0.length,.bool b0,.slice s1 x1.length x1.length,.bool b1] | 1=>P5 [.slice s2 x2.length x2.length,.bool b2,.slice s3 x3.length x3.length,.bool b3] | 2=>P5 [.slice s4 x4.length x4.length,.bool b4,.slice s5 x5.length x5.length,.bool b5,.slice s6 x6.length x6.length,.bool b6,.slice s7 x7.length x7.length,.bool b7,.slice s8 x8.length x8.length,.bool b8,.slice s9 x9.length x9.length,.bool b9,.slice s10 x10.length x10.length,.bool b10,.slice s11 x11.length x11.length,.bool b11,.slice s12 x12.length x12.length,.bool b12,.slice s13 x13.length x13.length,.bool b13] | _=>fun _ => .bool false,fun b=>match b with | 0=>p | 1=>q | 2=>r | _=>0,fun _=>undef⟩
  (fun n c=>match n with
   | 0=>F4 (by simp [Value.oneCell']) c
   | 1=>F4 (by simp [Value.oneCell']) c
   | 2=>F4 (by simp [Value.oneCell']) c
   | _+3=>rfl)
  (fun b q hq=>match b,q,hq with
   | 0,_,rfl=>Bp
   | 1,_,rfl=>Bq
   | 2,_,rfl=>Br
   | _+3,_,hq=>nomatch hq)
  (fun b c hb hc hq=>match b,c,hb,hc with
   | 0,0,_,_=>rfl
   | 0,1,_,_=>absurd hq ne01
   | 0,2,_,_=>absurd hq ne02
   | 1,0,_,_=>absurd hq (Ne.symm ne01)
   | 1,1,_,_=>rfl
   | 1,2,_,_=>absurd hq ne12
   | 2,0,_,_=>absurd hq (Ne.symm ne02)
   | 2,1,_,_=>absurd hq (Ne.symm ne12)
   | 2,2,_,_=>rfl
   | _+3,_,hb,_=>absurd hb (by simp)
   | _,_+3,_,hc=>absurd hc (by simp))
  (fun jn hn=>match jn,hn with
   | 0,_=>(⟨s0,x0,b0,s1,x1,b1,rfl,h0,h1⟩:TwoV w _ u v)
   | 1,_=>(⟨s2,x2,b2,s3,x3,b3,rfl,h2,h3⟩:TwoV w _ x y)
   | 2,_=>(⟨s4,x4,b4,s5,x5,b5,s6,x6,b6,s7,x7,b7,s8,x8,b8,s9,x9,b9,s10,x10,b10,s11,x11,b11,s12,x12,b12,s13,x13,b13,rfl,h4,h5,h6,h7,h8⟩:SurdV w _ m n r0 r1 r2 r3)
   | _+3,hn=>absurd hn (by omega))
  ⟨fun σ W g h hb=>(eW W _ _ u v m K (h 0 rfl) (tw0 (sd0 (h 2 rfl))) (by omega) lu lv lm),
  fun σ W g h hb=>(eW W _ _ x y m K (h 1 rfl) (tw0 (sd0 (h 2 rfl))) (by omega) lx ly lm),
  fun σ W g h hb=>(wF W _ _ _ (u*u+v*v*m) (u*v+u*v) (x*x+y*y*m) (x*y+x*y) n (K+K+K+1) (h 3 rfl) (h 4 rfl) (tw1 (sd0 (h 2 rfl))) (by omega) (D2 (sq_bd lu lv lm) (by omega)) (D2 (uI lu lv) (by omega)) (sq_bd lx ly lm) (uI lx ly) (D2 ln (by omega))),
  fun σ W g h hb=>(dD W _ _ ((u*u+v*v*m)-(x*x+y*y*m)*n) ((u*v+u*v)-(x*y+x*y)*n) m (K+K+K+1+(K+K+K+1)+1) (h 5 rfl) (tw0 (sd0 (h 2 rfl))) (by omega) (less_bd (sq_bd lu lv lm) (sq_bd lx ly lm) (D2 ln (by omega))) (less_bd (uI lu lv) (uI lx ly) (D2 ln (by omega))) (D2 lm (by omega))).mono fun _ _ ⟨a,g⟩=>⟨_,a,rfl,g⟩,
  trivial⟩ _ fun τ W g h=>⟨congrArg Ending.returned (h 6 rfl),g⟩
theorem SSign_whole (w:World) (va:Value) (m n:Int) (r0 r1 r2 r3:Rat) (K:Nat) (Ha:SurdV w va m n r0 r1 r2 r3) (hK:K<=5000) (b0:Bd1 K r0) (b1:Bd1 K r1) (b2:Bd1 K r2) (b3:Bd1 K r3) (lm:m.natAbs<B^K) (ln:n.natAbs<B^K) (hTab:Tab w) :
 Calls Tryz.prog 13 #[va] w (nA w (ssz m n (r0*J9 r0 r1 r2 r3).num (r1*J9 r0 r1 r2 r3).num (r2*J9 r0 r1 r2 r3).num (r3*J9 r0 r1 r2 r3).num)):=by
 have hf:=fC b0 b1 b2 b3
 obtain ⟨D,hD⟩:∃ D,J9 r0 r1 r2 r3=D:=⟨_,rfl⟩
 have HW:∀ W v,SurdV W v m n r0 r1 r2 r3->Tab W->Calls Tryz.prog 51 #[v] W (kE W _ _ _ _ _):=fun W v hv hT=>rB W v m n r0 r1 r2 r3 K hv (by omega) b0 b1 b2 b3 hT
 rw [hD] at HW hf
 rw [hD]
 have E0:=D2 (I7 hf b0.1) (show K+(1+K+K+K+K)<=5*K+1 by omega)
 have E1:=D2 (I7 hf b1.1) (show K+(1+K+K+K+K)<=5*K+1 by omega)
 have E2:=D2 (I7 hf b2.1) (show K+(1+K+K+K+K)<=5*K+1 by omega)
 have E3:=D2 (I7 hf b3.1) (show K+(1+K+K+K+K)<=5*K+1 by omega)
 have LM:=D2 lm (show K<=5*K+1 by omega)
 have LN:=D2 ln (show K<=5*K+1 by omega)
 obtain ⟨Z0,z0⟩:∃ Z,(r0*D).num=Z:=⟨_,rfl⟩
 obtain ⟨Z1,z1⟩:∃ Z,(r1*D).num=Z:=⟨_,rfl⟩
 obtain ⟨Z2,z2⟩:∃ Z,(r2*D).num=Z:=⟨_,rfl⟩
 obtain ⟨Z3,z3⟩:∃ Z,(r3*D).num=Z:=⟨_,rfl⟩
 rw [z0,z1,z2,z3] at HW
 rw [z0] at E0
 rw [z1] at E1
 rw [z2] at E2
 rw [z3] at E3
 rw [z0,z1,z2,z3]
 refine A6 B5 Tryz.func13 [sSd m n r0 r1 r2 r3] [sWh Z0 Z1 Z2 Z3 D.num,sZ (psz Z0 Z1 m),sZ (psz Z2 Z3 m),sZ n.sign,sZ (psz Z2 Z3 m*n.sign),sZ (ssz m n Z0 Z1 Z2 Z3)] (.cons Ha .nil) (rs:=[cl 1 51 [ag 20 0],cl 2 53 [ag 4 1,ag 2 0],cl 3 53 [.v true [.an 1 4,.an 1 5,.an 1 6,.an 1 7],ag 2 0],cl 4 46 [.v true [.an 0 2,.an 0 3]],co 5 (.binOp .mul 3 (.tmp 31) (.tmp 35) 3) 3 [on 3,on 4] [0,1,2,3,4] [],clb 6 52 [on 2,on 5,.fn 54 [.ptr 3 0,.ptr 0 0,.ptr 4 0]] [0,1,2,3,4,5] [(3,98,[.an 1 0,.an 1 1,.an 1 2,.an 1 3]),(0,37,[.an 0 0,.an 0 1,.an 0 2,.an 0 3,.an 0 4,.an 0 5,.an 0 6,.an 0 7,.an 0 8,.an 0 9,.an 0 10,.an 0 11,.an 0 12,.an 0 13,.an 0 14,.an 0 15,.an 0 16,.an 0 17,.an 0 18,.an 0 19]),(4,98,[.an 1 4,.an 1 5,.an 1 6,.an 1 7])]]) (out:=on 6) (nc:=7) (by kernel_rfl)
  ⟨fun σ W g h hb=>toWh (HW W _ (h 0 rfl) (hTab.kept g (by simp))),
  fun σ W g h hb=>(dD W _ _ Z0 Z1 m (5*K+1) (mktw (is0 (wh1 (h 1 rfl))) (is1 (wh1 (h 1 rfl)))) (tw0 (sd0 (h 0 rfl))) (by omega) E0 E1 LM).mono fun _ _ ⟨a,g⟩=>⟨_,a,rfl,g⟩,
  fun σ W g h hb=>(dD W _ _ Z2 Z3 m (5*K+1) (mktw (is2 (wh1 (h 1 rfl))) (is3 (wh1 (h 1 rfl)))) (tw0 (sd0 (h 0 rfl))) (by omega) E2 E3 LM).mono fun _ _ ⟨a,g⟩=>⟨_,a,rfl,g⟩,
  fun σ W g h hb=>(D5 W _ n (5*K+1) (tw1 (sd0 (h 0 rfl))) (by omega) LN).mono fun _ _ ⟨a,g⟩=>⟨_,a,rfl,g⟩,
  fun σ W g h hb=>fun ρ o ho _ hv=>⟨_,A5 ho ((A0 hv).1.trans (h 3 rfl)) ((A0 hv).2.trans (h 4 rfl)) (tG (pF Z2 Z3 m) (H4 n)),rfl⟩,
  fun σ W g h hb=>(arg3 (h 2 rfl) (h 5 rfl) (wB W _ _ _ _ _ _ (pF Z0 Z1 m) ((pF Z2 Z3 m).mul (H4 n)) (sqs_one3 m n Z0 Z1 Z2 Z3) fun W2 g2=>SSign1_any W2 _ _ _ _ _ _ _ _ _ _ _ _ _ _ _ _ _ _ _ _ _ _ _ _ _ _ _ _ _ _ _ Z0 Z1 Z2 Z3 m n r0 r1 r2 r3 (5*K+1) (A1 g2 (hb.1 _ (.head _))) (A1 g2 (hb.1 _ (.tail _ (.head _)))) (A1 g2 (hb.1 _ (.tail _ (.tail _ (.head _))))) (hb.2 _ (.head _) _ (.tail _ (.tail _ (.head _))) (by simp)) ((mktw (is0 (wh1 (h 1 rfl))) (is1 (wh1 (h 1 rfl)))).kept g2) ((mktw (is2 (wh1 (h 1 rfl))) (is3 (wh1 (h 1 rfl)))).kept g2) (SurdV.kept (h 0 rfl) g2) (by omega) E0 E1 E2 E3 LM LN)).mono fun _ _ ⟨a,g⟩=>⟨_,a,rfl,g⟩,
  trivial⟩ fun τ W g h=>⟨congrArg Ending.returned (h 6 rfl),g⟩
theorem J2 (w:World) (va:Value) (m n:Nat) (r0 r1 r2 r3:Rat) (K:Nat) (Ha:SurdV w va (m:Int) (n:Int) r0 r1 r2 r3) (hK:K<=5000) (b0:Bd1 K r0) (b1:Bd1 K r1) (b2:Bd1 K r2) (b3:Bd1 K r3) (lm:m<B^K) (ln:n<B^K) (hTab:Tab w) :
 Calls Tryz.prog 13 #[va] w (nA w (sg4 m n r0 r1 r2 r3)):=by
 have h:=SSign_whole w va m n r0 r1 r2 r3 K Ha hK b0 b1 b2 b3 (ldi lm) (ldi ln) hTab
 rw [oO m n b0 b1 b2 b3] at h
 exact h
theorem nD {a b:Rat} {k m:Nat} (h1:a.num.natAbs<B^k) (h2:a.den<B^k) (h3:b.num.natAbs<B^m) (h4:b.den<B^m):(a+b).num.natAbs<B^(k+m+1):=by
 rw [Rat.num_add]
 refine Nat.lt_of_le_of_lt (Int.natAbs_ediv_le_natAbs _ _) ?_
 exact aP (G3 h1 (by rw [Int.natAbs_natCast];exact h4)) (by rw [Nat.add_comm];exact G3 h3 (by rw [Int.natAbs_natCast];exact h2))
theorem nF {a b:Rat} {k m:Nat} (h2:a.den<B^k) (h4:b.den<B^m):(a+b).den<B^(k+m+1):=by
 rw [Rat.den_add]
 refine Nat.lt_of_le_of_lt (Nat.div_le_self _ _) ?_
 refine Nat.lt_of_lt_of_le (show a.den*b.den<B^(k+m) by rw [Nat.pow_add];exact Nat.mul_lt_mul'' h2 h4) (Nat.pow_le_pow_right D6 (by omega))
theorem uH {K:Nat} {r:Rat} (h:Bd1 K r):Bd1 K (-r):=⟨by rw [Rat.neg_num,Int.natAbs_neg];exact h.1,by rw [Rat.neg_den];exact h.2⟩
end Go.Proofs.YtdgdmicbbfoghaaGreatDoor
