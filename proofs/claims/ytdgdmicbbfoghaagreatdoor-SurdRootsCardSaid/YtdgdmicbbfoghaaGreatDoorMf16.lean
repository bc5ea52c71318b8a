/- What the laws lean on, part 16. -/
import Derived.Below
import Derived.BigCall
import Derived.BigQuiet
import Derived.BigRegion
import Derived.Deep.AppendLies
import Derived.Deep.CutBlock
import Derived.Deep.CutRange
import Derived.Deep.DeepCutAuto
import Derived.Deep.DeepHandedRow
import Derived.Deep.LoopGhost
import Derived.Deep.MidRow
import Derived.Deep.QuietTactic
import Derived.Deep.RegionHeld3
import Derived.Deep.RegionLaw
import Derived.Deep.WholeRow
import Derived.Laws.AppendOwn
import Derived.Laws.Concat
import Derived.Laws.CopyOwn
import Derived.Laws.Externs
import Derived.Laws.IdiomStrings
import Derived.Lib.BitFns
import Derived.Lib.Bytealg
import Derived.Lib.Hide
import Derived.Lib.Slices
import Derived.Lib.Small
import Derived.Lib.Strings
import Derived.Lib.Walk
import Derived.LoopN
import Derived.OpenShut
import Derived.OrdersHeld
import Derived.OrdersIn
import Derived.Outline
import Derived.OwnWalk
import Derived.ProofKit
import Derived.RangeFuncCalls
import Derived.RangeFuncNested
import Derived.RangeFuncOwn
import Derived.Shelf.Bits.Mul64
import Derived.Shelf.Spec.TrailingZeros
import Derived.StillTailTactics
import Derived.WalkKit
import Derived.WalkLawsBesides
import Derived.WalkSpells
import Derived.Test.YtdgdmicbbfoghaaGreatDoorProg
import Derived.Test.YtdgdmicbbfoghaaGreatDoorRows
import Derived.Test.YtdgdmicbbfoghaaGreatDoorMf15
set_option linter.unusedVariables false
set_option linter.unusedSimpArgs false
set_option maxRecDepth 100000
namespace Go.Proofs.YtdgdmicbbfoghaaGreatDoor
open Go.RowKit Mat
theorem B5 {w:World} {g:Nat} {v0 v1 v2 v3:Value} {t:TypeId} (h:w.heap[g]?=some (.cells #[v0,v1,v2,v3] t (0,0))) :
 w.cell? ⟨g,0,none⟩=some v0/\w.cell? ⟨g,1,none⟩=some v1/\w.cell? ⟨g,2,none⟩=some v2/\w.cell? ⟨g,3,none⟩=some v3/\w.frozen? ⟨g,0,none⟩=false/\w.frozen? ⟨g,1,none⟩=false/\w.frozen? ⟨g,2,none⟩=false/\w.frozen? ⟨g,3,none⟩=false:=by
 simp [World.cell?,World.frozen?,h]
theorem Y9 {w:World} {g:Nat} {a0 a1 a2 a3:Value} {t:TypeId} (h:w.heap[g]?=some (.cells #[a0,a1,a2,a3] t (0,0))) (v0 v1 v2 v3:Value):((((w.setCell ⟨g,0,none⟩ v0).setCell ⟨g,1,none⟩ v1).setCell ⟨g,2,none⟩ v2).setCell ⟨g,3,none⟩ v3).heap[g]?=some (.cells #[v0,v1,v2,v3] t (0,0)):=by
 simp [World.setCell,Array.getElem?_modify,h]
theorem W3 {w:World} {g k:Nat} {o:Obj} (h:w.heap[k]?=some o) (hk:k≠g) (v0 v1 v2 v3:Value):((((w.setCell ⟨g,0,none⟩ v0).setCell ⟨g,1,none⟩ v1).setCell ⟨g,2,none⟩ v2).setCell ⟨g,3,none⟩ v3).heap[k]?=some o:=
 (Below.heap_setCell _ _ _ _ (by simpa using hk)).trans ((Below.heap_setCell _ _ _ _ (by simpa using hk)).trans (F7 h hk v0 v1))
theorem grown_set4 {w w':World} {g:Nat} (hg:w.grownBy w' none) (hl:w.heap.size<=g) (v0 v1 v2 v3:Value):w.grownBy ((((w'.setCell ⟨g,0,none⟩ v0).setCell ⟨g,1,none⟩ v1).setCell ⟨g,2,none⟩ v2).setCell ⟨g,3,none⟩ v3) none:=
 B3 (B3 (qH hg hl v0 v1) (B4 (A9 _ _) _ _) hl) (B4 (A9 _ _) _ _) hl
theorem RIntV.set4 {w:World} {v:Value} {n:Int} {g:Nat} {a0 a1 a2 a3:Value} (h:RIntV w v n) (hbox:w.heap[g]?=some (.cells #[a0,a1,a2,a3] 57 (0,0))) (v0 v1 v2 v3:Value):RIntV ((((w.setCell ⟨g,0,none⟩ v0).setCell ⟨g,1,none⟩ v1).setCell ⟨g,2,none⟩ v2).setCell ⟨g,3,none⟩ v3) v n:=by
 have k1:(w.setCell ⟨g,0,none⟩ v0).heap[g]?=some (.cells #[v0,a1,a2,a3] 57 (0,0)):=by simp [World.setCell,Array.getElem?_modify,hbox]
 have k2:((w.setCell ⟨g,0,none⟩ v0).setCell ⟨g,1,none⟩ v1).heap[g]?=some (.cells #[v0,v1,a2,a3] 57 (0,0)):=by simp [World.setCell,Array.getElem?_modify,hbox]
 have k3:(((w.setCell ⟨g,0,none⟩ v0).setCell ⟨g,1,none⟩ v1).setCell ⟨g,2,none⟩ v2).heap[g]?=some (.cells #[v0,v1,v2,a3] 57 (0,0)):=by simp [World.setCell,Array.getElem?_modify,hbox]
 exact (((h.set_other hbox (by decide) 0 v0).set_other k1 (by decide) 1 v1).set_other k2 (by decide) 2 v2).set_other k3 (by decide) 3 v3
theorem RQ.set4 {w:World} {v:Value} {r:Rat} {E:Nat} {g:Nat} {a0 a1 a2 a3:Value} (h:RQ w v r E) (hbox:w.heap[g]?=some (.cells #[a0,a1,a2,a3] 57 (0,0))) (v0 v1 v2 v3:Value):RQ ((((w.setCell ⟨g,0,none⟩ v0).setCell ⟨g,1,none⟩ v1).setCell ⟨g,2,none⟩ v2).setCell ⟨g,3,none⟩ v3) v r E:=by
 obtain ⟨g,s,l,c,g',s',l',c',n,d,e,h1,h2,h3⟩:=h
 exact ⟨g,s,l,c,g',s',l',c',n,d,e,h1.set4 hbox _ _ _ _,h2.set4 hbox _ _ _ _,h3⟩
theorem fQ {w w':World} {r:Rat} {E:Nat} {code:Int} {g:Nat} {a0 a1 a2 a3 v0 v1 v2 v3:Value} (hg:w.grownBy w' none) (hbox:w'.heap[g]?=some (.cells #[a0,a1,a2,a3] 57 (0,0))) (hl:w.heap.size<=g) (h:RQ w' (.agg #[v0,v1,v2,v3]) r E) :
 dD w r E code (.returned (.tuple #[.agg #[v0,v1,v2,v3],.int .i64 code])) ((((w'.setCell ⟨g,0,none⟩ v0).setCell ⟨g,1,none⟩ v1).setCell ⟨g,2,none⟩ v2).setCell ⟨g,3,none⟩ v3):=
 ⟨_,rfl,h.set4 hbox _ _ _ _,grown_set4 hg hl _ _ _ _⟩
def slf (s:ByteArray) (k:Nat):Int:=if Lib.indexByte (s.data.toList.drop k) 47<0 then -1 else Lib.indexByte (s.data.toList.drop k) 47+k
theorem slf_end (s:ByteArray):slf s s.size = -1:=by
 unfold slf
 rw [List.drop_of_length_le (by simp)]
 rfl
theorem slf_zero (s:ByteArray):slf s 0=slx s:=by
 unfold slf slx
 rw [List.drop_zero]
 rcases pB s with ⟨h,_⟩ | ⟨k,_,h,_⟩
 · unfold slx at h;rw [h];rfl
 · unfold slx at h;rw [h,if_neg (by omega)];omega
theorem slf_step (s:ByteArray) (m:Nat) (h:m<s.size):slf s m=if (s[m]'h).toNat=47 then (m:Int) else slf s (m+1):=by
 have hl:m<s.data.toList.length:=by simpa using h
 have hd:s.data.toList.drop m=s[m]'h :: s.data.toList.drop (m+1):=by
  rw [List.drop_eq_getElem_cons hl];rfl
 have e:∀ (b:UInt8) (l:List UInt8),Lib.indexByte (b :: l) 47=if (b == 47)=true then 0 else if (Lib.indexByte l 47 == -1)=true then -1 else Lib.indexByte l 47+1:=fun _ _=>rfl
 unfold slf
 rw [hd,e]
 by_cases hb:(s[m]'h).toNat=47
 · have:(s[m]'h == 47)=true:=by rw [beq_iff_eq];exact UInt8.toNat_inj.1 hb
   rw [this,if_pos hb];simp
 · have:(s[m]'h == 47)=false:=beq_eq_false_iff_ne.2 fun e=>hb (by rw [e];rfl)
   rw [this,if_neg hb]
   simp only [Bool.false_eq_true,if_false]
   have hg:=Lib.indexByte_ge (s.data.toList.drop (m+1)) 47
   by_cases h1:Lib.indexByte (s.data.toList.drop (m+1)) 47 = -1
   · rw [h1];rfl
   · have:(Lib.indexByte (s.data.toList.drop (m+1)) 47 == -1)=false:=beq_eq_false_iff_ne.2 h1
     rw [this]
     simp only [Bool.false_eq_true,if_false]
     rw [if_neg (by omega),if_neg (by omega)]
     omega
theorem rNParse_num (w:World) (s:ByteArray) (hs:s.size<=4096):Calls Tryz.prog 124 #[.string s] w (U3 w (J9 s) (jU s)):=by
 unfold J9 jU
 by_cases h:lQ (bts s)=true
 · rw [if_pos h,if_pos h];exact aU w s hs (eL h)
 · rw [if_neg h,if_neg h];exact rParse_form w s hs (fun hd=>h ((cZ _).2 hd))
theorem dval_bdD {l:List Nat} {E:Nat} (h:T1 l) (hl:l.length<=4*E):G8 l<D^E:=by
 refine Nat.lt_of_lt_of_le (dval_lt ((cZ l).2 h)) ?_
 refine Nat.le_trans (Nat.pow_le_pow_right (by omega) hl) ?_
 rw [Nat.pow_mul]
 exact Nat.pow_le_pow_left (by unfold D;decide) E
theorem nval_bdD (s:ByteArray) {E:Nat} (h:s.size<=4*E):J9 s<D^E:=by
 unfold J9
 split
 · next hd=>exact dval_bdD ((cZ _).1 hd) (by rw [C7];exact h)
 · exact Nat.pow_pos nA
theorem zval_bdD (s:ByteArray) {E:Nat} (h:s.size<=4*E):(I5 s).natAbs<D^E:=by
 unfold I5
 split
 · next hc=>
   have hok:zok (bts s)=true:=by
    cases e:zok (bts s)
    · unfold U5 at hc
      rw [e] at hc
      split at hc
      · cases hc
      · simp at hc
    · rfl
   have hd:=((Q8 _).1 hok).1
   have hl:(Z9 (bts s)).length<=4*E:=by
    unfold Z9
    split
    · rw [List.length_tail,C7];omega
    · rw [C7];exact h
   have hb:=dval_bdD hd hl
   unfold nC
   split
   · rw [Int.natAbs_neg,Int.natAbs_natCast];exact hb
   · rw [Int.natAbs_natCast];exact hb
 · exact Nat.pow_pos nA
theorem RQ.zero5 {w:World} {v:Value} {E:Nat} (h:RQ w v ((0:Int):Rat) 5) (hE : 5<=E):RQ w v 0 E:=h.mono hE
set_option maxHeartbeats 32000000 in
theorem aR (w:World) (s:ByteArray) (E:Nat) (hs:s.size<=4000) (h5 : 5<=E) (hsz:s.size<=4*E) :
 Calls Tryz.prog 63 #[.string s] w (dD w (cX s) E (S2 s)):=by
 obtain ⟨U,hU⟩:∃ U,fup s=U:=⟨_,rfl⟩
 obtain ⟨D9,hD⟩:∃ D,bW s=D:=⟨_,rfl⟩
 have hUs:U.size<=s.size:=by rw [<- hU];exact qK s
 have hDs:D9.size<=s.size:=by rw [<- hD];exact iO s
 have HZB:Hid ((I5 U).natAbs<D^E):=zval_bdD U (by omega)
 have HNB:Hid (J9 D9<D^E):=nval_bdD D9 (by omega)
 have HE5:Hid (5<=E):=h5
 have HNP:Hid (∀ W,Calls Tryz.prog 124 #[.string D9] W (U3 W (J9 D9) (jU D9))):=fun W=>rNParse_num W D9 (by omega)
 have hz:=zcod_or (show U.size<=4000 by omega)
 have hn:=ncod_or D9
 have hcv:S2 s=(if U5 U≠0 then U5 U else if slx s<0 then 0 else if jU D9≠0 then jU D9 else if J9 D9=0 then 5 else 0):=by unfold S2;rw [hU,hD]
 have hfv:cX s=if S2 s=0 then (if slx s<0 then (I5 U:Rat) else Rat.divInt (I5 U) (J9 D9:Int)) else 0:=by unfold cX;rw [hU,hD]
 have HST:Hid (∀ m (h:m<s.size),slf s m=if (s[m]'h).toNat=47 then (m:Int) else slf s (m+1)):=slf_step s
 have HS0:=Lib.hid (slf_zero s)
 have HSE:=Lib.hid (slf_end s)
 have HSS:Hid (s.size<=4000):=hs
 have hx9:=pB s
 obtain ⟨c9,hc⟩:∃ c,S2 s=c:=⟨_,rfl⟩
 obtain ⟨R9,hr⟩:∃ r,cX s=r:=⟨_,rfl⟩
 rw [hc,hr]
 rw [hc] at hcv hfv
 rw [hr] at hfv
 clear hsz h5 hc hr
 have hG:w.grownBy (w.alloc (.cells #[.int .i64 0,.slice none 0 0,.int .i64 0,.slice none 0 0] 57)) none:=(World.grownBy_alloc _ _ _)
 have Bq:=(A5 w (.cells #[.int .i64 0,.slice none 0 0,.int .i64 0,.slice none 0 0] 57) (w.heap.size) rfl)
 go_enter Tryz.func63,Tryz.ntmps63
 obtain ⟨Cq0,Cq1,Cq2,Cq3,Fq0,Fq1,Fq2,Fq3⟩:=B5 Bq
 have HG0:=Lib.hid hG
 have HBQ:=Lib.hid Bq
 go_wp2_with fail
 generalize (w.alloc (.cells #[.int .i64 0,.slice none 0 0,.int .i64 0,.slice none 0 0] 57))=w0 at *
 clear Cq0 Fq0 Cq1 Fq1 Cq2 Fq2 Cq3 Fq3 hG Bq
 go_loopw [4,5] (fun a i wr=>∃ (j:Int) (k:Nat),k<=s.size/\j=(k:Int)-1/\i = .int .i64 j/\a = .int .i64 (slf s k)/\w0=wr) (fun _ i _=>(intOf i+1).toNat)
 case atStart=>exact ⟨_,s.size,Nat.le_refl _,rfl,by go_num,by rw [HSE.out],rfl⟩
 case round=>
  obtain ⟨j,k,hk,hj,rfl,rfl,rfl⟩:=hrel
  by_cases h0:k=0
  · skip
    subst h0
    obtain rfl:j = -1:=by omega
    rw [HS0.out]
    clear hk hj HST HSE
    have hG:=HG0.out
    have Bq:=HBQ.out
    rcases hx9 with ⟨hx,_⟩ | ⟨k,hk,hx,_,_⟩
    · skip
      have hUe:U=s:=by rw [<- hU];unfold fup;rw [if_pos (by omega)]
      rw [hx]
      rcases hz with hz | hz
      · skip
        have HZP:Hid (∀ W,Calls Tryz.prog 122 #[.string s] W (G0 W (I5 U) 0)):=fun W=>by rw [<- hz, <- hUe];exact aQ W U
        have HI:Hid ((0:Int)<1/\Rat.divInt (I5 U) 1=(I5 U:Rat)/\(1:Int).natAbs<D^E):=⟨by decide,by rw [show (1:Int)=((1:Nat):Int) from rfl,Rat.divInt_ofNat];exact Rat.mkRat_self (I5 U:Rat),Nat.lt_of_lt_of_le (show 1<D^1 by unfold D;omega) (Nat.pow_le_pow_right nA (by have:=HE5.out;omega))⟩
        have hc9:c9=0:=by rw [hcv];simp [hz,hx]
        have hv9:R9=(I5 U:Rat):=by rw [hfv,hc9];simp [hx]
        clear hcv hfv
        subst hc9
        subst hv9
        clear hz hn hU hD hUs hDs hUe hx hs
        obtain ⟨Cq0,Cq1,Cq2,Cq3,Fq0,Fq1,Fq2,Fq3⟩:=B5 Bq
        go_wp2_with fail
        clear Cq0 Fq0 Cq1 Fq1 Cq2 Fq2 Cq3 Fq3
        refine (HZP.out w0).mono ?_
        rintro e es0z0w1 ⟨_,rfl,⟨gu,su,lu,cu,rfl,hu,mu⟩,ges0z0w1⟩
        have ru:RIntV es0z0w1 (.agg #[.int .i64 gu,.slice su lu cu]) (I5 U):=⟨gu,su,lu,cu,rfl,hu,mu⟩
        replace Bq:=A0 ges0z0w1 Bq
        replace hG:=A2 hG ges0z0w1
        clear ges0z0w1
        clear mu
        obtain ⟨Cq0,Cq1,Cq2,Cq3,Fq0,Fq1,Fq2,Fq3⟩:=B5 Bq
        have gbes0z0w1:=(World.grownBy_alloc es0z0w1 (.cells #[.int .i64 gu,.slice su lu cu] 55) none)
        have Bu:=(A5 es0z0w1 (.cells #[.int .i64 gu,.slice su lu cu] 55) (es0z0w1.heap.size) rfl)
        have hzes0z0w1:Hid (w.heap.size<=es0z0w1.heap.size):=Lib.hid hG.size
        have hlqes0z0w1:Hid (w.heap.size<es0z0w1.heap.size):=Lib.hid (Array.getElem?_eq_some_iff.1 Bq).1
        clear Cq0 Fq0 Cq1 Fq1 Cq2 Fq2 Cq3 Fq3
        replace Bq:=A0 gbes0z0w1 Bq
        replace ru:=ru.kept gbes0z0w1
        replace hG:=A2 hG gbes0z0w1
        clear gbes0z0w1
        obtain ⟨Cq0,Cq1,Cq2,Cq3,Fq0,Fq1,Fq2,Fq3⟩:=B5 Bq
        obtain ⟨Cu0,Cu1,Fu0,Fu1⟩:=A3 Bu
        go_wp2_with fail
        generalize (es0z0w1.alloc (.cells #[.int .i64 gu,.slice su lu cu] 55))=es0z0w2 at *
        generalize es0z0w1.heap.size=aes0z0w1 at *
        replace hzes0z0w1:=hzes0z0w1.out
        replace hlqes0z0w1:=hlqes0z0w1.out
        go_region_held3 (fun w'=>w'.cell? ⟨aes0z0w1,0,none⟩=some (.int .i64 gu)/\w'.cell? ⟨aes0z0w1,1,none⟩=some (.slice su lu cu))
         (first | assumption | exact ⟨Cu0,Cu1⟩ | exact HSes0z0w3_20 | go_keep)
         (first
          | (go_at_call 61;(with_reducible refine (dZ es0z0w2.drew 1 (by omega) (by omega)).mono ?_);rintro e es0z0w3_1 ⟨v1,rfl,k1,ges0z0w3_1⟩;have hGes0z0w3_1:=H8 es0z0w2 ges0z0w3_1 rfl rfl rfl rfl;have hSes0z0w3_1:=(And.intro (hGes0z0w3_1.cell Cu0 (by simp)) (hGes0z0w3_1.cell Cu1 (by simp)));clear ges0z0w3_1)
          | (go_at_call 123;(with_reducible refine (pP es0z0w3_1 _ _ (I5 U) 1 E (ru.kept hGes0z0w3_1) k1 (by decide) HZB.out HI.out.2.2).mono ?_);rintro e es0z0w3_2 ⟨_,rfl,⟨gd,sd,ld,cd,gd',sd',ld',cd',nd,dd,rfl,hd,hd',ud⟩,ges0z0w3_2⟩;rw [HI.out.2.1] at ud;have hGes0z0w3_2:=A2 hGes0z0w3_1 ges0z0w3_2;replace k1:=k1.kept ges0z0w3_2;have yd:RQ es0z0w3_2 (.agg #[.int .i64 gd,.slice sd ld cd,.int .i64 gd',.slice sd' ld' cd']) (I5 U:Rat) E:=⟨gd,sd,ld,cd,gd',sd',ld',cd',nd,dd,rfl,hd,hd',ud⟩;have hSes0z0w3_2:=(And.intro (hGes0z0w3_2.cell Cu0 (by simp)) (hGes0z0w3_2.cell Cu1 (by simp)));clear ges0z0w3_2;clear hd hd';(obtain ⟨dq0,dq1,dq2,dq3,dq4,dq5,dq6,dq7⟩:=B5 (A0 hGes0z0w3_2 Bq));have HSes0z0w3_20:=(And.intro ((A3 (W3 (A0 hGes0z0w3_2 Bu) (show aes0z0w1≠w.heap.size by omega) (.int .i64 gd) (.slice sd ld cd) (.int .i64 gd') (.slice sd' ld' cd'))).1) ((A3 (W3 (A0 hGes0z0w3_2 Bu) (show aes0z0w1≠w.heap.size by omega) (.int .i64 gd) (.slice sd ld cd) (.int .i64 gd') (.slice sd' ld' cd'))).2.1))))
        replace Bq:=A0 hGes0z0w3_2 Bq
        replace Bu:=A0 hGes0z0w3_2 Bu
        replace ru:=ru.kept hGes0z0w3_2
        replace hG:=A2 hG hGes0z0w3_2
        clear Cq0 Fq0 Cq1 Fq1 Cq2 Fq2 Cq3 Fq3 Cu0 Fu0 Cu1 Fu1
        obtain ⟨k90,k91,k92,k93,k94,k95,k96,k97⟩:=B5 Bq
        obtain ⟨q90,q91,q92,q93,q94,q95,q96,q97⟩:=B5 (Y9 Bq (.int .i64 gd) (.slice sd ld cd) (.int .i64 gd') (.slice sd' ld' cd'))
        have hF:Hid (dD w (I5 U:Rat) E 0 (.returned (.tuple #[.agg #[.int .i64 gd,.slice sd ld cd,.int .i64 gd',.slice sd' ld' cd'],.int .i64 0])) ((((es0z0w3_2.setCell ⟨w.heap.size,0,none⟩ (.int .i64 gd)).setCell ⟨w.heap.size,1,none⟩ (.slice sd ld cd)).setCell ⟨w.heap.size,2,none⟩ (.int .i64 gd')).setCell ⟨w.heap.size,3,none⟩ (.slice sd' ld' cd'))):=fQ hG Bq (by omega) yd
        clear ru k1 yd
        obtain ⟨Cu0,Cu1,Fu0,Fu1⟩:=A3 Bu
        go_wp2_with fail
        exact bodyPost_ret (v := .tuple #[.agg #[.int .i64 gd,.slice sd ld cd,.int .i64 gd',.slice sd' ld' cd'],.int .i64 0]) (by simp [results,Tryz.results63,go_sem,q90,q91,q92,q93]) rfl hF.out
      · skip
        have HZP:Hid (∀ W,Calls Tryz.prog 122 #[.string s] W (G0 W (I5 U) 3)):=fun W=>by rw [<- hz, <- hUe];exact aQ W U
        have hc9:c9=3:=by rw [hcv];simp [hz,hx]
        have hv9:R9=0:=by rw [hfv,hc9];simp [hx]
        clear hcv hfv
        subst hc9
        subst hv9
        clear hz hn hU hD hUs hDs hUe hx hs
        obtain ⟨Cq0,Cq1,Cq2,Cq3,Fq0,Fq1,Fq2,Fq3⟩:=B5 Bq
        go_wp2_with fail
        clear Cq0 Fq0 Cq1 Fq1 Cq2 Fq2 Cq3 Fq3
        refine (HZP.out w0).mono ?_
        rintro e es0z3w1 ⟨_,rfl,⟨gu,su,lu,cu,rfl,hu,mu⟩,ges0z3w1⟩
        have ru:RIntV es0z3w1 (.agg #[.int .i64 gu,.slice su lu cu]) (I5 U):=⟨gu,su,lu,cu,rfl,hu,mu⟩
        replace Bq:=A0 ges0z3w1 Bq
        replace hG:=A2 hG ges0z3w1
        clear ges0z3w1
        clear mu
        obtain ⟨Cq0,Cq1,Cq2,Cq3,Fq0,Fq1,Fq2,Fq3⟩:=B5 Bq
        have gbes0z3w1:=(World.grownBy_alloc es0z3w1 (.cells #[.int .i64 gu,.slice su lu cu] 55) none)
        have Bu:=(A5 es0z3w1 (.cells #[.int .i64 gu,.slice su lu cu] 55) (es0z3w1.heap.size) rfl)
        have hzes0z3w1:Hid (w.heap.size<=es0z3w1.heap.size):=Lib.hid hG.size
        have hlqes0z3w1:Hid (w.heap.size<es0z3w1.heap.size):=Lib.hid (Array.getElem?_eq_some_iff.1 Bq).1
        clear Cq0 Fq0 Cq1 Fq1 Cq2 Fq2 Cq3 Fq3
        replace Bq:=A0 gbes0z3w1 Bq
        replace ru:=ru.kept gbes0z3w1
        replace hG:=A2 hG gbes0z3w1
        clear gbes0z3w1
        obtain ⟨Cq0,Cq1,Cq2,Cq3,Fq0,Fq1,Fq2,Fq3⟩:=B5 Bq
        obtain ⟨Cu0,Cu1,Fu0,Fu1⟩:=A3 Bu
        go_wp2_with fail
        generalize (es0z3w1.alloc (.cells #[.int .i64 gu,.slice su lu cu] 55))=es0z3w2 at *
        generalize es0z3w1.heap.size=aes0z3w1 at *
        replace hzes0z3w1:=hzes0z3w1.out
        replace hlqes0z3w1:=hlqes0z3w1.out
        clear Cq0 Fq0 Cq1 Fq1 Cq2 Fq2 Cq3 Fq3 Cu0 Fu0 Cu1 Fu1
        refine (eA es0z3w2 0 (by omega) (by omega)).mono ?_
        rintro e es0z3w3 ⟨_,rfl,⟨gd,sd,ld,cd,gd',sd',ld',cd',nd,dd,rfl,hd,hd',ud⟩,ges0z3w3⟩
        have yd:RQ es0z3w3 (.agg #[.int .i64 gd,.slice sd ld cd,.int .i64 gd',.slice sd' ld' cd']) ((0:Int):Rat) 5:=⟨gd,sd,ld,cd,gd',sd',ld',cd',nd,dd,rfl,hd,hd',ud⟩
        replace Bq:=A0 ges0z3w3 Bq
        replace Bu:=A0 ges0z3w3 Bu
        replace ru:=ru.kept ges0z3w3
        replace hG:=A2 hG ges0z3w3
        clear ges0z3w3
        clear hd hd'
        obtain ⟨Cq0,Cq1,Cq2,Cq3,Fq0,Fq1,Fq2,Fq3⟩:=B5 Bq
        obtain ⟨Cu0,Cu1,Fu0,Fu1⟩:=A3 Bu
        have yz:=RQ.zero5 yd HE5.out
        clear Cq0 Fq0 Cq1 Fq1 Cq2 Fq2 Cq3 Fq3 Cu0 Fu0 Cu1 Fu1
        obtain ⟨k90,k91,k92,k93,k94,k95,k96,k97⟩:=B5 Bq
        obtain ⟨q90,q91,q92,q93,q94,q95,q96,q97⟩:=B5 (Y9 Bq (.int .i64 gd) (.slice sd ld cd) (.int .i64 gd') (.slice sd' ld' cd'))
        have hF:Hid (dD w 0 E 3 (.returned (.tuple #[.agg #[.int .i64 gd,.slice sd ld cd,.int .i64 gd',.slice sd' ld' cd'],.int .i64 3])) ((((es0z3w3.setCell ⟨w.heap.size,0,none⟩ (.int .i64 gd)).setCell ⟨w.heap.size,1,none⟩ (.slice sd ld cd)).setCell ⟨w.heap.size,2,none⟩ (.int .i64 gd')).setCell ⟨w.heap.size,3,none⟩ (.slice sd' ld' cd'))):=fQ hG Bq (by omega) yz
        clear ru yd yz
        obtain ⟨Cu0,Cu1,Fu0,Fu1⟩:=A3 Bu
        go_wp2_with fail
        exact bodyPost_ret (v := .tuple #[.agg #[.int .i64 gd,.slice sd ld cd,.int .i64 gd',.slice sd' ld' cd'],.int .i64 3]) (by simp [results,Tryz.results63,go_sem,q90,q91,q92,q93]) rfl hF.out
    · skip
      have hUe:U=s.extract 0 k:=by rw [<- hU];unfold fup;rw [if_neg (by omega),hx];rfl
      have hDe:D9=s.extract (k+1) s.size:=by rw [<- hD];unfold bW;rw [hx];rfl
      rw [hx]
      rcases hz with hz | hz
      · skip
        have HZP:Hid (∀ W,Calls Tryz.prog 122 #[.string (s.extract 0 k)] W (G0 W (I5 U) 0)):=fun W=>by rw [<- hz, <- hUe];exact aQ W U
        rcases hn with hn | hn
        · skip
          have HNQ:Hid (∀ W,Calls Tryz.prog 124 #[.string (s.extract (k+1) s.size)] W (U3 W (J9 D9) 0)):=fun W=>by rw [<- hn, <- hDe];exact HNP.out W
          rcases Nat.eq_zero_or_pos (J9 D9) with h00 | h00
          · skip
            have HN0:=Lib.hid h00
            have hc9:c9=5:=by rw [hcv];simp [hz,hx,hn,h00,show ¬ ((k:Int)<0) by omega]
            have hv9:R9=0:=by rw [hfv,hc9];simp [hx]
            clear hcv hfv
            subst hc9
            subst hv9
            have hkb:(k:Int)<4000:=by omega
            clear hz hn hU hD hUs hDs hUe hx hs hDe
            clear h00
            obtain ⟨Cq0,Cq1,Cq2,Cq3,Fq0,Fq1,Fq2,Fq3⟩:=B5 Bq
            go_wp2_with fail
            clear Cq0 Fq0 Cq1 Fq1 Cq2 Fq2 Cq3 Fq3
            refine (HZP.out w0).mono ?_
            rintro e es1z0n0z1w1 ⟨_,rfl,⟨gu,su,lu,cu,rfl,hu,mu⟩,ges1z0n0z1w1⟩
            have ru:RIntV es1z0n0z1w1 (.agg #[.int .i64 gu,.slice su lu cu]) (I5 U):=⟨gu,su,lu,cu,rfl,hu,mu⟩
            replace Bq:=A0 ges1z0n0z1w1 Bq
            replace hG:=A2 hG ges1z0n0z1w1
            clear ges1z0n0z1w1
            clear mu
            obtain ⟨Cq0,Cq1,Cq2,Cq3,Fq0,Fq1,Fq2,Fq3⟩:=B5 Bq
            have gbes1z0n0z1w1:=(World.grownBy_alloc es1z0n0z1w1 (.cells #[.int .i64 gu,.slice su lu cu] 55) none)
            have Bu:=(A5 es1z0n0z1w1 (.cells #[.int .i64 gu,.slice su lu cu] 55) (es1z0n0z1w1.heap.size) rfl)
            have hzes1z0n0z1w1:Hid (w.heap.size<=es1z0n0z1w1.heap.size):=Lib.hid hG.size
            have hlqes1z0n0z1w1:Hid (w.heap.size<es1z0n0z1w1.heap.size):=Lib.hid (Array.getElem?_eq_some_iff.1 Bq).1
            clear Cq0 Fq0 Cq1 Fq1 Cq2 Fq2 Cq3 Fq3
            replace Bq:=A0 gbes1z0n0z1w1 Bq
            replace ru:=ru.kept gbes1z0n0z1w1
            replace hG:=A2 hG gbes1z0n0z1w1
            clear gbes1z0n0z1w1
            obtain ⟨Cq0,Cq1,Cq2,Cq3,Fq0,Fq1,Fq2,Fq3⟩:=B5 Bq
            obtain ⟨Cu0,Cu1,Fu0,Fu1⟩:=A3 Bu
            go_wp2_with fail
            generalize (es1z0n0z1w1.alloc (.cells #[.int .i64 gu,.slice su lu cu] 55))=es1z0n0z1w2 at *
            generalize es1z0n0z1w1.heap.size=aes1z0n0z1w1 at *
            replace hzes1z0n0z1w1:=hzes1z0n0z1w1.out
            replace hlqes1z0n0z1w1:=hlqes1z0n0z1w1.out
            clear Cq0 Fq0 Cq1 Fq1 Cq2 Fq2 Cq3 Fq3 Cu0 Fu0 Cu1 Fu1
            refine (HNQ.out es1z0n0z1w2).mono ?_
            rintro e es1z0n0z1w3 ⟨_,rfl,⟨sm,lm,cm,ym,rfl,hm⟩,ges1z0n0z1w3⟩
            have mm:RefV es1z0n0z1w3 (.agg #[.slice sm lm cm]) (J9 D9):=⟨sm,lm,cm,ym,rfl,hm⟩
            replace Bq:=A0 ges1z0n0z1w3 Bq
            replace Bu:=A0 ges1z0n0z1w3 Bu
            replace ru:=ru.kept ges1z0n0z1w3
            replace hG:=A2 hG ges1z0n0z1w3
            clear ges1z0n0z1w3
            clear hm
            obtain ⟨Cq0,Cq1,Cq2,Cq3,Fq0,Fq1,Fq2,Fq3⟩:=B5 Bq
            obtain ⟨Cu0,Cu1,Fu0,Fu1⟩:=A3 Bu
            obtain rfl:lm=0:=(vA mm).1 HN0.out
            have gbes1z0n0z1w3:=(World.grownBy_alloc es1z0n0z1w3 (.cells #[.slice sm 0 cm] 53) none)
            have Bm:=(A5 es1z0n0z1w3 (.cells #[.slice sm 0 cm] 53) (es1z0n0z1w3.heap.size) rfl)
            have hzes1z0n0z1w3:Hid (w.heap.size<=es1z0n0z1w3.heap.size):=Lib.hid hG.size
            have hlqes1z0n0z1w3:Hid (w.heap.size<es1z0n0z1w3.heap.size):=Lib.hid (Array.getElem?_eq_some_iff.1 Bq).1
            have hlues1z0n0z1w3:Hid (aes1z0n0z1w1<es1z0n0z1w3.heap.size):=Lib.hid (Array.getElem?_eq_some_iff.1 Bu).1
            clear Cq0 Fq0 Cq1 Fq1 Cq2 Fq2 Cq3 Fq3 Cu0 Fu0 Cu1 Fu1
            replace Bq:=A0 gbes1z0n0z1w3 Bq
            replace Bu:=A0 gbes1z0n0z1w3 Bu
            replace ru:=ru.kept gbes1z0n0z1w3
            replace mm:=mm.kept gbes1z0n0z1w3
            replace hG:=A2 hG gbes1z0n0z1w3
            clear gbes1z0n0z1w3
            obtain ⟨Cq0,Cq1,Cq2,Cq3,Fq0,Fq1,Fq2,Fq3⟩:=B5 Bq
            obtain ⟨Cu0,Cu1,Fu0,Fu1⟩:=A3 Bu
            obtain ⟨Cm0,Fm0⟩:=A6 Bm
            go_wp2_with fail
            generalize (es1z0n0z1w3.alloc (.cells #[.slice sm 0 cm] 53))=es1z0n0z1w4 at *
            generalize es1z0n0z1w3.heap.size=aes1z0n0z1w3 at *
            replace hzes1z0n0z1w3:=hzes1z0n0z1w3.out
            replace hlqes1z0n0z1w3:=hlqes1z0n0z1w3.out
            replace hlues1z0n0z1w3:=hlues1z0n0z1w3.out
            clear Cq0 Fq0 Cq1 Fq1 Cq2 Fq2 Cq3 Fq3 Cu0 Fu0 Cu1 Fu1 Cm0 Fm0
            refine (eA es1z0n0z1w4 0 (by omega) (by omega)).mono ?_
            rintro e es1z0n0z1w5 ⟨_,rfl,⟨gd,sd,ld,cd,gd',sd',ld',cd',nd,dd,rfl,hd,hd',ud⟩,ges1z0n0z1w5⟩
            have yd:RQ es1z0n0z1w5 (.agg #[.int .i64 gd,.slice sd ld cd,.int .i64 gd',.slice sd' ld' cd']) ((0:Int):Rat) 5:=⟨gd,sd,ld,cd,gd',sd',ld',cd',nd,dd,rfl,hd,hd',ud⟩
            replace Bq:=A0 ges1z0n0z1w5 Bq
            replace Bu:=A0 ges1z0n0z1w5 Bu
            replace Bm:=A0 ges1z0n0z1w5 Bm
            replace ru:=ru.kept ges1z0n0z1w5
            replace mm:=mm.kept ges1z0n0z1w5
            replace hG:=A2 hG ges1z0n0z1w5
            clear ges1z0n0z1w5
            clear hd hd'
            obtain ⟨Cq0,Cq1,Cq2,Cq3,Fq0,Fq1,Fq2,Fq3⟩:=B5 Bq
            obtain ⟨Cu0,Cu1,Fu0,Fu1⟩:=A3 Bu
            obtain ⟨Cm0,Fm0⟩:=A6 Bm
            have yz:=RQ.zero5 yd HE5.out
            clear Cq0 Fq0 Cq1 Fq1 Cq2 Fq2 Cq3 Fq3 Cu0 Fu0 Cu1 Fu1 Cm0 Fm0
            obtain ⟨k90,k91,k92,k93,k94,k95,k96,k97⟩:=B5 Bq
            obtain ⟨q90,q91,q92,q93,q94,q95,q96,q97⟩:=B5 (Y9 Bq (.int .i64 gd) (.slice sd ld cd) (.int .i64 gd') (.slice sd' ld' cd'))
            have hF:Hid (dD w 0 E 5 (.returned (.tuple #[.agg #[.int .i64 gd,.slice sd ld cd,.int .i64 gd',.slice sd' ld' cd'],.int .i64 5])) ((((es1z0n0z1w5.setCell ⟨w.heap.size,0,none⟩ (.int .i64 gd)).setCell ⟨w.heap.size,1,none⟩ (.slice sd ld cd)).setCell ⟨w.heap.size,2,none⟩ (.int .i64 gd')).setCell ⟨w.heap.size,3,none⟩ (.slice sd' ld' cd'))):=fQ hG Bq (by omega) yz
            clear ru mm yd yz
            obtain ⟨Cu0,Cu1,Fu0,Fu1⟩:=A3 Bu
            obtain ⟨Cm0,Fm0⟩:=A6 Bm
            go_wp2_with fail
            exact bodyPost_ret (v := .tuple #[.agg #[.int .i64 gd,.slice sd ld cd,.int .i64 gd',.slice sd' ld' cd'],.int .i64 5]) (by simp [results,Tryz.results63,go_sem,q90,q91,q92,q93]) rfl hF.out
          · skip
            have HN0:=Lib.hid h00
            have HI:Hid (((J9 D9:Nat):Int)≠0/\((J9 D9:Nat):Int).natAbs<D^E/\((J9 D9:Nat):Int).sign=1/\((J9 D9:Nat):Int).natAbs=J9 D9):=⟨by omega,by rw [Int.natAbs_natCast];exact HNB.out,Int.sign_eq_one_of_pos (by omega),Int.natAbs_natCast _⟩
            have hc9:c9=0:=by rw [hcv];simp [hz,hx,hn,show ¬ (J9 D9=0) by omega,show ¬ ((k:Int)<0) by omega]
            have hv9:R9=Rat.divInt (I5 U) (J9 D9:Int):=by rw [hfv,hc9];simp [hx,show ¬ ((k:Int)<0) by omega]
            clear hcv hfv
            subst hc9
            have HV:=Lib.hid hv9
            clear hv9
            have hkb:(k:Int)<4000:=by omega
            clear hz hn hU hD hUs hDs hUe hx hs hDe
            clear h00
            obtain ⟨Cq0,Cq1,Cq2,Cq3,Fq0,Fq1,Fq2,Fq3⟩:=B5 Bq
            go_wp2_with fail
            clear Cq0 Fq0 Cq1 Fq1 Cq2 Fq2 Cq3 Fq3
            refine (HZP.out w0).mono ?_
            rintro e es1z0n0z0w1 ⟨_,rfl,⟨gu,su,lu,cu,rfl,hu,mu⟩,ges1z0n0z0w1⟩
            have ru:RIntV es1z0n0z0w1 (.agg #[.int .i64 gu,.slice su lu cu]) (I5 U):=⟨gu,su,lu,cu,rfl,hu,mu⟩
            replace Bq:=A0 ges1z0n0z0w1 Bq
            replace hG:=A2 hG ges1z0n0z0w1
            clear ges1z0n0z0w1
            clear mu
            obtain ⟨Cq0,Cq1,Cq2,Cq3,Fq0,Fq1,Fq2,Fq3⟩:=B5 Bq
            have gbes1z0n0z0w1:=(World.grownBy_alloc es1z0n0z0w1 (.cells #[.int .i64 gu,.slice su lu cu] 55) none)
            have Bu:=(A5 es1z0n0z0w1 (.cells #[.int .i64 gu,.slice su lu cu] 55) (es1z0n0z0w1.heap.size) rfl)
            have hzes1z0n0z0w1:Hid (w.heap.size<=es1z0n0z0w1.heap.size):=Lib.hid hG.size
            have hlqes1z0n0z0w1:Hid (w.heap.size<es1z0n0z0w1.heap.size):=Lib.hid (Array.getElem?_eq_some_iff.1 Bq).1
            clear Cq0 Fq0 Cq1 Fq1 Cq2 Fq2 Cq3 Fq3
            replace Bq:=A0 gbes1z0n0z0w1 Bq
            replace ru:=ru.kept gbes1z0n0z0w1
            replace hG:=A2 hG gbes1z0n0z0w1
            clear gbes1z0n0z0w1
            obtain ⟨Cq0,Cq1,Cq2,Cq3,Fq0,Fq1,Fq2,Fq3⟩:=B5 Bq
            obtain ⟨Cu0,Cu1,Fu0,Fu1⟩:=A3 Bu
            go_wp2_with fail
            generalize (es1z0n0z0w1.alloc (.cells #[.int .i64 gu,.slice su lu cu] 55))=es1z0n0z0w2 at *
            generalize es1z0n0z0w1.heap.size=aes1z0n0z0w1 at *
            replace hzes1z0n0z0w1:=hzes1z0n0z0w1.out
            replace hlqes1z0n0z0w1:=hlqes1z0n0z0w1.out
            clear Cq0 Fq0 Cq1 Fq1 Cq2 Fq2 Cq3 Fq3 Cu0 Fu0 Cu1 Fu1
            refine (HNQ.out es1z0n0z0w2).mono ?_
            rintro e es1z0n0z0w3 ⟨_,rfl,⟨sm,lm,cm,ym,rfl,hm⟩,ges1z0n0z0w3⟩
            have mm:RefV es1z0n0z0w3 (.agg #[.slice sm lm cm]) (J9 D9):=⟨sm,lm,cm,ym,rfl,hm⟩
            replace Bq:=A0 ges1z0n0z0w3 Bq
            replace Bu:=A0 ges1z0n0z0w3 Bu
            replace ru:=ru.kept ges1z0n0z0w3
            replace hG:=A2 hG ges1z0n0z0w3
            clear ges1z0n0z0w3
            clear hm
            obtain ⟨Cq0,Cq1,Cq2,Cq3,Fq0,Fq1,Fq2,Fq3⟩:=B5 Bq
            obtain ⟨Cu0,Cu1,Fu0,Fu1⟩:=A3 Bu
            have hl9:=(vA mm).2 HN0.out
            have f1:((lm:Int) == 0)=false:=beq_eq_false_iff_ne.2 (by omega)
            have gbes1z0n0z0w3:=(World.grownBy_alloc es1z0n0z0w3 (.cells #[.slice sm lm cm] 53) none)
            have Bm:=(A5 es1z0n0z0w3 (.cells #[.slice sm lm cm] 53) (es1z0n0z0w3.heap.size) rfl)
            have hzes1z0n0z0w3:Hid (w.heap.size<=es1z0n0z0w3.heap.size):=Lib.hid hG.size
            have hlqes1z0n0z0w3:Hid (w.heap.size<es1z0n0z0w3.heap.size):=Lib.hid (Array.getElem?_eq_some_iff.1 Bq).1
            have hlues1z0n0z0w3:Hid (aes1z0n0z0w1<es1z0n0z0w3.heap.size):=Lib.hid (Array.getElem?_eq_some_iff.1 Bu).1
            clear Cq0 Fq0 Cq1 Fq1 Cq2 Fq2 Cq3 Fq3 Cu0 Fu0 Cu1 Fu1
            replace Bq:=A0 gbes1z0n0z0w3 Bq
            replace Bu:=A0 gbes1z0n0z0w3 Bu
            replace ru:=ru.kept gbes1z0n0z0w3
            replace mm:=mm.kept gbes1z0n0z0w3
            replace hG:=A2 hG gbes1z0n0z0w3
            clear gbes1z0n0z0w3
            obtain ⟨Cq0,Cq1,Cq2,Cq3,Fq0,Fq1,Fq2,Fq3⟩:=B5 Bq
            obtain ⟨Cu0,Cu1,Fu0,Fu1⟩:=A3 Bu
            obtain ⟨Cm0,Fm0⟩:=A6 Bm
            go_wp2_with fail
            generalize (es1z0n0z0w3.alloc (.cells #[.slice sm lm cm] 53))=es1z0n0z0w4 at *
            generalize es1z0n0z0w3.heap.size=aes1z0n0z0w3 at *
            replace hzes1z0n0z0w3:=hzes1z0n0z0w3.out
            replace hlqes1z0n0z0w3:=hlqes1z0n0z0w3.out
            replace hlues1z0n0z0w3:=hlues1z0n0z0w3.out
            go_region_held3 (fun w'=>w'.cell? ⟨aes1z0n0z0w1,0,none⟩=some (.int .i64 gu)/\w'.cell? ⟨aes1z0n0z0w1,1,none⟩=some (.slice su lu cu)/\w'.cell? ⟨aes1z0n0z0w3,0,none⟩=some (.slice sm lm cm))
             (first | assumption | exact ⟨Cu0,Cu1,Cm0⟩ | exact HSes1z0n0z0w5_20 | go_keep)
             (first
              | (go_at_call 116;(with_reducible refine (T8 es1z0n0z0w4.drew _ 1 (J9 D9) ((J9 D9:Nat):Int) (mm.kept (C9 (A9 _ _))) HI.out.2.2.2 (Or.inr HI.out.2.2.1)).mono ?_);rintro e es1z0n0z0w5_1 ⟨v1,rfl,k1,ges1z0n0z0w5_1⟩;have hGes1z0n0z0w5_1:=H8 es1z0n0z0w4 ges1z0n0z0w5_1 rfl rfl rfl rfl;have hSes1z0n0z0w5_1:=(And.intro (hGes1z0n0z0w5_1.cell Cu0 (by simp)) (And.intro (hGes1z0n0z0w5_1.cell Cu1 (by simp)) (hGes1z0n0z0w5_1.cell Cm0 (by simp))));clear ges1z0n0z0w5_1)
              | (go_at_call 123;(with_reducible refine (pP es1z0n0z0w5_1 _ _ (I5 U) ((J9 D9:Nat):Int) E (ru.kept hGes1z0n0z0w5_1) k1 HI.out.1 HZB.out HI.out.2.1).mono ?_);rintro e es1z0n0z0w5_2 ⟨_,rfl,⟨gd,sd,ld,cd,gd',sd',ld',cd',nd,dd,rfl,hd,hd',ud⟩,ges1z0n0z0w5_2⟩;rw [<- HV.out] at ud;have hGes1z0n0z0w5_2:=A2 hGes1z0n0z0w5_1 ges1z0n0z0w5_2;replace k1:=k1.kept ges1z0n0z0w5_2;have yd:RQ es1z0n0z0w5_2 (.agg #[.int .i64 gd,.slice sd ld cd,.int .i64 gd',.slice sd' ld' cd']) R9 E:=⟨gd,sd,ld,cd,gd',sd',ld',cd',nd,dd,rfl,hd,hd',ud⟩;have hSes1z0n0z0w5_2:=(And.intro (hGes1z0n0z0w5_2.cell Cu0 (by simp)) (And.intro (hGes1z0n0z0w5_2.cell Cu1 (by simp)) (hGes1z0n0z0w5_2.cell Cm0 (by simp))));clear ges1z0n0z0w5_2;clear hd hd';(obtain ⟨dq0,dq1,dq2,dq3,dq4,dq5,dq6,dq7⟩:=B5 (A0 hGes1z0n0z0w5_2 Bq));have HSes1z0n0z0w5_20:=(And.intro ((A3 (W3 (A0 hGes1z0n0z0w5_2 Bu) (show aes1z0n0z0w1≠w.heap.size by omega) (.int .i64 gd) (.slice sd ld cd) (.int .i64 gd') (.slice sd' ld' cd'))).1) (And.intro ((A3 (W3 (A0 hGes1z0n0z0w5_2 Bu) (show aes1z0n0z0w1≠w.heap.size by omega) (.int .i64 gd) (.slice sd ld cd) (.int .i64 gd') (.slice sd' ld' cd'))).2.1) ((A6 (W3 (A0 hGes1z0n0z0w5_2 Bm) (show aes1z0n0z0w3≠w.heap.size by omega) (.int .i64 gd) (.slice sd ld cd) (.int .i64 gd') (.slice sd' ld' cd'))).1)))))
            replace Bq:=A0 hGes1z0n0z0w5_2 Bq
            replace Bu:=A0 hGes1z0n0z0w5_2 Bu
            replace Bm:=A0 hGes1z0n0z0w5_2 Bm
            replace ru:=ru.kept hGes1z0n0z0w5_2
            replace mm:=mm.kept hGes1z0n0z0w5_2
            replace hG:=A2 hG hGes1z0n0z0w5_2
            clear Cq0 Fq0 Cq1 Fq1 Cq2 Fq2 Cq3 Fq3 Cu0 Fu0 Cu1 Fu1 Cm0 Fm0
            obtain ⟨k90,k91,k92,k93,k94,k95,k96,k97⟩:=B5 Bq
            obtain ⟨q90,q91,q92,q93,q94,q95,q96,q97⟩:=B5 (Y9 Bq (.int .i64 gd) (.slice sd ld cd) (.int .i64 gd') (.slice sd' ld' cd'))
            have hF:Hid (dD w R9 E 0 (.returned (.tuple #[.agg #[.int .i64 gd,.slice sd ld cd,.int .i64 gd',.slice sd' ld' cd'],.int .i64 0])) ((((es1z0n0z0w5_2.setCell ⟨w.heap.size,0,none⟩ (.int .i64 gd)).setCell ⟨w.heap.size,1,none⟩ (.slice sd ld cd)).setCell ⟨w.heap.size,2,none⟩ (.int .i64 gd')).setCell ⟨w.heap.size,3,none⟩ (.slice sd' ld' cd'))):=fQ hG Bq (by omega) yd
            clear ru mm k1 yd
            obtain ⟨Cu0,Cu1,Fu0,Fu1⟩:=A3 Bu
            obtain ⟨Cm0,Fm0⟩:=A6 Bm
            go_wp2_with fail
            exact bodyPost_ret (v := .tuple #[.agg #[.int .i64 gd,.slice sd ld cd,.int .i64 gd',.slice sd' ld' cd'],.int .i64 0]) (by simp [results,Tryz.results63,go_sem,q90,q91,q92,q93]) rfl hF.out
        · skip
          have HNQ:Hid (∀ W,Calls Tryz.prog 124 #[.string (s.extract (k+1) s.size)] W (U3 W (J9 D9) 3)):=fun W=>by rw [<- hn, <- hDe];exact HNP.out W
          have hc9:c9=3:=by rw [hcv];simp [hz,hx,hn,show ¬ ((k:Int)<0) by omega]
          have hv9:R9=0:=by rw [hfv,hc9];simp [hx]
          clear hcv hfv
          subst hc9
          subst hv9
          have hkb:(k:Int)<4000:=by omega
          clear hz hn hU hD hUs hDs hUe hx hs hDe
          obtain ⟨Cq0,Cq1,Cq2,Cq3,Fq0,Fq1,Fq2,Fq3⟩:=B5 Bq
          go_wp2_with fail
          clear Cq0 Fq0 Cq1 Fq1 Cq2 Fq2 Cq3 Fq3
          refine (HZP.out w0).mono ?_
          rintro e es1z0n3w1 ⟨_,rfl,⟨gu,su,lu,cu,rfl,hu,mu⟩,ges1z0n3w1⟩
          have ru:RIntV es1z0n3w1 (.agg #[.int .i64 gu,.slice su lu cu]) (I5 U):=⟨gu,su,lu,cu,rfl,hu,mu⟩
          replace Bq:=A0 ges1z0n3w1 Bq
          replace hG:=A2 hG ges1z0n3w1
          clear ges1z0n3w1
          clear mu
          obtain ⟨Cq0,Cq1,Cq2,Cq3,Fq0,Fq1,Fq2,Fq3⟩:=B5 Bq
          have gbes1z0n3w1:=(World.grownBy_alloc es1z0n3w1 (.cells #[.int .i64 gu,.slice su lu cu] 55) none)
          have Bu:=(A5 es1z0n3w1 (.cells #[.int .i64 gu,.slice su lu cu] 55) (es1z0n3w1.heap.size) rfl)
          have hzes1z0n3w1:Hid (w.heap.size<=es1z0n3w1.heap.size):=Lib.hid hG.size
          have hlqes1z0n3w1:Hid (w.heap.size<es1z0n3w1.heap.size):=Lib.hid (Array.getElem?_eq_some_iff.1 Bq).1
          clear Cq0 Fq0 Cq1 Fq1 Cq2 Fq2 Cq3 Fq3
          replace Bq:=A0 gbes1z0n3w1 Bq
          replace ru:=ru.kept gbes1z0n3w1
          replace hG:=A2 hG gbes1z0n3w1
          clear gbes1z0n3w1
          obtain ⟨Cq0,Cq1,Cq2,Cq3,Fq0,Fq1,Fq2,Fq3⟩:=B5 Bq
          obtain ⟨Cu0,Cu1,Fu0,Fu1⟩:=A3 Bu
          go_wp2_with fail
          generalize (es1z0n3w1.alloc (.cells #[.int .i64 gu,.slice su lu cu] 55))=es1z0n3w2 at *
          generalize es1z0n3w1.heap.size=aes1z0n3w1 at *
          replace hzes1z0n3w1:=hzes1z0n3w1.out
          replace hlqes1z0n3w1:=hlqes1z0n3w1.out
          clear Cq0 Fq0 Cq1 Fq1 Cq2 Fq2 Cq3 Fq3 Cu0 Fu0 Cu1 Fu1
          refine (HNQ.out es1z0n3w2).mono ?_
          rintro e es1z0n3w3 ⟨_,rfl,⟨sm,lm,cm,ym,rfl,hm⟩,ges1z0n3w3⟩
          have mm:RefV es1z0n3w3 (.agg #[.slice sm lm cm]) (J9 D9):=⟨sm,lm,cm,ym,rfl,hm⟩
          replace Bq:=A0 ges1z0n3w3 Bq
          replace Bu:=A0 ges1z0n3w3 Bu
          replace ru:=ru.kept ges1z0n3w3
          replace hG:=A2 hG ges1z0n3w3
          clear ges1z0n3w3
          clear hm
          obtain ⟨Cq0,Cq1,Cq2,Cq3,Fq0,Fq1,Fq2,Fq3⟩:=B5 Bq
          obtain ⟨Cu0,Cu1,Fu0,Fu1⟩:=A3 Bu
          have gbes1z0n3w3:=(World.grownBy_alloc es1z0n3w3 (.cells #[.slice sm lm cm] 53) none)
          have Bm:=(A5 es1z0n3w3 (.cells #[.slice sm lm cm] 53) (es1z0n3w3.heap.size) rfl)
          have hzes1z0n3w3:Hid (w.heap.size<=es1z0n3w3.heap.size):=Lib.hid hG.size
          have hlqes1z0n3w3:Hid (w.heap.size<es1z0n3w3.heap.size):=Lib.hid (Array.getElem?_eq_some_iff.1 Bq).1
          have hlues1z0n3w3:Hid (aes1z0n3w1<es1z0n3w3.heap.size):=Lib.hid (Array.getElem?_eq_some_iff.1 Bu).1
          clear Cq0 Fq0 Cq1 Fq1 Cq2 Fq2 Cq3 Fq3 Cu0 Fu0 Cu1 Fu1
          replace Bq:=A0 gbes1z0n3w3 Bq
          replace Bu:=A0 gbes1z0n3w3 Bu
          replace ru:=ru.kept gbes1z0n3w3
          replace mm:=mm.kept gbes1z0n3w3
          replace hG:=A2 hG gbes1z0n3w3
          clear gbes1z0n3w3
          obtain ⟨Cq0,Cq1,Cq2,Cq3,Fq0,Fq1,Fq2,Fq3⟩:=B5 Bq
          obtain ⟨Cu0,Cu1,Fu0,Fu1⟩:=A3 Bu
          obtain ⟨Cm0,Fm0⟩:=A6 Bm
          go_wp2_with fail
          generalize (es1z0n3w3.alloc (.cells #[.slice sm lm cm] 53))=es1z0n3w4 at *
          generalize es1z0n3w3.heap.size=aes1z0n3w3 at *
          replace hzes1z0n3w3:=hzes1z0n3w3.out
          replace hlqes1z0n3w3:=hlqes1z0n3w3.out
          replace hlues1z0n3w3:=hlues1z0n3w3.out
          clear Cq0 Fq0 Cq1 Fq1 Cq2 Fq2 Cq3 Fq3 Cu0 Fu0 Cu1 Fu1 Cm0 Fm0
          refine (eA es1z0n3w4 0 (by omega) (by omega)).mono ?_
          rintro e es1z0n3w5 ⟨_,rfl,⟨gd,sd,ld,cd,gd',sd',ld',cd',nd,dd,rfl,hd,hd',ud⟩,ges1z0n3w5⟩
          have yd:RQ es1z0n3w5 (.agg #[.int .i64 gd,.slice sd ld cd,.int .i64 gd',.slice sd' ld' cd']) ((0:Int):Rat) 5:=⟨gd,sd,ld,cd,gd',sd',ld',cd',nd,dd,rfl,hd,hd',ud⟩
          replace Bq:=A0 ges1z0n3w5 Bq
          replace Bu:=A0 ges1z0n3w5 Bu
          replace Bm:=A0 ges1z0n3w5 Bm
          replace ru:=ru.kept ges1z0n3w5
          replace mm:=mm.kept ges1z0n3w5
          replace hG:=A2 hG ges1z0n3w5
          clear ges1z0n3w5
          clear hd hd'
          obtain ⟨Cq0,Cq1,Cq2,Cq3,Fq0,Fq1,Fq2,Fq3⟩:=B5 Bq
          obtain ⟨Cu0,Cu1,Fu0,Fu1⟩:=A3 Bu
          obtain ⟨Cm0,Fm0⟩:=A6 Bm
          have yz:=RQ.zero5 yd HE5.out
          clear Cq0 Fq0 Cq1 Fq1 Cq2 Fq2 Cq3 Fq3 Cu0 Fu0 Cu1 Fu1 Cm0 Fm0
          obtain ⟨k90,k91,k92,k93,k94,k95,k96,k97⟩:=B5 Bq
          obtain ⟨q90,q91,q92,q93,q94,q95,q96,q97⟩:=B5 (Y9 Bq (.int .i64 gd) (.slice sd ld cd) (.int .i64 gd') (.slice sd' ld' cd'))
          have hF:Hid (dD w 0 E 3 (.returned (.tuple #[.agg #[.int .i64 gd,.slice sd ld cd,.int .i64 gd',.slice sd' ld' cd'],.int .i64 3])) ((((es1z0n3w5.setCell ⟨w.heap.size,0,none⟩ (.int .i64 gd)).setCell ⟨w.heap.size,1,none⟩ (.slice sd ld cd)).setCell ⟨w.heap.size,2,none⟩ (.int .i64 gd')).setCell ⟨w.heap.size,3,none⟩ (.slice sd' ld' cd'))):=fQ hG Bq (by omega) yz
          clear ru mm yd yz
          obtain ⟨Cu0,Cu1,Fu0,Fu1⟩:=A3 Bu
          obtain ⟨Cm0,Fm0⟩:=A6 Bm
          go_wp2_with fail
          exact bodyPost_ret (v := .tuple #[.agg #[.int .i64 gd,.slice sd ld cd,.int .i64 gd',.slice sd' ld' cd'],.int .i64 3]) (by simp [results,Tryz.results63,go_sem,q90,q91,q92,q93]) rfl hF.out
      · skip
        have HZP:Hid (∀ W,Calls Tryz.prog 122 #[.string (s.extract 0 k)] W (G0 W (I5 U) 3)):=fun W=>by rw [<- hz, <- hUe];exact aQ W U
        have hc9:c9=3:=by rw [hcv];simp [hz,hx]
        have hv9:R9=0:=by rw [hfv,hc9];simp [hx]
        clear hcv hfv
        subst hc9
        subst hv9
        have hkb:(k:Int)<4000:=by omega
        clear hz hn hU hD hUs hDs hUe hx hs hDe
        obtain ⟨Cq0,Cq1,Cq2,Cq3,Fq0,Fq1,Fq2,Fq3⟩:=B5 Bq
        go_wp2_with fail
        clear Cq0 Fq0 Cq1 Fq1 Cq2 Fq2 Cq3 Fq3
        refine (HZP.out w0).mono ?_
        rintro e es1z3w1 ⟨_,rfl,⟨gu,su,lu,cu,rfl,hu,mu⟩,ges1z3w1⟩
        have ru:RIntV es1z3w1 (.agg #[.int .i64 gu,.slice su lu cu]) (I5 U):=⟨gu,su,lu,cu,rfl,hu,mu⟩
        replace Bq:=A0 ges1z3w1 Bq
        replace hG:=A2 hG ges1z3w1
        clear ges1z3w1
        clear mu
        obtain ⟨Cq0,Cq1,Cq2,Cq3,Fq0,Fq1,Fq2,Fq3⟩:=B5 Bq
        have gbes1z3w1:=(World.grownBy_alloc es1z3w1 (.cells #[.int .i64 gu,.slice su lu cu] 55) none)
        have Bu:=(A5 es1z3w1 (.cells #[.int .i64 gu,.slice su lu cu] 55) (es1z3w1.heap.size) rfl)
        have hzes1z3w1:Hid (w.heap.size<=es1z3w1.heap.size):=Lib.hid hG.size
        have hlqes1z3w1:Hid (w.heap.size<es1z3w1.heap.size):=Lib.hid (Array.getElem?_eq_some_iff.1 Bq).1
        clear Cq0 Fq0 Cq1 Fq1 Cq2 Fq2 Cq3 Fq3
        replace Bq:=A0 gbes1z3w1 Bq
        replace ru:=ru.kept gbes1z3w1
        replace hG:=A2 hG gbes1z3w1
        clear gbes1z3w1
        obtain ⟨Cq0,Cq1,Cq2,Cq3,Fq0,Fq1,Fq2,Fq3⟩:=B5 Bq
        obtain ⟨Cu0,Cu1,Fu0,Fu1⟩:=A3 Bu
        go_wp2_with fail
        generalize (es1z3w1.alloc (.cells #[.int .i64 gu,.slice su lu cu] 55))=es1z3w2 at *
        generalize es1z3w1.heap.size=aes1z3w1 at *
        replace hzes1z3w1:=hzes1z3w1.out
        replace hlqes1z3w1:=hlqes1z3w1.out
        clear Cq0 Fq0 Cq1 Fq1 Cq2 Fq2 Cq3 Fq3 Cu0 Fu0 Cu1 Fu1
        refine (eA es1z3w2 0 (by omega) (by omega)).mono ?_
        rintro e es1z3w3 ⟨_,rfl,⟨gd,sd,ld,cd,gd',sd',ld',cd',nd,dd,rfl,hd,hd',ud⟩,ges1z3w3⟩
        have yd:RQ es1z3w3 (.agg #[.int .i64 gd,.slice sd ld cd,.int .i64 gd',.slice sd' ld' cd']) ((0:Int):Rat) 5:=⟨gd,sd,ld,cd,gd',sd',ld',cd',nd,dd,rfl,hd,hd',ud⟩
        replace Bq:=A0 ges1z3w3 Bq
        replace Bu:=A0 ges1z3w3 Bu
        replace ru:=ru.kept ges1z3w3
        replace hG:=A2 hG ges1z3w3
        clear ges1z3w3
        clear hd hd'
        obtain ⟨Cq0,Cq1,Cq2,Cq3,Fq0,Fq1,Fq2,Fq3⟩:=B5 Bq
        obtain ⟨Cu0,Cu1,Fu0,Fu1⟩:=A3 Bu
        have yz:=RQ.zero5 yd HE5.out
        clear Cq0 Fq0 Cq1 Fq1 Cq2 Fq2 Cq3 Fq3 Cu0 Fu0 Cu1 Fu1
        obtain ⟨k90,k91,k92,k93,k94,k95,k96,k97⟩:=B5 Bq
        obtain ⟨q90,q91,q92,q93,q94,q95,q96,q97⟩:=B5 (Y9 Bq (.int .i64 gd) (.slice sd ld cd) (.int .i64 gd') (.slice sd' ld' cd'))
        have hF:Hid (dD w 0 E 3 (.returned (.tuple #[.agg #[.int .i64 gd,.slice sd ld cd,.int .i64 gd',.slice sd' ld' cd'],.int .i64 3])) ((((es1z3w3.setCell ⟨w.heap.size,0,none⟩ (.int .i64 gd)).setCell ⟨w.heap.size,1,none⟩ (.slice sd ld cd)).setCell ⟨w.heap.size,2,none⟩ (.int .i64 gd')).setCell ⟨w.heap.size,3,none⟩ (.slice sd' ld' cd'))):=fQ hG Bq (by omega) yz
        clear ru yd yz
        obtain ⟨Cu0,Cu1,Fu0,Fu1⟩:=A3 Bu
        go_wp2_with fail
        exact bodyPost_ret (v := .tuple #[.agg #[.int .i64 gd,.slice sd ld cd,.int .i64 gd',.slice sd' ld' cd'],.int .i64 3]) (by simp [results,Tryz.results63,go_sem,q90,q91,q92,q93]) rfl hF.out
  · skip
    obtain ⟨m,rfl⟩:∃ m:Nat,k=m+1:=⟨k-1,by omega⟩
    obtain rfl:j=(m:Int):=by omega
    have hm:m<s.size:=by omega
    clear hj h0
    have hst:=HST.out m hm
    obtain ⟨y,ey⟩:∃ y,(s[m]'hm).toNat=y:=⟨_,rfl⟩
    rw [ey] at hst
    by_cases hy:y=47
    · skip
      rw [if_pos hy] at hst
      subst hy
      have HST9:=Lib.hid hst
      clear hst hcv hfv hz hn hU hD hUs hDs hs hx9 HNP HZB HNB HG0 HBQ HS0 HSE HST
      have hs:=HSS.out
      go_wp2_with fail
      go_roundw
      case rel=>exact ⟨(m:Int)-1,m,by omega,rfl,by go_num,by rw [HST9.out],by trivial⟩
      case measure=>(simp [intOf]<;>omega)
    · skip
      rw [if_neg hy] at hst
      have f9:((y:Int) == 47)=false:=beq_eq_false_iff_ne.2 (by omega)
      have HST9:=Lib.hid hst
      clear hst hcv hfv hz hn hU hD hUs hDs hs hx9 HNP HZB HNB HG0 HBQ HS0 HSE HST
      have hs:=HSS.out
      go_wp2_with fail
      go_roundw
      case rel=>exact ⟨(m:Int)-1,m,by omega,rfl,by go_num,by rw [HST9.out],by trivial⟩
      case measure=>(simp [intOf]<;>omega)
end Go.Proofs.YtdgdmicbbfoghaaGreatDoor
