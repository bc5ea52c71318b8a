/- What the laws lean on, part 26. -/
import Derived.Deep.RegionHeld3
import Derived.Deep.CutRange
import Derived.Test.YtgbbdgioohaknaaGreatDoorPb15
import Derived.Test.YtgbbdgioohaknaaGreatDoorPb25
namespace Go.Proofs.YtgbbdgioohaknaaGreatDoor
open Go.RowKit Mat
set_option maxRecDepth 100000
set_option linter.unusedVariables false
set_option linter.unusedSimpArgs false
def cf_ (w : World) (r : Rat) (E : Nat) (code : Int) (e : Ending) (w' : World) : Prop:=∃ v,e = .returned (.tuple #[v,.int .i64 code]) ∧ RQ w' v r E ∧ w.grownBy w' none
theorem dg_ {w w' : World} {r : Rat} {E : Nat} {code : Int} {g : Nat} {a0 a1 a2 a3 v0 v1 v2 v3 : Value} (hg : w.grownBy w' none) (hbox : w'.heap[g]? = some (.cells #[a0,a1,a2,a3] 38 (0,0))) (hl : w.heap.size ≤ g) (h : RQ w' (.agg #[v0,v1,v2,v3]) r E) :
    cf_ w r E code (.returned (.tuple #[.agg #[v0,v1,v2,v3],.int .i64 code])) ((((w'.setCell ⟨g,0,none⟩ v0).setCell ⟨g,1,none⟩ v1).setCell ⟨g,2,none⟩ v2).setCell ⟨g,3,none⟩ v3) :=
 ⟨_,rfl,h.set4 hbox _ _ _ _,aw_ hg hl _ _ _ _⟩
set_option maxHeartbeats 16000000 in
theorem dJ_ (w : World) (n : Int) (h1 : -9223372036854775808 ≤ n) (h2 : n ≤ 9223372036854775807) :
    Calls Tryz.prog 55 #[.int .i64 n] w (cg_ w (n : Rat) 5):=by
 have HN : Hid (-9223372036854775808 ≤ n ∧ n ≤ 9223372036854775807):=⟨h1,h2⟩
 have HF : Hid ((0 : Int) < 1 ∧ Rat.divInt n 1 = (n : Rat) ∧ n.natAbs < D ^ 5 ∧ (1 : Int).natAbs < D ^ 5):=⟨by decide,by rw [show (1 : Int) = ((1 : Nat) : Int) from rfl,Rat.divInt_ofNat]; exact Rat.mkRat_self (n : Rat),by unfold D; omega,by unfold D; decide⟩
 clear h1 h2
 obtain ⟨hG,Bq⟩:=en1_ w (.cells #[.int .i64 0,.slice none 0 0,.int .i64 0,.slice none 0 0] 38)
 go_enter Tryz.func55,Tryz.ntmps55
 obtain ⟨Cq0,Cq1,Cq2,Cq3,Fq0,Fq1,Fq2,Fq3⟩:=b_ Bq
 go_wp2_with fail
 generalize (w.alloc (.cells #[.int .i64 0,.slice none 0 0,.int .i64 0,.slice none 0 0] 38)) = w0 at *
 clear Cq0 Fq0 Cq1 Fq1 Cq2 Fq2 Cq3 Fq3
 refine (aq_ w0 n HN.out.1 HN.out.2).mono ?_
 rintro e w1 ⟨_,rfl,⟨ga,sa,la,ca,rfl,ha,ma⟩,gw1⟩
 have ra : RIntV w1 (.agg #[.int .i64 ga,.slice sa la ca]) (n):=⟨ga,sa,la,ca,rfl,ha,ma⟩
 replace Bq:=a_ gw1 Bq
 replace hG:=d_ hG gw1
 clear gw1
 clear ma
 obtain ⟨Cq0,Cq1,Cq2,Cq3,Fq0,Fq1,Fq2,Fq3⟩:=b_ Bq
 go_wp2_with fail
 clear Cq0 Fq0 Cq1 Fq1 Cq2 Fq2 Cq3 Fq3
 refine (aq_ w1 1 (by omega) (by omega)).mono ?_
 rintro e w2 ⟨_,rfl,⟨gb,sb,lb,cb,rfl,hb,mb⟩,gw2⟩
 have rb : RIntV w2 (.agg #[.int .i64 gb,.slice sb lb cb]) (1):=⟨gb,sb,lb,cb,rfl,hb,mb⟩
 replace Bq:=a_ gw2 Bq
 replace ra:=ra.kept gw2
 replace hG:=d_ hG gw2
 clear gw2
 clear mb
 obtain ⟨Cq0,Cq1,Cq2,Cq3,Fq0,Fq1,Fq2,Fq3⟩:=b_ Bq
 have yd : RQ w2 (.agg #[.int .i64 ga,.slice sa la ca,.int .i64 gb,.slice sb lb cb]) (n : Rat) 5:=RQ.of ra rb HF.out.1 HF.out.2.1 HF.out.2.2.1 HF.out.2.2.2
 clear Cq0 Fq0 Cq1 Fq1 Cq2 Fq2 Cq3 Fq3
 obtain ⟨k90,k91,k92,k93,k94,k95,k96,k97⟩:=b_ Bq
 obtain ⟨q90,q91,q92,q93,q94,q95,q96,q97⟩:=b_ (r_ Bq (.int .i64 ga) (.slice sa la ca) (.int .i64 gb) (.slice sb lb cb))
 have hF : Hid (cg_ w (n : Rat) 5 (.returned (.agg #[.int .i64 ga,.slice sa la ca,.int .i64 gb,.slice sb lb cb])) ((((w2.setCell ⟨w.heap.size,0,none⟩ (.int .i64 ga)).setCell ⟨w.heap.size,1,none⟩ (.slice sa la ca)).setCell ⟨w.heap.size,2,none⟩ (.int .i64 gb)).setCell ⟨w.heap.size,3,none⟩ (.slice sb lb cb))):=dw_ hG Bq (by omega) yd
 clear ra rb yd
 go_wp2_with fail
 exact bodyPost_ret (v:=.agg #[.int .i64 ga,.slice sa la ca,.int .i64 gb,.slice sb lb cb]) (by simp [results,Tryz.results55,go_sem,q90,q91,q92,q93]) rfl hF.out
theorem iQ_ (s : ByteArray) {n k : Nat} (h : s.size ≤ n) (hk : n ≤ 19 * k) : (cG_ s).num.natAbs < B ^ k:=by
 have h1:=hT_ (fup s) (Nat.le_trans (fk_ s) h) hk
 unfold cG_
 split
 · split
   · exact h1
   · exact dV_ h1
 · exact Nat.pow_pos T_
theorem iR_ (s : ByteArray) {n k : Nat} (h : s.size ≤ n) (hk : n ≤ 19 * k) (k1 : 1 ≤ k) : (cG_ s).den < B ^ k:=by
 have h1:=iG_ (dq_ s) (Nat.le_trans (dp_ s) h) hk
 have h3 : 1 < B ^ k:=Nat.lt_of_lt_of_le (show 1 < B ^ 1 by unfold B; omega) (Nat.pow_le_pow_right T_ k1)
 unfold cG_
 split
 · next hc =>
   split
   · exact h3
   · next hs =>
     refine cB_ (by rw [Int.natAbs_natCast]; exact h1) ?_
     intro e
     unfold dc_ at hc
     split at hc
     · next hz=>exact hz hc
     · try rw [if_neg hs] at hc
       split at hc
       · next hn=>exact hn hc
       · rw [if_pos (by omega)] at hc; omega
 · exact h3
def slf (s : ByteArray) (k : Nat) : Int:=if Lib.indexByte (s.data.toList.drop k) 47 < 0 then -1 else Lib.indexByte (s.data.toList.drop k) 47 + k
theorem kP_ (s : ByteArray) : slf s s.size = -1:=by
 unfold slf
 rw [List.drop_of_length_le (by simp)]
 rfl
theorem jG_ (s : ByteArray) : slf s 0 = slx s:=by
 unfold slf slx
 rw [List.drop_zero]
 rcases cJ_ s with ⟨h,_⟩ | ⟨k,_,h,_⟩
 · unfold slx at h; rw [h]; rfl
 · unfold slx at h; rw [h,if_neg (by omega)]; omega
theorem jH_ (s : ByteArray) (m : Nat) (h : m < s.size) : slf s m = if (s[m]'h).toNat = 47 then (m : Int) else slf s (m + 1):=by
 have hl : m < s.data.toList.length:=by simpa using h
 have hd : s.data.toList.drop m = s[m]'h :: s.data.toList.drop (m + 1):=by
  rw [List.drop_eq_getElem_cons hl]; rfl
 have e : ∀ (b : UInt8) (l : List UInt8),Lib.indexByte (b :: l) 47 = if (b == 47) = true then 0 else if (Lib.indexByte l 47 == -1) = true then -1 else Lib.indexByte l 47 + 1:=fun _ _=>rfl
 unfold slf
 rw [hd,e]
 by_cases hb : (s[m]'h).toNat = 47
 · have : (s[m]'h == 47) = true:=by rw [beq_iff_eq]; exact UInt8.toNat_inj.1 hb
   rw [this,if_pos hb]; simp
 · have : (s[m]'h == 47) = false:=beq_eq_false_iff_ne.2 fun e=>hb (by rw [e]; rfl)
   rw [this,if_neg hb]
   simp only [Bool.false_eq_true,if_false]
   have hg:=Lib.indexByte_ge (s.data.toList.drop (m + 1)) 47
   by_cases h1 : Lib.indexByte (s.data.toList.drop (m + 1)) 47 = -1
   · rw [h1]; rfl
   · have : (Lib.indexByte (s.data.toList.drop (m + 1)) 47 == -1) = false:=beq_eq_false_iff_ne.2 h1
     rw [this]
     simp only [Bool.false_eq_true,if_false]
     rw [if_neg (by omega),if_neg (by omega)]
     omega
theorem go_ (w : World) (s : ByteArray) (hs : s.size ≤ 4096) : Calls Tryz.prog 56 #[.string s] w (bB_ w (bf_ s) (fP_ s)):=by
 unfold bf_ fP_
 by_cases h : hM_ (bts s) = true
 · rw [if_pos h,if_pos h]; exact bO_ w s hs (cc_ h)
 · rw [if_neg h,if_neg h]; exact gn_ w s hs (fun hd=>h ((cd_ _).2 hd))
theorem hb_ {l : List Nat} {E : Nat} (h : cF_ l) (hl : l.length ≤ 4 * E) : aC_ l < D ^ E:=by
 refine Nat.lt_of_lt_of_le (iT_ ((cd_ l).2 h)) ?_
 refine Nat.le_trans (Nat.pow_le_pow_right (by omega) hl) ?_
 rw [Nat.pow_mul]
 exact Nat.pow_le_pow_left (by unfold D; decide) E
theorem jW_ (s : ByteArray) {E : Nat} (h : s.size ≤ 4 * E) : bf_ s < D ^ E:=by
 unfold bf_
 split
 · next hd=>exact hb_ ((cd_ _).1 hd) (by rw [z_]; exact h)
 · exact Nat.pow_pos bi_
theorem ju_ (s : ByteArray) {E : Nat} (h : s.size ≤ 4 * E) : (aL_ s).natAbs < D ^ E:=by
 unfold aL_
 split
 · next hc =>
   have hok : zok (bts s) = true:=by
    cases e : zok (bts s)
    · unfold de_ at hc
      rw [e] at hc
      split at hc
      · cases hc
      · simp at hc
    · rfl
   have hd:=((aS_ _).1 hok).1
   have hl : (dC_ (bts s)).length ≤ 4 * E:=by
    unfold dC_
    split
    · rw [List.length_tail,z_]; omega
    · rw [z_]; exact h
   have hb:=hb_ hd hl
   unfold hm_
   split
   · rw [Int.natAbs_neg,Int.natAbs_natCast]; exact hb
   · rw [Int.natAbs_natCast]; exact hb
 · exact Nat.pow_pos bi_
theorem RQ.zero5 {w : World} {v : Value} {E : Nat} (h : RQ w v ((0 : Int) : Rat) 5) (hE : 5 ≤ E) : RQ w v 0 E:=h.mono hE
set_option maxHeartbeats 32000000 in
theorem cC_ (w : World) (s : ByteArray) (E : Nat) (hs : s.size ≤ 4000) (h5 : 5 ≤ E) (hsz : s.size ≤ 4 * E) :
    Calls Tryz.prog 12 #[.string s] w (cf_ w (cG_ s) E (dc_ s)):=by
 obtain ⟨U,hU⟩ : ∃ U,fup s = U:=⟨_,rfl⟩
 obtain ⟨D9,hD⟩ : ∃ D,dq_ s = D:=⟨_,rfl⟩
 have hUs : U.size ≤ s.size:=by rw [← hU]; exact fk_ s
 have hDs : D9.size ≤ s.size:=by rw [← hD]; exact dp_ s
 have HZB : Hid ((aL_ U).natAbs < D ^ E):=ju_ U (by omega)
 have HNB : Hid (bf_ D9 < D ^ E):=jW_ D9 (by omega)
 have HE5 : Hid (5 ≤ E):=h5
 have HNP : Hid (∀ W,Calls Tryz.prog 56 #[.string D9] W (bB_ W (bf_ D9) (fP_ D9))):=fun W=>go_ W D9 (by omega)
 have hz:=hW_ (show U.size ≤ 4000 by omega)
 have hn:=iH_ D9
 have hcv : dc_ s = (if de_ U ≠ 0 then de_ U else if slx s < 0 then 0 else if fP_ D9 ≠ 0 then fP_ D9 else if bf_ D9 = 0 then 5 else 0):=by unfold dc_; rw [hU,hD]
 have hfv : cG_ s = if dc_ s = 0 then (if slx s < 0 then (aL_ U : Rat) else Rat.divInt (aL_ U) (bf_ D9 : Int)) else 0:=by unfold cG_; rw [hU,hD]
 have HST : Hid (∀ m (h : m < s.size),slf s m = if (s[m]'h).toNat = 47 then (m : Int) else slf s (m + 1)):=jH_ s
 have HS0:=H_ (jG_ s)
 have HSE:=H_ (kP_ s)
 have HSS : Hid (s.size ≤ 4000):=hs
 have hx9:=cJ_ s
 obtain ⟨c9,hc⟩ : ∃ c,dc_ s = c:=⟨_,rfl⟩
 obtain ⟨R9,hr⟩ : ∃ r,cG_ s = r:=⟨_,rfl⟩
 rw [hc,hr]
 rw [hc] at hcv hfv
 rw [hr] at hfv
 clear hsz h5 hc hr
 obtain ⟨hG,Bq⟩:=en1_ w (.cells #[.int .i64 0,.slice none 0 0,.int .i64 0,.slice none 0 0] 38)
 go_enter Tryz.func12,Tryz.ntmps12
 obtain ⟨Cq0,Cq1,Cq2,Cq3,Fq0,Fq1,Fq2,Fq3⟩:=b_ Bq
 have HG0:=H_ hG
 have HBQ:=H_ Bq
 go_wp2_with fail
 generalize (w.alloc (.cells #[.int .i64 0,.slice none 0 0,.int .i64 0,.slice none 0 0] 38)) = w0 at *
 clear Cq0 Fq0 Cq1 Fq1 Cq2 Fq2 Cq3 Fq3 hG Bq
 go_loopw [4,5] (fun a i wr=>∃ (j : Int) (k : Nat),k ≤ s.size ∧ j = (k : Int) - 1 ∧ i = .int .i64 j ∧ a = .int .i64 (slf s k) ∧ w0 = wr) (fun _ i _=>(intOf i + 1).toNat)
 case atStart=>exact ⟨_,s.size,Nat.le_refl _,rfl,by go_num,by rw [HSE.out],rfl⟩
 case round =>
  obtain ⟨j,k,hk,hj,rfl,rfl,rfl⟩:=hrel
  by_cases h0 : k = 0
  · skip
    subst h0
    obtain rfl : j = -1:=by omega
    rw [HS0.out]
    clear hk hj HST HSE
    have hG:=HG0.out
    have Bq:=HBQ.out
    rcases hx9 with ⟨hx,_⟩ | ⟨k,hk,hx,_,_⟩
    · skip
      have hUe : U = s:=by rw [← hU]; unfold fup; rw [if_pos (by omega)]
      rw [hx]
      rcases hz with hz | hz
      · skip
        have HZP : Hid (∀ W,Calls Tryz.prog 54 #[.string s] W (R_ W (aL_ U) 0)):=fun W=>by rw [← hz,← hUe]; exact bN_ W U
        have HI : Hid ((0 : Int) < 1 ∧ Rat.divInt (aL_ U) 1 = (aL_ U : Rat) ∧ (1 : Int).natAbs < D ^ E):=⟨by decide,by rw [show (1 : Int) = ((1 : Nat) : Int) from rfl,Rat.divInt_ofNat]; exact Rat.mkRat_self (aL_ U : Rat),Nat.lt_of_lt_of_le (show 1 < D ^ 1 by unfold D; omega) (Nat.pow_le_pow_right bi_ (by have:=HE5.out; omega))⟩
        have hc9 : c9 = 0:=by rw [hcv]; simp [hz,hx]
        have hv9 : R9 = (aL_ U : Rat):=by rw [hfv,hc9]; simp [hx]
        clear hcv hfv
        subst hc9
        subst hv9
        clear hz hn hU hD hUs hDs hUe hx hs
        obtain ⟨Cq0,Cq1,Cq2,Cq3,Fq0,Fq1,Fq2,Fq3⟩:=b_ Bq
        go_wp2_with fail
        clear Cq0 Fq0 Cq1 Fq1 Cq2 Fq2 Cq3 Fq3
        refine (HZP.out w0).mono ?_
        rintro e es0z0w1 ⟨_,rfl,⟨gu,su,lu,cu,rfl,hu,mu⟩,ges0z0w1⟩
        have ru : RIntV es0z0w1 (.agg #[.int .i64 gu,.slice su lu cu]) (aL_ U):=⟨gu,su,lu,cu,rfl,hu,mu⟩
        replace Bq:=a_ ges0z0w1 Bq
        replace hG:=d_ hG ges0z0w1
        clear ges0z0w1
        clear mu
        obtain ⟨Cq0,Cq1,Cq2,Cq3,Fq0,Fq1,Fq2,Fq3⟩:=b_ Bq
        have gbes0z0w1:=(wg_ es0z0w1 (.cells #[.int .i64 gu,.slice su lu cu] 36) none)
        have Bu:=(f_ es0z0w1 (.cells #[.int .i64 gu,.slice su lu cu] 36) (es0z0w1.heap.size) rfl)
        have hzes0z0w1 : Hid (w.heap.size ≤ es0z0w1.heap.size):=H_ hG.size
        have hlqes0z0w1 : Hid (w.heap.size < es0z0w1.heap.size):=H_ (Array.getElem?_eq_some_iff.1 Bq).1
        clear Cq0 Fq0 Cq1 Fq1 Cq2 Fq2 Cq3 Fq3
        replace Bq:=a_ gbes0z0w1 Bq
        replace ru:=ru.kept gbes0z0w1
        replace hG:=d_ hG gbes0z0w1
        clear gbes0z0w1
        obtain ⟨Cq0,Cq1,Cq2,Cq3,Fq0,Fq1,Fq2,Fq3⟩:=b_ Bq
        obtain ⟨Cu0,Cu1,Fu0,Fu1⟩:=c_ Bu
        go_wp2_with fail
        generalize (es0z0w1.alloc (.cells #[.int .i64 gu,.slice su lu cu] 36)) = es0z0w2 at *
        generalize es0z0w1.heap.size = aes0z0w1 at *
        replace hzes0z0w1:=hzes0z0w1.out
        replace hlqes0z0w1:=hlqes0z0w1.out
        go_region_held3 (fun w'=>w'.cell? ⟨aes0z0w1,0,none⟩ = some (.int .i64 gu) ∧ w'.cell? ⟨aes0z0w1,1,none⟩ = some (.slice su lu cu))
         (first | assumption | exact ⟨Cu0,Cu1⟩ | exact HSes0z0w3_20 | go_keep)
         (first
           | (go_at_call 27; (with_reducible refine (aq_ es0z0w2.drew 1 (by omega) (by omega)).mono ?_); rintro e es0z0w3_1 ⟨v1,rfl,k1,ges0z0w3_1⟩; have hGes0z0w3_1:=o_ es0z0w2 ges0z0w3_1 rfl rfl rfl rfl; have hSes0z0w3_1:=(n_ (hGes0z0w3_1.cell Cu0 (by simp)) (hGes0z0w3_1.cell Cu1 (by simp))); clear ges0z0w3_1)
           | (go_at_call 26; (with_reducible refine (ck_ es0z0w3_1 _ _ (aL_ U) 1 E (ru.kept hGes0z0w3_1) k1 (by decide) HZB.out HI.out.2.2).mono ?_); rintro e es0z0w3_2 ⟨_,rfl,⟨gd,sd,ld,cd,gd',sd',ld',cd',nd,dd,rfl,hd,hd',ud⟩,ges0z0w3_2⟩; rw [HI.out.2.1] at ud; have hGes0z0w3_2:=d_ hGes0z0w3_1 ges0z0w3_2; replace k1:=k1.kept ges0z0w3_2; have yd : RQ es0z0w3_2 (.agg #[.int .i64 gd,.slice sd ld cd,.int .i64 gd',.slice sd' ld' cd']) (aL_ U : Rat) E:=⟨gd,sd,ld,cd,gd',sd',ld',cd',nd,dd,rfl,hd,hd',ud⟩; have hSes0z0w3_2:=(n_ (hGes0z0w3_2.cell Cu0 (by simp)) (hGes0z0w3_2.cell Cu1 (by simp))); clear ges0z0w3_2; clear hd hd'; (obtain ⟨dq0,dq1,dq2,dq3,dq4,dq5,dq6,dq7⟩:=b_ (a_ hGes0z0w3_2 Bq)); have HSes0z0w3_20:=(n_ ((c_ (i_ (a_ hGes0z0w3_2 Bu) (show aes0z0w1 ≠ w.heap.size by omega) (.int .i64 gd) (.slice sd ld cd) (.int .i64 gd') (.slice sd' ld' cd'))).1) ((c_ (i_ (a_ hGes0z0w3_2 Bu) (show aes0z0w1 ≠ w.heap.size by omega) (.int .i64 gd) (.slice sd ld cd) (.int .i64 gd') (.slice sd' ld' cd'))).2.1))))
        replace Bq:=a_ hGes0z0w3_2 Bq
        replace Bu:=a_ hGes0z0w3_2 Bu
        replace hG:=d_ hG hGes0z0w3_2
        clear Cq0 Fq0 Cq1 Fq1 Cq2 Fq2 Cq3 Fq3 Cu0 Fu0 Cu1 Fu1
        obtain ⟨k90,k91,k92,k93,k94,k95,k96,k97⟩:=b_ Bq
        obtain ⟨q90,q91,q92,q93,q94,q95,q96,q97⟩:=b_ (r_ Bq (.int .i64 gd) (.slice sd ld cd) (.int .i64 gd') (.slice sd' ld' cd'))
        have hF : Hid (cf_ w (aL_ U : Rat) E 0 (.returned (.tuple #[.agg #[.int .i64 gd,.slice sd ld cd,.int .i64 gd',.slice sd' ld' cd'],.int .i64 0])) ((((es0z0w3_2.setCell ⟨w.heap.size,0,none⟩ (.int .i64 gd)).setCell ⟨w.heap.size,1,none⟩ (.slice sd ld cd)).setCell ⟨w.heap.size,2,none⟩ (.int .i64 gd')).setCell ⟨w.heap.size,3,none⟩ (.slice sd' ld' cd'))):=dg_ hG Bq (by omega) yd
        clear ru k1 yd
        obtain ⟨Cu0,Cu1,Fu0,Fu1⟩:=c_ Bu
        go_wp2_with fail
        exact bodyPost_ret (v:=.tuple #[.agg #[.int .i64 gd,.slice sd ld cd,.int .i64 gd',.slice sd' ld' cd'],.int .i64 0]) (by simp [results,Tryz.results12,go_sem,q90,q91,q92,q93]) rfl hF.out
      · skip
        have HZP : Hid (∀ W,Calls Tryz.prog 54 #[.string s] W (R_ W (aL_ U) 3)):=fun W=>by rw [← hz,← hUe]; exact bN_ W U
        have hc9 : c9 = 3:=by rw [hcv]; simp [hz,hx]
        have hv9 : R9 = 0:=by rw [hfv,hc9]; simp [hx]
        clear hcv hfv
        subst hc9
        subst hv9
        clear hz hn hU hD hUs hDs hUe hx hs
        obtain ⟨Cq0,Cq1,Cq2,Cq3,Fq0,Fq1,Fq2,Fq3⟩:=b_ Bq
        go_wp2_with fail
        clear Cq0 Fq0 Cq1 Fq1 Cq2 Fq2 Cq3 Fq3
        refine (HZP.out w0).mono ?_
        rintro e es0z3w1 ⟨_,rfl,⟨gu,su,lu,cu,rfl,hu,mu⟩,ges0z3w1⟩
        have ru : RIntV es0z3w1 (.agg #[.int .i64 gu,.slice su lu cu]) (aL_ U):=⟨gu,su,lu,cu,rfl,hu,mu⟩
        replace Bq:=a_ ges0z3w1 Bq
        replace hG:=d_ hG ges0z3w1
        clear ges0z3w1
        clear mu
        obtain ⟨Cq0,Cq1,Cq2,Cq3,Fq0,Fq1,Fq2,Fq3⟩:=b_ Bq
        have gbes0z3w1:=(wg_ es0z3w1 (.cells #[.int .i64 gu,.slice su lu cu] 36) none)
        have Bu:=(f_ es0z3w1 (.cells #[.int .i64 gu,.slice su lu cu] 36) (es0z3w1.heap.size) rfl)
        have hzes0z3w1 : Hid (w.heap.size ≤ es0z3w1.heap.size):=H_ hG.size
        have hlqes0z3w1 : Hid (w.heap.size < es0z3w1.heap.size):=H_ (Array.getElem?_eq_some_iff.1 Bq).1
        clear Cq0 Fq0 Cq1 Fq1 Cq2 Fq2 Cq3 Fq3
        replace Bq:=a_ gbes0z3w1 Bq
        replace hG:=d_ hG gbes0z3w1
        clear gbes0z3w1
        obtain ⟨Cq0,Cq1,Cq2,Cq3,Fq0,Fq1,Fq2,Fq3⟩:=b_ Bq
        obtain ⟨Cu0,Cu1,Fu0,Fu1⟩:=c_ Bu
        go_wp2_with fail
        generalize (es0z3w1.alloc (.cells #[.int .i64 gu,.slice su lu cu] 36)) = es0z3w2 at *
        generalize es0z3w1.heap.size = aes0z3w1 at *
        replace hzes0z3w1:=hzes0z3w1.out
        replace hlqes0z3w1:=hlqes0z3w1.out
        clear Cq0 Fq0 Cq1 Fq1 Cq2 Fq2 Cq3 Fq3 Cu0 Fu0 Cu1 Fu1
        refine (dJ_ es0z3w2 0 (by omega) (by omega)).mono ?_
        rintro e es0z3w3 ⟨_,rfl,⟨gd,sd,ld,cd,gd',sd',ld',cd',nd,dd,rfl,hd,hd',ud⟩,ges0z3w3⟩
        have yd : RQ es0z3w3 (.agg #[.int .i64 gd,.slice sd ld cd,.int .i64 gd',.slice sd' ld' cd']) ((0 : Int) : Rat) 5:=⟨gd,sd,ld,cd,gd',sd',ld',cd',nd,dd,rfl,hd,hd',ud⟩
        replace Bq:=a_ ges0z3w3 Bq
        replace Bu:=a_ ges0z3w3 Bu
        replace hG:=d_ hG ges0z3w3
        clear ges0z3w3
        clear hd hd'
        obtain ⟨Cq0,Cq1,Cq2,Cq3,Fq0,Fq1,Fq2,Fq3⟩:=b_ Bq
        obtain ⟨Cu0,Cu1,Fu0,Fu1⟩:=c_ Bu
        have yz:=RQ.zero5 yd HE5.out
        clear Cq0 Fq0 Cq1 Fq1 Cq2 Fq2 Cq3 Fq3 Cu0 Fu0 Cu1 Fu1
        obtain ⟨k90,k91,k92,k93,k94,k95,k96,k97⟩:=b_ Bq
        obtain ⟨q90,q91,q92,q93,q94,q95,q96,q97⟩:=b_ (r_ Bq (.int .i64 gd) (.slice sd ld cd) (.int .i64 gd') (.slice sd' ld' cd'))
        have hF : Hid (cf_ w 0 E 3 (.returned (.tuple #[.agg #[.int .i64 gd,.slice sd ld cd,.int .i64 gd',.slice sd' ld' cd'],.int .i64 3])) ((((es0z3w3.setCell ⟨w.heap.size,0,none⟩ (.int .i64 gd)).setCell ⟨w.heap.size,1,none⟩ (.slice sd ld cd)).setCell ⟨w.heap.size,2,none⟩ (.int .i64 gd')).setCell ⟨w.heap.size,3,none⟩ (.slice sd' ld' cd'))):=dg_ hG Bq (by omega) yz
        clear ru yd yz
        obtain ⟨Cu0,Cu1,Fu0,Fu1⟩:=c_ Bu
        go_wp2_with fail
        exact bodyPost_ret (v:=.tuple #[.agg #[.int .i64 gd,.slice sd ld cd,.int .i64 gd',.slice sd' ld' cd'],.int .i64 3]) (by simp [results,Tryz.results12,go_sem,q90,q91,q92,q93]) rfl hF.out
    · skip
      have hUe : U = s.extract 0 k:=by rw [← hU]; unfold fup; rw [if_neg (by omega),hx]; rfl
      have hDe : D9 = s.extract (k + 1) s.size:=by rw [← hD]; unfold dq_; rw [hx]; rfl
      rw [hx]
      rcases hz with hz | hz
      · skip
        have HZP : Hid (∀ W,Calls Tryz.prog 54 #[.string (s.extract 0 k)] W (R_ W (aL_ U) 0)):=fun W=>by rw [← hz,← hUe]; exact bN_ W U
        rcases hn with hn | hn
        · skip
          have HNQ : Hid (∀ W,Calls Tryz.prog 56 #[.string (s.extract (k + 1) s.size)] W (bB_ W (bf_ D9) 0)):=fun W=>by rw [← hn,← hDe]; exact HNP.out W
          rcases Nat.eq_zero_or_pos (bf_ D9) with h00 | h00
          · skip
            have HN0:=H_ h00
            have hc9 : c9 = 5:=by rw [hcv]; simp [hz,hx,hn,h00,show ¬ ((k : Int) < 0) by omega]
            have hv9 : R9 = 0:=by rw [hfv,hc9]; simp [hx]
            clear hcv hfv
            subst hc9
            subst hv9
            have hkb : (k : Int) < 4000:=by omega
            clear hz hn hU hD hUs hDs hUe hx hs hDe
            clear h00
            obtain ⟨Cq0,Cq1,Cq2,Cq3,Fq0,Fq1,Fq2,Fq3⟩:=b_ Bq
            go_wp2_with fail
            clear Cq0 Fq0 Cq1 Fq1 Cq2 Fq2 Cq3 Fq3
            refine (HZP.out w0).mono ?_
            rintro e es1z0n0z1w1 ⟨_,rfl,⟨gu,su,lu,cu,rfl,hu,mu⟩,ges1z0n0z1w1⟩
            have ru : RIntV es1z0n0z1w1 (.agg #[.int .i64 gu,.slice su lu cu]) (aL_ U):=⟨gu,su,lu,cu,rfl,hu,mu⟩
            replace Bq:=a_ ges1z0n0z1w1 Bq
            replace hG:=d_ hG ges1z0n0z1w1
            clear ges1z0n0z1w1
            clear mu
            obtain ⟨Cq0,Cq1,Cq2,Cq3,Fq0,Fq1,Fq2,Fq3⟩:=b_ Bq
            have gbes1z0n0z1w1:=(wg_ es1z0n0z1w1 (.cells #[.int .i64 gu,.slice su lu cu] 36) none)
            have Bu:=(f_ es1z0n0z1w1 (.cells #[.int .i64 gu,.slice su lu cu] 36) (es1z0n0z1w1.heap.size) rfl)
            have hzes1z0n0z1w1 : Hid (w.heap.size ≤ es1z0n0z1w1.heap.size):=H_ hG.size
            have hlqes1z0n0z1w1 : Hid (w.heap.size < es1z0n0z1w1.heap.size):=H_ (Array.getElem?_eq_some_iff.1 Bq).1
            clear Cq0 Fq0 Cq1 Fq1 Cq2 Fq2 Cq3 Fq3
            replace Bq:=a_ gbes1z0n0z1w1 Bq
            replace hG:=d_ hG gbes1z0n0z1w1
            clear gbes1z0n0z1w1
            obtain ⟨Cq0,Cq1,Cq2,Cq3,Fq0,Fq1,Fq2,Fq3⟩:=b_ Bq
            obtain ⟨Cu0,Cu1,Fu0,Fu1⟩:=c_ Bu
            go_wp2_with fail
            generalize (es1z0n0z1w1.alloc (.cells #[.int .i64 gu,.slice su lu cu] 36)) = es1z0n0z1w2 at *
            generalize es1z0n0z1w1.heap.size = aes1z0n0z1w1 at *
            replace hzes1z0n0z1w1:=hzes1z0n0z1w1.out
            replace hlqes1z0n0z1w1:=hlqes1z0n0z1w1.out
            clear Cq0 Fq0 Cq1 Fq1 Cq2 Fq2 Cq3 Fq3 Cu0 Fu0 Cu1 Fu1
            refine (HNQ.out es1z0n0z1w2).mono ?_
            rintro e es1z0n0z1w3 ⟨_,rfl,⟨sm,lm,cm,ym,rfl,hm⟩,ges1z0n0z1w3⟩
            have mm : RefV es1z0n0z1w3 (.agg #[.slice sm lm cm]) (bf_ D9):=⟨sm,lm,cm,ym,rfl,hm⟩
            replace Bq:=a_ ges1z0n0z1w3 Bq
            replace Bu:=a_ ges1z0n0z1w3 Bu
            replace hG:=d_ hG ges1z0n0z1w3
            clear ges1z0n0z1w3
            clear hm
            obtain ⟨Cq0,Cq1,Cq2,Cq3,Fq0,Fq1,Fq2,Fq3⟩:=b_ Bq
            obtain ⟨Cu0,Cu1,Fu0,Fu1⟩:=c_ Bu
            obtain rfl : lm = 0:=(eI_ mm).1 HN0.out
            have gbes1z0n0z1w3:=(wg_ es1z0n0z1w3 (.cells #[.slice sm 0 cm] 34) none)
            have Bm:=(f_ es1z0n0z1w3 (.cells #[.slice sm 0 cm] 34) (es1z0n0z1w3.heap.size) rfl)
            have hzes1z0n0z1w3 : Hid (w.heap.size ≤ es1z0n0z1w3.heap.size):=H_ hG.size
            have hlqes1z0n0z1w3 : Hid (w.heap.size < es1z0n0z1w3.heap.size):=H_ (Array.getElem?_eq_some_iff.1 Bq).1
            have hlues1z0n0z1w3 : Hid (aes1z0n0z1w1 < es1z0n0z1w3.heap.size):=H_ (Array.getElem?_eq_some_iff.1 Bu).1
            clear Cq0 Fq0 Cq1 Fq1 Cq2 Fq2 Cq3 Fq3 Cu0 Fu0 Cu1 Fu1
            replace Bq:=a_ gbes1z0n0z1w3 Bq
            replace Bu:=a_ gbes1z0n0z1w3 Bu
            replace hG:=d_ hG gbes1z0n0z1w3
            clear gbes1z0n0z1w3
            obtain ⟨Cq0,Cq1,Cq2,Cq3,Fq0,Fq1,Fq2,Fq3⟩:=b_ Bq
            obtain ⟨Cu0,Cu1,Fu0,Fu1⟩:=c_ Bu
            obtain ⟨Cm0,Fm0⟩:=j_ Bm
            go_wp2_with fail
            generalize (es1z0n0z1w3.alloc (.cells #[.slice sm 0 cm] 34)) = es1z0n0z1w4 at *
            generalize es1z0n0z1w3.heap.size = aes1z0n0z1w3 at *
            replace hzes1z0n0z1w3:=hzes1z0n0z1w3.out
            replace hlqes1z0n0z1w3:=hlqes1z0n0z1w3.out
            replace hlues1z0n0z1w3:=hlues1z0n0z1w3.out
            clear Cq0 Fq0 Cq1 Fq1 Cq2 Fq2 Cq3 Fq3 Cu0 Fu0 Cu1 Fu1 Cm0 Fm0
            refine (dJ_ es1z0n0z1w4 0 (by omega) (by omega)).mono ?_
            rintro e es1z0n0z1w5 ⟨_,rfl,⟨gd,sd,ld,cd,gd',sd',ld',cd',nd,dd,rfl,hd,hd',ud⟩,ges1z0n0z1w5⟩
            have yd : RQ es1z0n0z1w5 (.agg #[.int .i64 gd,.slice sd ld cd,.int .i64 gd',.slice sd' ld' cd']) ((0 : Int) : Rat) 5:=⟨gd,sd,ld,cd,gd',sd',ld',cd',nd,dd,rfl,hd,hd',ud⟩
            replace Bq:=a_ ges1z0n0z1w5 Bq
            replace Bu:=a_ ges1z0n0z1w5 Bu
            replace Bm:=a_ ges1z0n0z1w5 Bm
            replace hG:=d_ hG ges1z0n0z1w5
            clear ges1z0n0z1w5
            clear hd hd'
            obtain ⟨Cq0,Cq1,Cq2,Cq3,Fq0,Fq1,Fq2,Fq3⟩:=b_ Bq
            obtain ⟨Cu0,Cu1,Fu0,Fu1⟩:=c_ Bu
            obtain ⟨Cm0,Fm0⟩:=j_ Bm
            have yz:=RQ.zero5 yd HE5.out
            clear Cq0 Fq0 Cq1 Fq1 Cq2 Fq2 Cq3 Fq3 Cu0 Fu0 Cu1 Fu1 Cm0 Fm0
            obtain ⟨k90,k91,k92,k93,k94,k95,k96,k97⟩:=b_ Bq
            obtain ⟨q90,q91,q92,q93,q94,q95,q96,q97⟩:=b_ (r_ Bq (.int .i64 gd) (.slice sd ld cd) (.int .i64 gd') (.slice sd' ld' cd'))
            have hF : Hid (cf_ w 0 E 5 (.returned (.tuple #[.agg #[.int .i64 gd,.slice sd ld cd,.int .i64 gd',.slice sd' ld' cd'],.int .i64 5])) ((((es1z0n0z1w5.setCell ⟨w.heap.size,0,none⟩ (.int .i64 gd)).setCell ⟨w.heap.size,1,none⟩ (.slice sd ld cd)).setCell ⟨w.heap.size,2,none⟩ (.int .i64 gd')).setCell ⟨w.heap.size,3,none⟩ (.slice sd' ld' cd'))):=dg_ hG Bq (by omega) yz
            clear ru mm yd yz
            obtain ⟨Cu0,Cu1,Fu0,Fu1⟩:=c_ Bu
            obtain ⟨Cm0,Fm0⟩:=j_ Bm
            go_wp2_with fail
            exact bodyPost_ret (v:=.tuple #[.agg #[.int .i64 gd,.slice sd ld cd,.int .i64 gd',.slice sd' ld' cd'],.int .i64 5]) (by simp [results,Tryz.results12,go_sem,q90,q91,q92,q93]) rfl hF.out
          · skip
            have HN0:=H_ h00
            have HI : Hid (((bf_ D9 : Nat) : Int) ≠ 0 ∧ ((bf_ D9 : Nat) : Int).natAbs < D ^ E ∧ ((bf_ D9 : Nat) : Int).sign = 1 ∧ ((bf_ D9 : Nat) : Int).natAbs = bf_ D9):=⟨by omega,by rw [Int.natAbs_natCast]; exact HNB.out,Int.sign_eq_one_of_pos (by omega),Int.natAbs_natCast _⟩
            have hc9 : c9 = 0:=by rw [hcv]; simp [hz,hx,hn,show ¬ (bf_ D9 = 0) by omega,show ¬ ((k : Int) < 0) by omega]
            have hv9 : R9 = Rat.divInt (aL_ U) (bf_ D9 : Int):=by rw [hfv,hc9]; simp [hx,show ¬ ((k : Int) < 0) by omega]
            clear hcv hfv
            subst hc9
            have HV:=H_ hv9
            clear hv9
            have hkb : (k : Int) < 4000:=by omega
            clear hz hn hU hD hUs hDs hUe hx hs hDe
            clear h00
            obtain ⟨Cq0,Cq1,Cq2,Cq3,Fq0,Fq1,Fq2,Fq3⟩:=b_ Bq
            go_wp2_with fail
            clear Cq0 Fq0 Cq1 Fq1 Cq2 Fq2 Cq3 Fq3
            refine (HZP.out w0).mono ?_
            rintro e es1z0n0z0w1 ⟨_,rfl,⟨gu,su,lu,cu,rfl,hu,mu⟩,ges1z0n0z0w1⟩
            have ru : RIntV es1z0n0z0w1 (.agg #[.int .i64 gu,.slice su lu cu]) (aL_ U):=⟨gu,su,lu,cu,rfl,hu,mu⟩
            replace Bq:=a_ ges1z0n0z0w1 Bq
            replace hG:=d_ hG ges1z0n0z0w1
            clear ges1z0n0z0w1
            clear mu
            obtain ⟨Cq0,Cq1,Cq2,Cq3,Fq0,Fq1,Fq2,Fq3⟩:=b_ Bq
            have gbes1z0n0z0w1:=(wg_ es1z0n0z0w1 (.cells #[.int .i64 gu,.slice su lu cu] 36) none)
            have Bu:=(f_ es1z0n0z0w1 (.cells #[.int .i64 gu,.slice su lu cu] 36) (es1z0n0z0w1.heap.size) rfl)
            have hzes1z0n0z0w1 : Hid (w.heap.size ≤ es1z0n0z0w1.heap.size):=H_ hG.size
            have hlqes1z0n0z0w1 : Hid (w.heap.size < es1z0n0z0w1.heap.size):=H_ (Array.getElem?_eq_some_iff.1 Bq).1
            clear Cq0 Fq0 Cq1 Fq1 Cq2 Fq2 Cq3 Fq3
            replace Bq:=a_ gbes1z0n0z0w1 Bq
            replace ru:=ru.kept gbes1z0n0z0w1
            replace hG:=d_ hG gbes1z0n0z0w1
            clear gbes1z0n0z0w1
            obtain ⟨Cq0,Cq1,Cq2,Cq3,Fq0,Fq1,Fq2,Fq3⟩:=b_ Bq
            obtain ⟨Cu0,Cu1,Fu0,Fu1⟩:=c_ Bu
            go_wp2_with fail
            generalize (es1z0n0z0w1.alloc (.cells #[.int .i64 gu,.slice su lu cu] 36)) = es1z0n0z0w2 at *
            generalize es1z0n0z0w1.heap.size = aes1z0n0z0w1 at *
            replace hzes1z0n0z0w1:=hzes1z0n0z0w1.out
            replace hlqes1z0n0z0w1:=hlqes1z0n0z0w1.out
            clear Cq0 Fq0 Cq1 Fq1 Cq2 Fq2 Cq3 Fq3 Cu0 Fu0 Cu1 Fu1
            refine (HNQ.out es1z0n0z0w2).mono ?_
            rintro e es1z0n0z0w3 ⟨_,rfl,⟨sm,lm,cm,ym,rfl,hm⟩,ges1z0n0z0w3⟩
            have mm : RefV es1z0n0z0w3 (.agg #[.slice sm lm cm]) (bf_ D9):=⟨sm,lm,cm,ym,rfl,hm⟩
            replace Bq:=a_ ges1z0n0z0w3 Bq
            replace Bu:=a_ ges1z0n0z0w3 Bu
            replace ru:=ru.kept ges1z0n0z0w3
            replace hG:=d_ hG ges1z0n0z0w3
            clear ges1z0n0z0w3
            clear hm
            obtain ⟨Cq0,Cq1,Cq2,Cq3,Fq0,Fq1,Fq2,Fq3⟩:=b_ Bq
            obtain ⟨Cu0,Cu1,Fu0,Fu1⟩:=c_ Bu
            have hl9:=(eI_ mm).2 HN0.out
            have f1 : ((lm : Int) == 0) = false:=beq_eq_false_iff_ne.2 (by omega)
            have gbes1z0n0z0w3:=(wg_ es1z0n0z0w3 (.cells #[.slice sm lm cm] 34) none)
            have Bm:=(f_ es1z0n0z0w3 (.cells #[.slice sm lm cm] 34) (es1z0n0z0w3.heap.size) rfl)
            have hzes1z0n0z0w3 : Hid (w.heap.size ≤ es1z0n0z0w3.heap.size):=H_ hG.size
            have hlqes1z0n0z0w3 : Hid (w.heap.size < es1z0n0z0w3.heap.size):=H_ (Array.getElem?_eq_some_iff.1 Bq).1
            have hlues1z0n0z0w3 : Hid (aes1z0n0z0w1 < es1z0n0z0w3.heap.size):=H_ (Array.getElem?_eq_some_iff.1 Bu).1
            clear Cq0 Fq0 Cq1 Fq1 Cq2 Fq2 Cq3 Fq3 Cu0 Fu0 Cu1 Fu1
            replace Bq:=a_ gbes1z0n0z0w3 Bq
            replace Bu:=a_ gbes1z0n0z0w3 Bu
            replace ru:=ru.kept gbes1z0n0z0w3
            replace mm:=mm.kept gbes1z0n0z0w3
            replace hG:=d_ hG gbes1z0n0z0w3
            clear gbes1z0n0z0w3
            obtain ⟨Cq0,Cq1,Cq2,Cq3,Fq0,Fq1,Fq2,Fq3⟩:=b_ Bq
            obtain ⟨Cu0,Cu1,Fu0,Fu1⟩:=c_ Bu
            obtain ⟨Cm0,Fm0⟩:=j_ Bm
            go_wp2_with fail
            generalize (es1z0n0z0w3.alloc (.cells #[.slice sm lm cm] 34)) = es1z0n0z0w4 at *
            generalize es1z0n0z0w3.heap.size = aes1z0n0z0w3 at *
            replace hzes1z0n0z0w3:=hzes1z0n0z0w3.out
            replace hlqes1z0n0z0w3:=hlqes1z0n0z0w3.out
            replace hlues1z0n0z0w3:=hlues1z0n0z0w3.out
            go_region_held3 (fun w'=>w'.cell? ⟨aes1z0n0z0w1,0,none⟩ = some (.int .i64 gu) ∧ w'.cell? ⟨aes1z0n0z0w1,1,none⟩ = some (.slice su lu cu) ∧ w'.cell? ⟨aes1z0n0z0w3,0,none⟩ = some (.slice sm lm cm))
             (first | assumption | exact ⟨Cu0,Cu1,Cm0⟩ | exact HSes1z0n0z0w5_20 | go_keep)
             (first
               | (go_at_call 57; (with_reducible refine (K_ es1z0n0z0w4.drew _ 1 (bf_ D9) ((bf_ D9 : Nat) : Int) (mm.kept (k_ (h_ _ _))) HI.out.2.2.2 (Or.inr HI.out.2.2.1)).mono ?_); rintro e es1z0n0z0w5_1 ⟨v1,rfl,k1,ges1z0n0z0w5_1⟩; have hGes1z0n0z0w5_1:=o_ es1z0n0z0w4 ges1z0n0z0w5_1 rfl rfl rfl rfl; have hSes1z0n0z0w5_1:=(n_ (hGes1z0n0z0w5_1.cell Cu0 (by simp)) (n_ (hGes1z0n0z0w5_1.cell Cu1 (by simp)) (hGes1z0n0z0w5_1.cell Cm0 (by simp)))); clear ges1z0n0z0w5_1)
               | (go_at_call 26; (with_reducible refine (ck_ es1z0n0z0w5_1 _ _ (aL_ U) ((bf_ D9 : Nat) : Int) E (ru.kept hGes1z0n0z0w5_1) k1 HI.out.1 HZB.out HI.out.2.1).mono ?_); rintro e es1z0n0z0w5_2 ⟨_,rfl,⟨gd,sd,ld,cd,gd',sd',ld',cd',nd,dd,rfl,hd,hd',ud⟩,ges1z0n0z0w5_2⟩; rw [← HV.out] at ud; have hGes1z0n0z0w5_2:=d_ hGes1z0n0z0w5_1 ges1z0n0z0w5_2; replace k1:=k1.kept ges1z0n0z0w5_2; have yd : RQ es1z0n0z0w5_2 (.agg #[.int .i64 gd,.slice sd ld cd,.int .i64 gd',.slice sd' ld' cd']) R9 E:=⟨gd,sd,ld,cd,gd',sd',ld',cd',nd,dd,rfl,hd,hd',ud⟩; have hSes1z0n0z0w5_2:=(n_ (hGes1z0n0z0w5_2.cell Cu0 (by simp)) (n_ (hGes1z0n0z0w5_2.cell Cu1 (by simp)) (hGes1z0n0z0w5_2.cell Cm0 (by simp)))); clear ges1z0n0z0w5_2; clear hd hd'; (obtain ⟨dq0,dq1,dq2,dq3,dq4,dq5,dq6,dq7⟩:=b_ (a_ hGes1z0n0z0w5_2 Bq)); have HSes1z0n0z0w5_20:=(n_ ((c_ (i_ (a_ hGes1z0n0z0w5_2 Bu) (show aes1z0n0z0w1 ≠ w.heap.size by omega) (.int .i64 gd) (.slice sd ld cd) (.int .i64 gd') (.slice sd' ld' cd'))).1) (n_ ((c_ (i_ (a_ hGes1z0n0z0w5_2 Bu) (show aes1z0n0z0w1 ≠ w.heap.size by omega) (.int .i64 gd) (.slice sd ld cd) (.int .i64 gd') (.slice sd' ld' cd'))).2.1) ((j_ (i_ (a_ hGes1z0n0z0w5_2 Bm) (show aes1z0n0z0w3 ≠ w.heap.size by omega) (.int .i64 gd) (.slice sd ld cd) (.int .i64 gd') (.slice sd' ld' cd'))).1)))))
            replace Bq:=a_ hGes1z0n0z0w5_2 Bq
            replace Bu:=a_ hGes1z0n0z0w5_2 Bu
            replace Bm:=a_ hGes1z0n0z0w5_2 Bm
            replace hG:=d_ hG hGes1z0n0z0w5_2
            clear Cq0 Fq0 Cq1 Fq1 Cq2 Fq2 Cq3 Fq3 Cu0 Fu0 Cu1 Fu1 Cm0 Fm0
            obtain ⟨k90,k91,k92,k93,k94,k95,k96,k97⟩:=b_ Bq
            obtain ⟨q90,q91,q92,q93,q94,q95,q96,q97⟩:=b_ (r_ Bq (.int .i64 gd) (.slice sd ld cd) (.int .i64 gd') (.slice sd' ld' cd'))
            have hF : Hid (cf_ w R9 E 0 (.returned (.tuple #[.agg #[.int .i64 gd,.slice sd ld cd,.int .i64 gd',.slice sd' ld' cd'],.int .i64 0])) ((((es1z0n0z0w5_2.setCell ⟨w.heap.size,0,none⟩ (.int .i64 gd)).setCell ⟨w.heap.size,1,none⟩ (.slice sd ld cd)).setCell ⟨w.heap.size,2,none⟩ (.int .i64 gd')).setCell ⟨w.heap.size,3,none⟩ (.slice sd' ld' cd'))):=dg_ hG Bq (by omega) yd
            clear ru mm k1 yd
            obtain ⟨Cu0,Cu1,Fu0,Fu1⟩:=c_ Bu
            obtain ⟨Cm0,Fm0⟩:=j_ Bm
            go_wp2_with fail
            exact bodyPost_ret (v:=.tuple #[.agg #[.int .i64 gd,.slice sd ld cd,.int .i64 gd',.slice sd' ld' cd'],.int .i64 0]) (by simp [results,Tryz.results12,go_sem,q90,q91,q92,q93]) rfl hF.out
        · skip
          have HNQ : Hid (∀ W,Calls Tryz.prog 56 #[.string (s.extract (k + 1) s.size)] W (bB_ W (bf_ D9) 3)):=fun W=>by rw [← hn,← hDe]; exact HNP.out W
          have hc9 : c9 = 3:=by rw [hcv]; simp [hz,hx,hn,show ¬ ((k : Int) < 0) by omega]
          have hv9 : R9 = 0:=by rw [hfv,hc9]; simp [hx]
          clear hcv hfv
          subst hc9
          subst hv9
          have hkb : (k : Int) < 4000:=by omega
          clear hz hn hU hD hUs hDs hUe hx hs hDe
          obtain ⟨Cq0,Cq1,Cq2,Cq3,Fq0,Fq1,Fq2,Fq3⟩:=b_ Bq
          go_wp2_with fail
          clear Cq0 Fq0 Cq1 Fq1 Cq2 Fq2 Cq3 Fq3
          refine (HZP.out w0).mono ?_
          rintro e es1z0n3w1 ⟨_,rfl,⟨gu,su,lu,cu,rfl,hu,mu⟩,ges1z0n3w1⟩
          have ru : RIntV es1z0n3w1 (.agg #[.int .i64 gu,.slice su lu cu]) (aL_ U):=⟨gu,su,lu,cu,rfl,hu,mu⟩
          replace Bq:=a_ ges1z0n3w1 Bq
          replace hG:=d_ hG ges1z0n3w1
          clear ges1z0n3w1
          clear mu
          obtain ⟨Cq0,Cq1,Cq2,Cq3,Fq0,Fq1,Fq2,Fq3⟩:=b_ Bq
          have gbes1z0n3w1:=(wg_ es1z0n3w1 (.cells #[.int .i64 gu,.slice su lu cu] 36) none)
          have Bu:=(f_ es1z0n3w1 (.cells #[.int .i64 gu,.slice su lu cu] 36) (es1z0n3w1.heap.size) rfl)
          have hzes1z0n3w1 : Hid (w.heap.size ≤ es1z0n3w1.heap.size):=H_ hG.size
          have hlqes1z0n3w1 : Hid (w.heap.size < es1z0n3w1.heap.size):=H_ (Array.getElem?_eq_some_iff.1 Bq).1
          clear Cq0 Fq0 Cq1 Fq1 Cq2 Fq2 Cq3 Fq3
          replace Bq:=a_ gbes1z0n3w1 Bq
          replace hG:=d_ hG gbes1z0n3w1
          clear gbes1z0n3w1
          obtain ⟨Cq0,Cq1,Cq2,Cq3,Fq0,Fq1,Fq2,Fq3⟩:=b_ Bq
          obtain ⟨Cu0,Cu1,Fu0,Fu1⟩:=c_ Bu
          go_wp2_with fail
          generalize (es1z0n3w1.alloc (.cells #[.int .i64 gu,.slice su lu cu] 36)) = es1z0n3w2 at *
          generalize es1z0n3w1.heap.size = aes1z0n3w1 at *
          replace hzes1z0n3w1:=hzes1z0n3w1.out
          replace hlqes1z0n3w1:=hlqes1z0n3w1.out
          clear Cq0 Fq0 Cq1 Fq1 Cq2 Fq2 Cq3 Fq3 Cu0 Fu0 Cu1 Fu1
          refine (HNQ.out es1z0n3w2).mono ?_
          rintro e es1z0n3w3 ⟨_,rfl,⟨sm,lm,cm,ym,rfl,hm⟩,ges1z0n3w3⟩
          have mm : RefV es1z0n3w3 (.agg #[.slice sm lm cm]) (bf_ D9):=⟨sm,lm,cm,ym,rfl,hm⟩
          replace Bq:=a_ ges1z0n3w3 Bq
          replace Bu:=a_ ges1z0n3w3 Bu
          replace hG:=d_ hG ges1z0n3w3
          clear ges1z0n3w3
          clear hm
          obtain ⟨Cq0,Cq1,Cq2,Cq3,Fq0,Fq1,Fq2,Fq3⟩:=b_ Bq
          obtain ⟨Cu0,Cu1,Fu0,Fu1⟩:=c_ Bu
          have gbes1z0n3w3:=(wg_ es1z0n3w3 (.cells #[.slice sm lm cm] 34) none)
          have Bm:=(f_ es1z0n3w3 (.cells #[.slice sm lm cm] 34) (es1z0n3w3.heap.size) rfl)
          have hzes1z0n3w3 : Hid (w.heap.size ≤ es1z0n3w3.heap.size):=H_ hG.size
          have hlqes1z0n3w3 : Hid (w.heap.size < es1z0n3w3.heap.size):=H_ (Array.getElem?_eq_some_iff.1 Bq).1
          have hlues1z0n3w3 : Hid (aes1z0n3w1 < es1z0n3w3.heap.size):=H_ (Array.getElem?_eq_some_iff.1 Bu).1
          clear Cq0 Fq0 Cq1 Fq1 Cq2 Fq2 Cq3 Fq3 Cu0 Fu0 Cu1 Fu1
          replace Bq:=a_ gbes1z0n3w3 Bq
          replace Bu:=a_ gbes1z0n3w3 Bu
          replace hG:=d_ hG gbes1z0n3w3
          clear gbes1z0n3w3
          obtain ⟨Cq0,Cq1,Cq2,Cq3,Fq0,Fq1,Fq2,Fq3⟩:=b_ Bq
          obtain ⟨Cu0,Cu1,Fu0,Fu1⟩:=c_ Bu
          obtain ⟨Cm0,Fm0⟩:=j_ Bm
          go_wp2_with fail
          generalize (es1z0n3w3.alloc (.cells #[.slice sm lm cm] 34)) = es1z0n3w4 at *
          generalize es1z0n3w3.heap.size = aes1z0n3w3 at *
          replace hzes1z0n3w3:=hzes1z0n3w3.out
          replace hlqes1z0n3w3:=hlqes1z0n3w3.out
          replace hlues1z0n3w3:=hlues1z0n3w3.out
          clear Cq0 Fq0 Cq1 Fq1 Cq2 Fq2 Cq3 Fq3 Cu0 Fu0 Cu1 Fu1 Cm0 Fm0
          refine (dJ_ es1z0n3w4 0 (by omega) (by omega)).mono ?_
          rintro e es1z0n3w5 ⟨_,rfl,⟨gd,sd,ld,cd,gd',sd',ld',cd',nd,dd,rfl,hd,hd',ud⟩,ges1z0n3w5⟩
          have yd : RQ es1z0n3w5 (.agg #[.int .i64 gd,.slice sd ld cd,.int .i64 gd',.slice sd' ld' cd']) ((0 : Int) : Rat) 5:=⟨gd,sd,ld,cd,gd',sd',ld',cd',nd,dd,rfl,hd,hd',ud⟩
          replace Bq:=a_ ges1z0n3w5 Bq
          replace Bu:=a_ ges1z0n3w5 Bu
          replace Bm:=a_ ges1z0n3w5 Bm
          replace hG:=d_ hG ges1z0n3w5
          clear ges1z0n3w5
          clear hd hd'
          obtain ⟨Cq0,Cq1,Cq2,Cq3,Fq0,Fq1,Fq2,Fq3⟩:=b_ Bq
          obtain ⟨Cu0,Cu1,Fu0,Fu1⟩:=c_ Bu
          obtain ⟨Cm0,Fm0⟩:=j_ Bm
          have yz:=RQ.zero5 yd HE5.out
          clear Cq0 Fq0 Cq1 Fq1 Cq2 Fq2 Cq3 Fq3 Cu0 Fu0 Cu1 Fu1 Cm0 Fm0
          obtain ⟨k90,k91,k92,k93,k94,k95,k96,k97⟩:=b_ Bq
          obtain ⟨q90,q91,q92,q93,q94,q95,q96,q97⟩:=b_ (r_ Bq (.int .i64 gd) (.slice sd ld cd) (.int .i64 gd') (.slice sd' ld' cd'))
          have hF : Hid (cf_ w 0 E 3 (.returned (.tuple #[.agg #[.int .i64 gd,.slice sd ld cd,.int .i64 gd',.slice sd' ld' cd'],.int .i64 3])) ((((es1z0n3w5.setCell ⟨w.heap.size,0,none⟩ (.int .i64 gd)).setCell ⟨w.heap.size,1,none⟩ (.slice sd ld cd)).setCell ⟨w.heap.size,2,none⟩ (.int .i64 gd')).setCell ⟨w.heap.size,3,none⟩ (.slice sd' ld' cd'))):=dg_ hG Bq (by omega) yz
          clear ru mm yd yz
          obtain ⟨Cu0,Cu1,Fu0,Fu1⟩:=c_ Bu
          obtain ⟨Cm0,Fm0⟩:=j_ Bm
          go_wp2_with fail
          exact bodyPost_ret (v:=.tuple #[.agg #[.int .i64 gd,.slice sd ld cd,.int .i64 gd',.slice sd' ld' cd'],.int .i64 3]) (by simp [results,Tryz.results12,go_sem,q90,q91,q92,q93]) rfl hF.out
      · skip
        have HZP : Hid (∀ W,Calls Tryz.prog 54 #[.string (s.extract 0 k)] W (R_ W (aL_ U) 3)):=fun W=>by rw [← hz,← hUe]; exact bN_ W U
        have hc9 : c9 = 3:=by rw [hcv]; simp [hz,hx]
        have hv9 : R9 = 0:=by rw [hfv,hc9]; simp [hx]
        clear hcv hfv
        subst hc9
        subst hv9
        have hkb : (k : Int) < 4000:=by omega
        clear hz hn hU hD hUs hDs hUe hx hs hDe
        obtain ⟨Cq0,Cq1,Cq2,Cq3,Fq0,Fq1,Fq2,Fq3⟩:=b_ Bq
        go_wp2_with fail
        clear Cq0 Fq0 Cq1 Fq1 Cq2 Fq2 Cq3 Fq3
        refine (HZP.out w0).mono ?_
        rintro e es1z3w1 ⟨_,rfl,⟨gu,su,lu,cu,rfl,hu,mu⟩,ges1z3w1⟩
        have ru : RIntV es1z3w1 (.agg #[.int .i64 gu,.slice su lu cu]) (aL_ U):=⟨gu,su,lu,cu,rfl,hu,mu⟩
        replace Bq:=a_ ges1z3w1 Bq
        replace hG:=d_ hG ges1z3w1
        clear ges1z3w1
        clear mu
        obtain ⟨Cq0,Cq1,Cq2,Cq3,Fq0,Fq1,Fq2,Fq3⟩:=b_ Bq
        have gbes1z3w1:=(wg_ es1z3w1 (.cells #[.int .i64 gu,.slice su lu cu] 36) none)
        have Bu:=(f_ es1z3w1 (.cells #[.int .i64 gu,.slice su lu cu] 36) (es1z3w1.heap.size) rfl)
        have hzes1z3w1 : Hid (w.heap.size ≤ es1z3w1.heap.size):=H_ hG.size
        have hlqes1z3w1 : Hid (w.heap.size < es1z3w1.heap.size):=H_ (Array.getElem?_eq_some_iff.1 Bq).1
        clear Cq0 Fq0 Cq1 Fq1 Cq2 Fq2 Cq3 Fq3
        replace Bq:=a_ gbes1z3w1 Bq
        replace hG:=d_ hG gbes1z3w1
        clear gbes1z3w1
        obtain ⟨Cq0,Cq1,Cq2,Cq3,Fq0,Fq1,Fq2,Fq3⟩:=b_ Bq
        obtain ⟨Cu0,Cu1,Fu0,Fu1⟩:=c_ Bu
        go_wp2_with fail
        generalize (es1z3w1.alloc (.cells #[.int .i64 gu,.slice su lu cu] 36)) = es1z3w2 at *
        generalize es1z3w1.heap.size = aes1z3w1 at *
        replace hzes1z3w1:=hzes1z3w1.out
        replace hlqes1z3w1:=hlqes1z3w1.out
        clear Cq0 Fq0 Cq1 Fq1 Cq2 Fq2 Cq3 Fq3 Cu0 Fu0 Cu1 Fu1
        refine (dJ_ es1z3w2 0 (by omega) (by omega)).mono ?_
        rintro e es1z3w3 ⟨_,rfl,⟨gd,sd,ld,cd,gd',sd',ld',cd',nd,dd,rfl,hd,hd',ud⟩,ges1z3w3⟩
        have yd : RQ es1z3w3 (.agg #[.int .i64 gd,.slice sd ld cd,.int .i64 gd',.slice sd' ld' cd']) ((0 : Int) : Rat) 5:=⟨gd,sd,ld,cd,gd',sd',ld',cd',nd,dd,rfl,hd,hd',ud⟩
        replace Bq:=a_ ges1z3w3 Bq
        replace Bu:=a_ ges1z3w3 Bu
        replace hG:=d_ hG ges1z3w3
        clear ges1z3w3
        clear hd hd'
        obtain ⟨Cq0,Cq1,Cq2,Cq3,Fq0,Fq1,Fq2,Fq3⟩:=b_ Bq
        obtain ⟨Cu0,Cu1,Fu0,Fu1⟩:=c_ Bu
        have yz:=RQ.zero5 yd HE5.out
        clear Cq0 Fq0 Cq1 Fq1 Cq2 Fq2 Cq3 Fq3 Cu0 Fu0 Cu1 Fu1
        obtain ⟨k90,k91,k92,k93,k94,k95,k96,k97⟩:=b_ Bq
        obtain ⟨q90,q91,q92,q93,q94,q95,q96,q97⟩:=b_ (r_ Bq (.int .i64 gd) (.slice sd ld cd) (.int .i64 gd') (.slice sd' ld' cd'))
        have hF : Hid (cf_ w 0 E 3 (.returned (.tuple #[.agg #[.int .i64 gd,.slice sd ld cd,.int .i64 gd',.slice sd' ld' cd'],.int .i64 3])) ((((es1z3w3.setCell ⟨w.heap.size,0,none⟩ (.int .i64 gd)).setCell ⟨w.heap.size,1,none⟩ (.slice sd ld cd)).setCell ⟨w.heap.size,2,none⟩ (.int .i64 gd')).setCell ⟨w.heap.size,3,none⟩ (.slice sd' ld' cd'))):=dg_ hG Bq (by omega) yz
        clear ru yd yz
        obtain ⟨Cu0,Cu1,Fu0,Fu1⟩:=c_ Bu
        go_wp2_with fail
        exact bodyPost_ret (v:=.tuple #[.agg #[.int .i64 gd,.slice sd ld cd,.int .i64 gd',.slice sd' ld' cd'],.int .i64 3]) (by simp [results,Tryz.results12,go_sem,q90,q91,q92,q93]) rfl hF.out
  · skip
    obtain ⟨m,rfl⟩ : ∃ m : Nat,k = m + 1:=⟨k - 1,by omega⟩
    obtain rfl : j = (m : Int):=by omega
    have hm : m < s.size:=by omega
    clear hj h0
    have hst:=HST.out m hm
    obtain ⟨y,ey⟩ : ∃ y,(s[m]'hm).toNat = y:=⟨_,rfl⟩
    rw [ey] at hst
    by_cases hy : y = 47
    · skip
      rw [if_pos hy] at hst
      subst hy
      have HST9:=H_ hst
      clear hst hcv hfv hz hn hU hD hUs hDs hs hx9 HNP HZB HNB HG0 HBQ HS0 HSE HST
      have hs:=HSS.out
      go_wp2_with fail
      go_roundw
      case rel=>exact ⟨(m : Int) - 1,m,by omega,rfl,by go_num,by rw [HST9.out],by trivial⟩
      case measure=>(simp [intOf] <;> omega)
    · skip
      rw [if_neg hy] at hst
      have f9 : ((y : Int) == 47) = false:=beq_eq_false_iff_ne.2 (by omega)
      have HST9:=H_ hst
      clear hst hcv hfv hz hn hU hD hUs hDs hs hx9 HNP HZB HNB HG0 HBQ HS0 HSE HST
      have hs:=HSS.out
      go_wp2_with fail
      go_roundw
      case rel=>exact ⟨(m : Int) - 1,m,by omega,rfl,by go_num,by rw [HST9.out],by trivial⟩
      case measure=>(simp [intOf] <;> omega)
end Go.Proofs.YtgbbdgioohaknaaGreatDoor
