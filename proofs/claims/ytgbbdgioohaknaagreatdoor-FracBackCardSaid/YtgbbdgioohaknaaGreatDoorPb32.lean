/- What the laws lean on, part 32. -/
import Derived.Deep.RegionHeld3
import Derived.Test.YtgbbdgioohaknaaGreatDoorPb20
import Derived.Test.YtgbbdgioohaknaaGreatDoorPb21
import Derived.Test.YtgbbdgioohaknaaGreatDoorPb31
import Derived.Test.YtgbbdgioohaknaaGreatDoorPb35
import Derived.Test.YtgbbdgioohaknaaGreatDoorPb36
import Derived.Test.YtgbbdgioohaknaaGreatDoorPb37
import Derived.Test.YtgbbdgioohaknaaGreatDoorPb40
import Derived.Test.YtgbbdgioohaknaaGreatDoorPb51
import Derived.Test.YtgbbdgioohaknaaGreatDoorPb52
import Derived.Test.YtgbbdgioohaknaaGreatDoorPb53
import Derived.Test.YtgbbdgioohaknaaGreatDoorPb56
namespace Go.Proofs.YtgbbdgioohaknaaGreatDoor
open Go.RowKit Mat
set_option maxRecDepth 100000
set_option linter.unusedVariables false
set_option linter.unusedSimpArgs false
theorem ij_ {s : ByteArray} {r : Rat} {K : Nat} (h : ch_ s r) (ln : r.num.natAbs < B ^ K) (ld : r.den < B ^ K) (hK : K ≤ 90) : s.size ≤ 4000:=by
 rcases h with ⟨h1,h2⟩ | ⟨h1,p,q,h2,h3,h4⟩
 · have:=bU_ h2 ln; omega
 · have h5:=bU_ h2 ln
   have h6:=bU_ h3 (show ((r.den : Nat) : Int).natAbs < B ^ K by rw [Int.natAbs_natCast]; exact ld)
   have h7 : (({ data:=#[47] } : ByteArray).size) = 1:=rfl
   rw [h4,ByteArray.size_append,ByteArray.size_append,h7]; omega
set_option maxHeartbeats 16000000 in
theorem fl_ (w : World) (s : ByteArray) (hTab : Tab w) :
    Calls Tryz.prog 9 #[.string s] w (fun e w'=>e = .returned (.bool true) ∧ w.grownBy w' none):=by
 have HTB : Hid (∀ W,w.grownBy W none → Tab W):=fun W hW=>hTab.kept hW (by simp)
 clear hTab
 have hG : w.grownBy w none:=h_ _ _
 obtain ⟨A1,o1,lA1,p1⟩:=bP_ s
 have L1:=H_ lA1
 have P1:=H_ p1
 clear p1 lA1
 obtain ⟨F9,hF9⟩ : ∃ z,A1.floor = z:=⟨_,rfl⟩
 obtain ⟨N9,hN9⟩ : ∃ z,bE_ A1 = z:=⟨_,rfl⟩
 have hf1:=Rat.floor_le A1
 have hf2:=Rat.lt_floor_add_one A1
 have hnh:=hv_ A1
 rw [hF9] at hf1 hf2
 rw [hN9] at hnh
 have HF : Hid (A1.floor = F9 ∧ bE_ A1 = N9 ∧ F9.natAbs < B ^ 5 ∧ N9.natAbs < B ^ 6):=⟨hF9,hN9,hF9 ▸ ec_ L1.out.1,hN9 ▸ gT_ L1.out.1 (by omega)⟩
 have HFB : Hid ((F9 : Rat).num.natAbs < B ^ 5 ∧ (F9 : Rat).den < B ^ 5):=⟨gq_ HF.out.2.2.1,gr_ (by omega)⟩
 have HNB : Hid ((N9 : Rat).num.natAbs < B ^ 6 ∧ (N9 : Rat).den < B ^ 6):=⟨gq_ HF.out.2.2.2,gr_ (by omega)⟩
 have H1B : Hid (((1 : Int) : Rat).num.natAbs < B ^ 1 ∧ ((1 : Int) : Rat).den < B ^ 1 ∧ (1 : Int).natAbs < B ^ 1):=⟨by unfold B; decide +kernel,by unfold B; decide +kernel,by unfold B; decide +kernel⟩
 obtain ⟨H9,hH9⟩ : ∃ r,Rat.divInt 1 2 = r:=⟨_,rfl⟩
 have HH:=H_ hH9
 have HHB : Hid (H9.num.natAbs < B ^ 1 ∧ H9.den < B ^ 1):=⟨by rw [← hH9]; unfold B; decide +kernel,by rw [← hH9]; unfold B; decide +kernel⟩
 have hh : H9 = 1 / 2:=by rw [← hH9]; decide +kernel
 obtain ⟨D9,hD9⟩ : ∃ r,A1 - (N9 : Rat) = r:=⟨_,rfl⟩
 have HD:=H_ hD9
 have HDB : Hid (D9.num.natAbs < B ^ 13 ∧ D9.den < B ^ 13):=⟨by rw [← hD9]; exact dl_ (k:=6) (m:=6) (bw L1.out.1 (by omega)) (bw L1.out.2 (by omega)) HNB.out.1 HNB.out.2,by rw [← hD9]; exact gp_ (k:=6) (m:=6) (bw L1.out.2 (by omega)) HNB.out.2⟩
 obtain ⟨c1,hc1⟩ : ∃ c,bT_ (F9 : Rat) A1 = c:=⟨_,rfl⟩
 have g1 : decide (c1 ≤ 0) = true:=by
  rw [← hc1]
  rcases dh_ (F9 : Rat) A1 with h | h | h
  · rw [h]; rfl
  · rw [h]; rfl
  · exact absurd (rcmp_gt.1 h) (Rat.not_lt.2 hf1)
 have HC1:=H_ hc1
 have HC2 : Hid (bT_ ((F9 : Rat) + ((1 : Int) : Rat)) A1 = 1):=rcmp_gt.2 (by rw [Rat.intCast_add] at hf2; exact hf2)
 obtain ⟨sd,hsd⟩ : ∃ c,D9.num.sign = c:=⟨_,rfl⟩
 have HSD:=H_ hsd
 have key : (decide (sd < 0) = true ∧ Hid (-D9 ≤ H9)) ∨ (decide (sd < 0) = false ∧ Hid (D9 ≤ H9)):=by
  rw [hh,← hD9]
  by_cases h : sd < 0
  · left; refine ⟨decide_eq_true h,?_⟩
    show -(A1 - (N9 : Rat)) ≤ 1 / 2
    rw [Rat.neg_sub]; exact hnh.2
  · right; exact ⟨decide_eq_false h,hnh.1⟩
 have le0 : ∀ {x y : Rat},x ≤ y → ∃ c,bT_ x y = c ∧ decide (c ≤ 0) = true:=fun {x y} h=>by
  refine ⟨_,rfl,?_⟩
  rcases dh_ x y with h1 | h1 | h1
  · rw [h1]; rfl
  · rw [h1]; rfl
  · exact absurd (rcmp_gt.1 h1) (Rat.not_lt.2 h)
 have HN1 : Hid (bE_ (N9 : Rat) = N9):=by
  show bE_ (N9 : Rat) = N9
  unfold bE_
  have e1 : (N9 : Rat).num = N9:=rfl
  have e2 : (N9 : Rat).den = 1:=rfl
  rw [e1,e2,show N9 % ((1 : Nat) : Int) = 0 by omega,show N9 / ((1 : Nat) : Int) = N9 by omega]
  rfl
 have HN2 : Hid ((F9 : Rat).floor = F9 ∧ (F9 : Rat).num = F9 ∧ (N9 : Rat).num = N9):=⟨Rat.floor_intCast F9,rfl,rfl⟩
 clear hF9 hN9 hf1 hf2 hnh hH9 hh hD9 hc1 hsd
 have key2 : ∃ (E9 : Rat) (c2 : Int),((decide (sd < 0) = true ∧ Hid (E9 = -D9)) ∨ (decide (sd < 0) = false ∧ Hid (E9 = D9))) ∧ Hid (bT_ E9 H9 = c2) ∧ decide (c2 ≤ 0) = true ∧ Hid (E9.num.natAbs < B ^ 13 ∧ E9.den < B ^ 13):=by
  rcases key with ⟨h1,h2⟩ | ⟨h1,h2⟩
  · obtain ⟨c,h3,h4⟩:=le0 h2.out
    exact ⟨-D9,c,Or.inl ⟨h1,rfl⟩,h3,h4,eb_ HDB.out.1,dm_ HDB.out.2⟩
  · obtain ⟨c,h3,h4⟩:=le0 h2.out
    exact ⟨D9,c,Or.inr ⟨h1,rfl⟩,h3,h4,HDB.out⟩
 obtain ⟨E9,c2,hE9,HC3,g3,HEB⟩:=key2
 clear key le0
 go_enter Tryz.func9,Tryz.ntmps9
 go_wp2_with fail
 refine (P1.out w (HTB.out _ hG)).mono ?_
 rintro e w1 ⟨_,_,rfl,⟨sa1,xa1,ba1,sa1',xa1',ba1',rfl,ha1,ha1'⟩,⟨gx1,sx1,lx1,cx1,gx1',sx1',lx1',cx1',nx1,dx1,rfl,hx1,hx1',ux1⟩,gw1⟩
 have qa1 : RatV w1 (.agg #[.slice sa1 xa1.length xa1.length,.bool ba1,.slice sa1' xa1'.length xa1'.length,.bool ba1']) (A1):=⟨sa1,xa1,ba1,sa1',xa1',ba1',rfl,ha1,ha1'⟩
 have yx1 : RQ w1 (.agg #[.int .i64 gx1,.slice sx1 lx1 cx1,.int .i64 gx1',.slice sx1' lx1' cx1']) A1 20:=⟨gx1,sx1,lx1,cx1,gx1',sx1',lx1',cx1',nx1,dx1,rfl,hx1,hx1',ux1⟩
 replace hG:=d_ hG gw1
 clear gw1
 clear ha1 ha1'
 clear hx1 hx1'
 have gbw1:=(l_ (wg_ w1 (.cells #[.slice sa1 xa1.length xa1.length,.bool ba1,.slice sa1' xa1'.length xa1'.length,.bool ba1'] 28) none) (.cells #[.int .i64 gx1,.slice sx1 lx1 cx1,.int .i64 gx1',.slice sx1' lx1' cx1'] 38))
 have Ba1:=a_ (wg_ _ (.cells #[.int .i64 gx1,.slice sx1 lx1 cx1,.int .i64 gx1',.slice sx1' lx1' cx1'] 38) none) (f_ w1 (.cells #[.slice sa1 xa1.length xa1.length,.bool ba1,.slice sa1' xa1'.length xa1'.length,.bool ba1'] 28) (w1.heap.size) rfl)
 have Bx1:=(f_ (w1.alloc (.cells #[.slice sa1 xa1.length xa1.length,.bool ba1,.slice sa1' xa1'.length xa1'.length,.bool ba1'] 28)) (.cells #[.int .i64 gx1,.slice sx1 lx1 cx1,.int .i64 gx1',.slice sx1' lx1' cx1'] 38) (w1.heap.size + 1) (by simp))
 have hzw1 : Hid (w.heap.size ≤ w1.heap.size):=H_ hG.size
 replace qa1:=qa1.kept gbw1
 replace yx1:=yx1.kept gbw1
 replace hG:=d_ hG gbw1
 clear gbw1
 obtain ⟨Ca10,Ca11,Ca12,Ca13,Fa10,Fa11,Fa12,Fa13⟩:=b_ Ba1
 obtain ⟨Cx10,Cx11,Cx12,Cx13,Fx10,Fx11,Fx12,Fx13⟩:=b_ Bx1
 go_wp2_with fail
 cases o1
 · skip
   generalize ((w1.alloc (.cells #[.slice sa1 xa1.length xa1.length,.bool ba1,.slice sa1' xa1'.length xa1'.length,.bool ba1'] 28)).alloc (.cells #[.int .i64 gx1,.slice sx1 lx1 cx1,.int .i64 gx1',.slice sx1' lx1' cx1'] 38)) = w2 at *
   generalize w1.heap.size = aw1 at *
   replace hzw1:=hzw1.out
   clear Ca10 Fa10 Ca11 Fa11 Ca12 Fa12 Ca13 Fa13 Cx10 Fx10 Cx11 Fx11 Cx12 Fx12 Cx13 Fx13
   refine (A_ w2 (HTB.out _ hG)).mono ?_
   rintro e o0w3 ⟨rfl,go0w3⟩
   replace Ba1:=a_ go0w3 Ba1
   replace Bx1:=a_ go0w3 Bx1
   replace hG:=d_ hG go0w3
   clear go0w3
   obtain ⟨Ca10,Ca11,Ca12,Ca13,Fa10,Fa11,Fa12,Fa13⟩:=b_ Ba1
   obtain ⟨Cx10,Cx11,Cx12,Cx13,Fx10,Fx11,Fx12,Fx13⟩:=b_ Bx1
   go_wp2_with fail
   clear Ca10 Fa10 Ca11 Fa11 Ca12 Fa12 Ca13 Fa13 Cx10 Fx10 Cx11 Fx11 Cx12 Fx12 Cx13 Fx13
   refine (A_ o0w3 (HTB.out _ hG)).mono ?_
   rintro e o0w4 ⟨rfl,go0w4⟩
   replace Ba1:=a_ go0w4 Ba1
   replace Bx1:=a_ go0w4 Bx1
   replace hG:=d_ hG go0w4
   clear go0w4
   obtain ⟨Ca10,Ca11,Ca12,Ca13,Fa10,Fa11,Fa12,Fa13⟩:=b_ Ba1
   obtain ⟨Cx10,Cx11,Cx12,Cx13,Fx10,Fx11,Fx12,Fx13⟩:=b_ Bx1
   go_wp2_with fail
   go_ret
   exact ⟨by first | rfl | simp,hG⟩
 generalize ((w1.alloc (.cells #[.slice sa1 xa1.length xa1.length,.bool ba1,.slice sa1' xa1'.length xa1'.length,.bool ba1'] 28)).alloc (.cells #[.int .i64 gx1,.slice sx1 lx1 cx1,.int .i64 gx1',.slice sx1' lx1' cx1'] 38)) = w2 at *
 generalize w1.heap.size = aw1 at *
 replace hzw1:=hzw1.out
 clear Ca10 Fa10 Ca11 Fa11 Ca12 Fa12 Ca13 Fa13 Cx10 Fx10 Cx11 Fx11 Cx12 Fx12 Cx13 Fx13
 refine (A_ w2 (HTB.out _ hG)).mono ?_
 rintro e w3 ⟨rfl,gw3⟩
 replace Ba1:=a_ gw3 Ba1
 replace Bx1:=a_ gw3 Bx1
 replace qa1:=qa1.kept gw3
 replace yx1:=yx1.kept gw3
 replace hG:=d_ hG gw3
 clear gw3
 obtain ⟨Ca10,Ca11,Ca12,Ca13,Fa10,Fa11,Fa12,Fa13⟩:=b_ Ba1
 obtain ⟨Cx10,Cx11,Cx12,Cx13,Fx10,Fx11,Fx12,Fx13⟩:=b_ Bx1
 go_wp2_with fail
 clear Ca10 Fa10 Ca11 Fa11 Ca12 Fa12 Ca13 Fa13 Cx10 Fx10 Cx11 Fx11 Cx12 Fx12 Cx13 Fx13
 refine (aH_ w3 _ A1 5 qa1 (by omega) L1.out.1 L1.out.2).mono ?_
 rintro e w4 ⟨t9,rfl,ht9,gw4⟩
 have hz9 : t9.size ≤ 4000:=ij_ ht9 L1.out.1 L1.out.2 (by omega)
 have hb9:=ht_ ht9 hz9
 have PT : Hid (∀ W,Tab W → Calls Tryz.prog 11 #[.string t9] W (V_ W A1 0)):=fun W hT=>by
  have h:=aV_ W t9 hz9 hT
  rw [hb9.1,hb9.2] at h; exact h
 clear ht9 hz9 hb9
 replace Ba1:=a_ gw4 Ba1
 replace Bx1:=a_ gw4 Bx1
 replace qa1:=qa1.kept gw4
 replace yx1:=yx1.kept gw4
 replace hG:=d_ hG gw4
 clear gw4
 obtain ⟨Ca10,Ca11,Ca12,Ca13,Fa10,Fa11,Fa12,Fa13⟩:=b_ Ba1
 obtain ⟨Cx10,Cx11,Cx12,Cx13,Fx10,Fx11,Fx12,Fx13⟩:=b_ Bx1
 go_wp2_with fail
 clear Ca10 Fa10 Ca11 Fa11 Ca12 Fa12 Ca13 Fa13 Cx10 Fx10 Cx11 Fx11 Cx12 Fx12 Cx13 Fx13
 refine (PT.out w4 (HTB.out _ hG)).mono ?_
 rintro e w5 ⟨_,rfl,⟨sb,xb,bb,sb',xb',bb',rfl,hb,hb'⟩,gw5⟩
 have qb : RatV w5 (.agg #[.slice sb xb.length xb.length,.bool bb,.slice sb' xb'.length xb'.length,.bool bb']) (A1):=⟨sb,xb,bb,sb',xb',bb',rfl,hb,hb'⟩
 replace Ba1:=a_ gw5 Ba1
 replace Bx1:=a_ gw5 Bx1
 replace qa1:=qa1.kept gw5
 replace yx1:=yx1.kept gw5
 replace hG:=d_ hG gw5
 clear gw5
 clear hb hb'
 obtain ⟨Ca10,Ca11,Ca12,Ca13,Fa10,Fa11,Fa12,Fa13⟩:=b_ Ba1
 obtain ⟨Cx10,Cx11,Cx12,Cx13,Fx10,Fx11,Fx12,Fx13⟩:=b_ Bx1
 have gbw5:=(wg_ w5 (.cells #[.slice sb xb.length xb.length,.bool bb,.slice sb' xb'.length xb'.length,.bool bb'] 28) none)
 have Bb:=(f_ w5 (.cells #[.slice sb xb.length xb.length,.bool bb,.slice sb' xb'.length xb'.length,.bool bb'] 28) (w5.heap.size) rfl)
 have hzw5 : Hid (w.heap.size ≤ w5.heap.size):=H_ hG.size
 have hla1w5 : Hid (aw1 < w5.heap.size):=H_ (Array.getElem?_eq_some_iff.1 Ba1).1
 have hlx1w5 : Hid (aw1 + 1 < w5.heap.size):=H_ (Array.getElem?_eq_some_iff.1 Bx1).1
 clear Ca10 Fa10 Ca11 Fa11 Ca12 Fa12 Ca13 Fa13 Cx10 Fx10 Cx11 Fx11 Cx12 Fx12 Cx13 Fx13
 replace Ba1:=a_ gbw5 Ba1
 replace Bx1:=a_ gbw5 Bx1
 replace qa1:=qa1.kept gbw5
 replace yx1:=yx1.kept gbw5
 replace qb:=qb.kept gbw5
 replace hG:=d_ hG gbw5
 clear gbw5
 obtain ⟨Ca10,Ca11,Ca12,Ca13,Fa10,Fa11,Fa12,Fa13⟩:=b_ Ba1
 obtain ⟨Cx10,Cx11,Cx12,Cx13,Fx10,Fx11,Fx12,Fx13⟩:=b_ Bx1
 obtain ⟨Cb0,Cb1,Cb2,Cb3,Fb0,Fb1,Fb2,Fb3⟩:=b_ Bb
 go_wp2_with fail
 generalize (w5.alloc (.cells #[.slice sb xb.length xb.length,.bool bb,.slice sb' xb'.length xb'.length,.bool bb'] 28)) = w6 at *
 generalize w5.heap.size = aw5 at *
 replace hzw5:=hzw5.out
 replace hla1w5:=hla1w5.out
 replace hlx1w5:=hlx1w5.out
 have HG0:=H_ hG
 have Xa19:=H_ Ba1
 have Xx19:=H_ Bx1
 have Xb9:=H_ Bb
 have Jqa19:=H_ qa1
 have Jyx19:=H_ yx1
 have Jqb9:=H_ qb
 have hX : w6.grownBy w6 none:=h_ _ _
 have hsz:=hG.size
 go_cut [8,9] (fun p q wx=>∃ pf pn,p = .pointer (some ⟨pf,0,none⟩) ∧ q = .pointer (some ⟨pn,0,none⟩) ∧ BoxR wx pf (F9 : Rat) ∧ BoxR wx pn (N9 : Rat) ∧ w.heap.size ≤ pf ∧ w.heap.size ≤ pn ∧ w6.grownBy wx none)
 case first =>
  clear Ca10 Fa10 Ca11 Fa11 Ca12 Fa12 Ca13 Fa13 Cx10 Fx10 Cx11 Fx11 Cx12 Fx12 Cx13 Fx13 Cb0 Fb0 Cb1 Fb1 Cb2 Fb2 Cb3 Fb3
  clear Bx1 Bb
  clear yx1 qb
  obtain ⟨Ca10,Ca11,Ca12,Ca13,Fa10,Fa11,Fa12,Fa13⟩:=b_ Ba1
  refine wp_region_held_drew (S:=fun w'=>w'.cell? ⟨aw1,0,none⟩ = some (.slice sa1 xa1.length xa1.length) ∧ w'.cell? ⟨aw1,1,none⟩ = some (.bool ba1) ∧ w'.cell? ⟨aw1,2,none⟩ = some (.slice sa1' xa1'.length xa1'.length) ∧ w'.cell? ⟨aw1,3,none⟩ = some (.bool ba1')) (by kernel_rfl) (by exact ⟨Ca10,Ca11,Ca12,Ca13⟩) (fun hHeld=>?_)
  have gd : w6.grownBy w6.drew none:=k_ (h_ _ _)
  clear Ca10 Fa10 Ca11 Fa11 Ca12 Fa12 Ca13 Fa13
  replace Ba1:=a_ gd Ba1
  replace qa1:=qa1.kept gd
  replace hG:=d_ hG gd
  replace hX:=d_ hX gd
  clear gd
  generalize w6.drew = tw7 at *
  refine tk_ 0 ?_ rfl ?_ ?_
  rotate_left
  · (intro w hSw; (try dsimp only at hSw); go_simp; (try with_reducible rfl))
  try simp only [ly_]
  refine tk_ 3 ?_ rfl ?_ ?_
  rotate_left
  · (intro w hSw; (try dsimp only at hSw); go_simp; (try with_reducible rfl))
  try simp only [ly_]
  refine wpAnyH_ready (rs:=[1,6,7]) (by kernel_rfl) (by simp) ?_
  refine AllReadyH.cons rfl (fun KQ hKQ=>?_) (AllReadyH.cons rfl (fun KQ hKQ=>?_) (AllReadyH.cons rfl (fun KQ hKQ=>?_) AllReadyH.nil))
  focus
   go_simp
   go_at_call 42
   refine (ax_ tw7 _ A1 5 qa1 (by omega) L1.out.1 L1.out.2).mono ?_
   rintro e tw8 ⟨vf,rfl,jf,gtw8⟩
   rw [HF.out.1] at jf
   replace Ba1:=a_ gtw8 Ba1
   replace qa1:=qa1.kept gtw8
   replace hG:=d_ hG gtw8
   replace hX:=d_ hX gtw8
   clear gtw8
   (try go_wp2_with fail)
   refine hKQ.out _ _ (by exact ⟨(b_ Ba1).1,(b_ Ba1).2.1,(b_ Ba1).2.2.1,(b_ Ba1).2.2.2.1⟩) (fun hHeld=>?_)
   clear hKQ KQ
   try simp only [ly_]
   refine wpAnyH_ready (rs:=[2,6,7]) (by kernel_rfl) (by simp) ?_
   refine AllReadyH.cons rfl (fun KQ hKQ=>?_) (AllReadyH.cons rfl (fun KQ hKQ=>?_) (AllReadyH.cons rfl (fun KQ hKQ=>?_) AllReadyH.nil))
   focus
    go_simp
    go_at_call 25
    refine (p_ tw8 _ F9 5 jf (by omega) HF.out.2.2.1).mono ?_
    rintro e tw9 ⟨_,rfl,⟨sf,xf,bf,sf',xf',bf',rfl,hf,hf'⟩,gtw9⟩
    have qf : RatV tw9 (.agg #[.slice sf xf.length xf.length,.bool bf,.slice sf' xf'.length xf'.length,.bool bf']) ((F9 : Rat)):=⟨sf,xf,bf,sf',xf',bf',rfl,hf,hf'⟩
    replace Ba1:=a_ gtw9 Ba1
    replace qa1:=qa1.kept gtw9
    replace jf:=jf.kept gtw9
    replace hG:=d_ hG gtw9
    replace hX:=d_ hX gtw9
    clear gtw9
    clear hf hf'
    (try go_wp2_with fail)
    refine hKQ.out _ _ (by exact ⟨(b_ Ba1).1,(b_ Ba1).2.1,(b_ Ba1).2.2.1,(b_ Ba1).2.2.2.1⟩) (fun hHeld=>?_)
    clear hKQ KQ
    try simp only [ly_]
    refine wpAnyH_ready (rs:=[4,6,7]) (by kernel_rfl) (by simp) ?_
    refine AllReadyH.cons rfl (fun KQ hKQ=>?_) (AllReadyH.cons rfl (fun KQ hKQ=>?_) (AllReadyH.cons rfl (fun KQ hKQ=>?_) AllReadyH.nil))
    focus
     go_simp
     go_at_call 44
     refine (E_ tw9 _ A1 5 qa1 (by omega) L1.out.1 L1.out.2).mono ?_
     rintro e tw10 ⟨vn,rfl,jn,gtw10⟩
     rw [HF.out.2.1] at jn
     replace Ba1:=a_ gtw10 Ba1
     replace qa1:=qa1.kept gtw10
     replace jf:=jf.kept gtw10
     replace qf:=qf.kept gtw10
     replace hG:=d_ hG gtw10
     replace hX:=d_ hX gtw10
     clear gtw10
     (try go_wp2_with fail)
     refine hKQ.out _ _ (by exact ⟨(b_ Ba1).1,(b_ Ba1).2.1,(b_ Ba1).2.2.1,(b_ Ba1).2.2.2.1⟩) (fun hHeld=>?_)
     clear hKQ KQ
     try simp only [ly_]
     refine wpAnyH_ready (rs:=[5,6,7]) (by kernel_rfl) (by simp) ?_
     refine AllReadyH.cons rfl (fun KQ hKQ=>?_) (AllReadyH.cons rfl (fun KQ hKQ=>?_) (AllReadyH.cons rfl (fun KQ hKQ=>?_) AllReadyH.nil))
     focus
      go_simp
      go_at_call 25
      refine (p_ tw10 _ N9 6 jn (by omega) HF.out.2.2.2).mono ?_
      rintro e tw11 ⟨_,rfl,⟨sn,xn,bn,sn',xn',bn',rfl,hn,hn'⟩,gtw11⟩
      have qn : RatV tw11 (.agg #[.slice sn xn.length xn.length,.bool bn,.slice sn' xn'.length xn'.length,.bool bn']) ((N9 : Rat)):=⟨sn,xn,bn,sn',xn',bn',rfl,hn,hn'⟩
      replace Ba1:=a_ gtw11 Ba1
      replace qa1:=qa1.kept gtw11
      replace jf:=jf.kept gtw11
      replace qf:=qf.kept gtw11
      replace jn:=jn.kept gtw11
      replace hG:=d_ hG gtw11
      replace hX:=d_ hX gtw11
      clear gtw11
      clear hn hn'
      (try go_wp2_with fail)
      refine hKQ.out _ _ (by exact ⟨(b_ Ba1).1,(b_ Ba1).2.1,(b_ Ba1).2.2.1,(b_ Ba1).2.2.2.1⟩) (fun hHeld=>?_)
      clear hKQ KQ
      try simp only [ly_]
      refine wpAnyH_ready (rs:=[6,7]) (by kernel_rfl) (by simp) ?_
      refine AllReadyH.cons rfl (fun KQ hKQ=>?_) (AllReadyH.cons rfl (fun KQ hKQ=>?_) AllReadyH.nil)
      focus
       have gA:=wg_ tw11 (.cells #[.slice none 0 0,.bool false,.slice none 0 0,.bool false] 28) none
       have lohGk : w.heap.size ≤ tw11.heap.size:=hG.size
       have lohXk : w6.heap.size ≤ tw11.heap.size:=hX.size
       have lta1k : aw1 < tw11.heap.size:=g_ Ba1
       have Bk_:=f_ tw11 (.cells #[.slice none 0 0,.bool false,.slice none 0 0,.bool false] 28) tw11.heap.size rfl
       replace Ba1:=a_ gA Ba1
       replace qa1:=qa1.kept gA
       replace jf:=jf.kept gA
       replace qf:=qf.kept gA
       replace jn:=jn.kept gA
       replace qn:=qn.kept gA
       replace hG:=d_ hG gA
       replace hX:=d_ hX gA
       clear gA
       go_simp
       generalize (tw11.alloc (.cells #[.slice none 0 0,.bool false,.slice none 0 0,.bool false] 28)) = tw12 at *
       generalize tw11.heap.size = pk at *
       have Bk:=Bk_
       clear Bk_
       refine hKQ.out _ _ (by exact ⟨(b_ Ba1).1,(b_ Ba1).2.1,(b_ Ba1).2.2.1,(b_ Ba1).2.2.2.1⟩) (fun hHeld=>?_)
       clear hKQ KQ
       try simp only [ly_]
       refine o1_ 7 rfl (fun KQ hKQ=>?_)
       have gA:=wg_ tw12 (.cells #[.slice none 0 0,.bool false,.slice none 0 0,.bool false] 28) none
       have lohGl : w.heap.size ≤ tw12.heap.size:=hG.size
       have lohXl : w6.heap.size ≤ tw12.heap.size:=hX.size
       have lta1l : aw1 < tw12.heap.size:=g_ Ba1
       have ltkl : pk < tw12.heap.size:=g_ Bk
       have Bl_:=f_ tw12 (.cells #[.slice none 0 0,.bool false,.slice none 0 0,.bool false] 28) tw12.heap.size rfl
       replace Ba1:=a_ gA Ba1
       replace Bk:=a_ gA Bk
       replace qa1:=qa1.kept gA
       replace jf:=jf.kept gA
       replace qf:=qf.kept gA
       replace jn:=jn.kept gA
       replace qn:=qn.kept gA
       replace hG:=d_ hG gA
       replace hX:=d_ hX gA
       clear gA
       go_simp
       generalize (tw12.alloc (.cells #[.slice none 0 0,.bool false,.slice none 0 0,.bool false] 28)) = tw13 at *
       generalize tw12.heap.size = pl at *
       have Bl:=Bl_
       clear Bl_
       refine hKQ.out _ _ (by exact ⟨(b_ Ba1).1,(b_ Ba1).2.1,(b_ Ba1).2.2.1,(b_ Ba1).2.2.2.1⟩) (fun hHeld=>?_)
       clear hKQ KQ
       try simp only [ly_]
      rotate_left 1
      focus
       have gA:=wg_ tw11 (.cells #[.slice none 0 0,.bool false,.slice none 0 0,.bool false] 28) none
       have lohGl : w.heap.size ≤ tw11.heap.size:=hG.size
       have lohXl : w6.heap.size ≤ tw11.heap.size:=hX.size
       have lta1l : aw1 < tw11.heap.size:=g_ Ba1
       have Bl_:=f_ tw11 (.cells #[.slice none 0 0,.bool false,.slice none 0 0,.bool false] 28) tw11.heap.size rfl
       replace Ba1:=a_ gA Ba1
       replace qa1:=qa1.kept gA
       replace jf:=jf.kept gA
       replace qf:=qf.kept gA
       replace jn:=jn.kept gA
       replace qn:=qn.kept gA
       replace hG:=d_ hG gA
       replace hX:=d_ hX gA
       clear gA
       go_simp
       generalize (tw11.alloc (.cells #[.slice none 0 0,.bool false,.slice none 0 0,.bool false] 28)) = tw12 at *
       generalize tw11.heap.size = pl at *
       have Bl:=Bl_
       clear Bl_
       refine hKQ.out _ _ (by exact ⟨(b_ Ba1).1,(b_ Ba1).2.1,(b_ Ba1).2.2.1,(b_ Ba1).2.2.2.1⟩) (fun hHeld=>?_)
       clear hKQ KQ
       try simp only [ly_]
       refine o1_ 6 rfl (fun KQ hKQ=>?_)
       have gA:=wg_ tw12 (.cells #[.slice none 0 0,.bool false,.slice none 0 0,.bool false] 28) none
       have lohGk : w.heap.size ≤ tw12.heap.size:=hG.size
       have lohXk : w6.heap.size ≤ tw12.heap.size:=hX.size
       have lta1k : aw1 < tw12.heap.size:=g_ Ba1
       have ltlk : pl < tw12.heap.size:=g_ Bl
       have Bk_:=f_ tw12 (.cells #[.slice none 0 0,.bool false,.slice none 0 0,.bool false] 28) tw12.heap.size rfl
       replace Ba1:=a_ gA Ba1
       replace Bl:=a_ gA Bl
       replace qa1:=qa1.kept gA
       replace jf:=jf.kept gA
       replace qf:=qf.kept gA
       replace jn:=jn.kept gA
       replace qn:=qn.kept gA
       replace hG:=d_ hG gA
       replace hX:=d_ hX gA
       clear gA
       go_simp
       generalize (tw12.alloc (.cells #[.slice none 0 0,.bool false,.slice none 0 0,.bool false] 28)) = tw13 at *
       generalize tw12.heap.size = pk at *
       have Bk:=Bk_
       clear Bk_
       refine hKQ.out _ _ (by exact ⟨(b_ Ba1).1,(b_ Ba1).2.1,(b_ Ba1).2.2.1,(b_ Ba1).2.2.2.1⟩) (fun hHeld=>?_)
       clear hKQ KQ
       try simp only [ly_]
      rotate_left 1
     rotate_left 2
     focus
      have gA:=wg_ tw10 (.cells #[.slice none 0 0,.bool false,.slice none 0 0,.bool false] 28) none
      have lohGk : w.heap.size ≤ tw10.heap.size:=hG.size
      have lohXk : w6.heap.size ≤ tw10.heap.size:=hX.size
      have lta1k : aw1 < tw10.heap.size:=g_ Ba1
      have Bk_:=f_ tw10 (.cells #[.slice none 0 0,.bool false,.slice none 0 0,.bool false] 28) tw10.heap.size rfl
      replace Ba1:=a_ gA Ba1
      replace qa1:=qa1.kept gA
      replace jf:=jf.kept gA
      replace qf:=qf.kept gA
      replace jn:=jn.kept gA
      replace hG:=d_ hG gA
      replace hX:=d_ hX gA
      clear gA
      go_simp
      generalize (tw10.alloc (.cells #[.slice none 0 0,.bool false,.slice none 0 0,.bool false] 28)) = tw11 at *
      generalize tw10.heap.size = pk at *
      have Bk:=Bk_
      clear Bk_
      refine hKQ.out _ _ (by exact ⟨(b_ Ba1).1,(b_ Ba1).2.1,(b_ Ba1).2.2.1,(b_ Ba1).2.2.2.1⟩) (fun hHeld=>?_)
      clear hKQ KQ
      try simp only [ly_]
      refine wpAnyH_ready (rs:=[5,7]) (by kernel_rfl) (by simp) ?_
      refine AllReadyH.cons rfl (fun KQ hKQ=>?_) (AllReadyH.cons rfl (fun KQ hKQ=>?_) AllReadyH.nil)
      focus
       go_simp
       go_at_call 25
       refine (p_ tw11 _ N9 6 jn (by omega) HF.out.2.2.2).mono ?_
       rintro e tw12 ⟨_,rfl,⟨sn,xn,bn,sn',xn',bn',rfl,hn,hn'⟩,gtw12⟩
       have qn : RatV tw12 (.agg #[.slice sn xn.length xn.length,.bool bn,.slice sn' xn'.length xn'.length,.bool bn']) ((N9 : Rat)):=⟨sn,xn,bn,sn',xn',bn',rfl,hn,hn'⟩
       replace Ba1:=a_ gtw12 Ba1
       replace Bk:=a_ gtw12 Bk
       replace qa1:=qa1.kept gtw12
       replace jf:=jf.kept gtw12
       replace qf:=qf.kept gtw12
       replace jn:=jn.kept gtw12
       replace hG:=d_ hG gtw12
       replace hX:=d_ hX gtw12
       clear gtw12
       clear hn hn'
       (try go_wp2_with fail)
       refine hKQ.out _ _ (by exact ⟨(b_ Ba1).1,(b_ Ba1).2.1,(b_ Ba1).2.2.1,(b_ Ba1).2.2.2.1⟩) (fun hHeld=>?_)
       clear hKQ KQ
       try simp only [ly_]
       refine o1_ 7 rfl (fun KQ hKQ=>?_)
       have gA:=wg_ tw12 (.cells #[.slice none 0 0,.bool false,.slice none 0 0,.bool false] 28) none
       have lohGl : w.heap.size ≤ tw12.heap.size:=hG.size
       have lohXl : w6.heap.size ≤ tw12.heap.size:=hX.size
       have lta1l : aw1 < tw12.heap.size:=g_ Ba1
       have ltkl : pk < tw12.heap.size:=g_ Bk
       have Bl_:=f_ tw12 (.cells #[.slice none 0 0,.bool false,.slice none 0 0,.bool false] 28) tw12.heap.size rfl
       replace Ba1:=a_ gA Ba1
       replace Bk:=a_ gA Bk
       replace qa1:=qa1.kept gA
       replace jf:=jf.kept gA
       replace qf:=qf.kept gA
       replace jn:=jn.kept gA
       replace qn:=qn.kept gA
       replace hG:=d_ hG gA
       replace hX:=d_ hX gA
       clear gA
       go_simp
       generalize (tw12.alloc (.cells #[.slice none 0 0,.bool false,.slice none 0 0,.bool false] 28)) = tw13 at *
       generalize tw12.heap.size = pl at *
       have Bl:=Bl_
       clear Bl_
       refine hKQ.out _ _ (by exact ⟨(b_ Ba1).1,(b_ Ba1).2.1,(b_ Ba1).2.2.1,(b_ Ba1).2.2.2.1⟩) (fun hHeld=>?_)
       clear hKQ KQ
       try simp only [ly_]
      rotate_left 1
      focus
       have gA:=wg_ tw11 (.cells #[.slice none 0 0,.bool false,.slice none 0 0,.bool false] 28) none
       have lohGl : w.heap.size ≤ tw11.heap.size:=hG.size
       have lohXl : w6.heap.size ≤ tw11.heap.size:=hX.size
       have lta1l : aw1 < tw11.heap.size:=g_ Ba1
       have ltkl : pk < tw11.heap.size:=g_ Bk
       have Bl_:=f_ tw11 (.cells #[.slice none 0 0,.bool false,.slice none 0 0,.bool false] 28) tw11.heap.size rfl
       replace Ba1:=a_ gA Ba1
       replace Bk:=a_ gA Bk
       replace qa1:=qa1.kept gA
       replace jf:=jf.kept gA
       replace qf:=qf.kept gA
       replace jn:=jn.kept gA
       replace hG:=d_ hG gA
       replace hX:=d_ hX gA
       clear gA
       go_simp
       generalize (tw11.alloc (.cells #[.slice none 0 0,.bool false,.slice none 0 0,.bool false] 28)) = tw12 at *
       generalize tw11.heap.size = pl at *
       have Bl:=Bl_
       clear Bl_
       refine hKQ.out _ _ (by exact ⟨(b_ Ba1).1,(b_ Ba1).2.1,(b_ Ba1).2.2.1,(b_ Ba1).2.2.2.1⟩) (fun hHeld=>?_)
       clear hKQ KQ
       try simp only [ly_]
       refine o1_ 5 rfl (fun KQ hKQ=>?_)
       go_simp
       go_at_call 25
       refine (p_ tw12 _ N9 6 jn (by omega) HF.out.2.2.2).mono ?_
       rintro e tw13 ⟨_,rfl,⟨sn,xn,bn,sn',xn',bn',rfl,hn,hn'⟩,gtw13⟩
       have qn : RatV tw13 (.agg #[.slice sn xn.length xn.length,.bool bn,.slice sn' xn'.length xn'.length,.bool bn']) ((N9 : Rat)):=⟨sn,xn,bn,sn',xn',bn',rfl,hn,hn'⟩
       replace Ba1:=a_ gtw13 Ba1
       replace Bk:=a_ gtw13 Bk
       replace Bl:=a_ gtw13 Bl
       replace qa1:=qa1.kept gtw13
       replace jf:=jf.kept gtw13
       replace qf:=qf.kept gtw13
       replace jn:=jn.kept gtw13
       replace hG:=d_ hG gtw13
       replace hX:=d_ hX gtw13
       clear gtw13
       clear hn hn'
       (try go_wp2_with fail)
       refine hKQ.out _ _ (by exact ⟨(b_ Ba1).1,(b_ Ba1).2.1,(b_ Ba1).2.2.1,(b_ Ba1).2.2.2.1⟩) (fun hHeld=>?_)
       clear hKQ KQ
       try simp only [ly_]
      rotate_left 1
     rotate_left 2
     focus
      have gA:=wg_ tw10 (.cells #[.slice none 0 0,.bool false,.slice none 0 0,.bool false] 28) none
      have lohGl : w.heap.size ≤ tw10.heap.size:=hG.size
      have lohXl : w6.heap.size ≤ tw10.heap.size:=hX.size
      have lta1l : aw1 < tw10.heap.size:=g_ Ba1
      have Bl_:=f_ tw10 (.cells #[.slice none 0 0,.bool false,.slice none 0 0,.bool false] 28) tw10.heap.size rfl
      replace Ba1:=a_ gA Ba1
      replace qa1:=qa1.kept gA
      replace jf:=jf.kept gA
      replace qf:=qf.kept gA
      replace jn:=jn.kept gA
      replace hG:=d_ hG gA
      replace hX:=d_ hX gA
      clear gA
      go_simp
      generalize (tw10.alloc (.cells #[.slice none 0 0,.bool false,.slice none 0 0,.bool false] 28)) = tw11 at *
      generalize tw10.heap.size = pl at *
      have Bl:=Bl_
      clear Bl_
      refine hKQ.out _ _ (by exact ⟨(b_ Ba1).1,(b_ Ba1).2.1,(b_ Ba1).2.2.1,(b_ Ba1).2.2.2.1⟩) (fun hHeld=>?_)
      clear hKQ KQ
      try simp only [ly_]
      refine wpAnyH_ready (rs:=[5,6]) (by kernel_rfl) (by simp) ?_
      refine AllReadyH.cons rfl (fun KQ hKQ=>?_) (AllReadyH.cons rfl (fun KQ hKQ=>?_) AllReadyH.nil)
      focus
       go_simp
       go_at_call 25
       refine (p_ tw11 _ N9 6 jn (by omega) HF.out.2.2.2).mono ?_
       rintro e tw12 ⟨_,rfl,⟨sn,xn,bn,sn',xn',bn',rfl,hn,hn'⟩,gtw12⟩
       have qn : RatV tw12 (.agg #[.slice sn xn.length xn.length,.bool bn,.slice sn' xn'.length xn'.length,.bool bn']) ((N9 : Rat)):=⟨sn,xn,bn,sn',xn',bn',rfl,hn,hn'⟩
       replace Ba1:=a_ gtw12 Ba1
       replace Bl:=a_ gtw12 Bl
       replace qa1:=qa1.kept gtw12
       replace jf:=jf.kept gtw12
       replace qf:=qf.kept gtw12
       replace jn:=jn.kept gtw12
       replace hG:=d_ hG gtw12
       replace hX:=d_ hX gtw12
       clear gtw12
       clear hn hn'
       (try go_wp2_with fail)
       refine hKQ.out _ _ (by exact ⟨(b_ Ba1).1,(b_ Ba1).2.1,(b_ Ba1).2.2.1,(b_ Ba1).2.2.2.1⟩) (fun hHeld=>?_)
       clear hKQ KQ
       try simp only [ly_]
       refine o1_ 6 rfl (fun KQ hKQ=>?_)
       have gA:=wg_ tw12 (.cells #[.slice none 0 0,.bool false,.slice none 0 0,.bool false] 28) none
       have lohGk : w.heap.size ≤ tw12.heap.size:=hG.size
       have lohXk : w6.heap.size ≤ tw12.heap.size:=hX.size
       have lta1k : aw1 < tw12.heap.size:=g_ Ba1
       have ltlk : pl < tw12.heap.size:=g_ Bl
       have Bk_:=f_ tw12 (.cells #[.slice none 0 0,.bool false,.slice none 0 0,.bool false] 28) tw12.heap.size rfl
       replace Ba1:=a_ gA Ba1
       replace Bl:=a_ gA Bl
       replace qa1:=qa1.kept gA
       replace jf:=jf.kept gA
       replace qf:=qf.kept gA
       replace jn:=jn.kept gA
       replace qn:=qn.kept gA
       replace hG:=d_ hG gA
       replace hX:=d_ hX gA
       clear gA
       go_simp
       generalize (tw12.alloc (.cells #[.slice none 0 0,.bool false,.slice none 0 0,.bool false] 28)) = tw13 at *
       generalize tw12.heap.size = pk at *
       have Bk:=Bk_
       clear Bk_
       refine hKQ.out _ _ (by exact ⟨(b_ Ba1).1,(b_ Ba1).2.1,(b_ Ba1).2.2.1,(b_ Ba1).2.2.2.1⟩) (fun hHeld=>?_)
       clear hKQ KQ
       try simp only [ly_]
      rotate_left 1
      focus
       have gA:=wg_ tw11 (.cells #[.slice none 0 0,.bool false,.slice none 0 0,.bool false] 28) none
       have lohGk : w.heap.size ≤ tw11.heap.size:=hG.size
       have lohXk : w6.heap.size ≤ tw11.heap.size:=hX.size
       have lta1k : aw1 < tw11.heap.size:=g_ Ba1
       have ltlk : pl < tw11.heap.size:=g_ Bl
       have Bk_:=f_ tw11 (.cells #[.slice none 0 0,.bool false,.slice none 0 0,.bool false] 28) tw11.heap.size rfl
       replace Ba1:=a_ gA Ba1
       replace Bl:=a_ gA Bl
       replace qa1:=qa1.kept gA
       replace jf:=jf.kept gA
       replace qf:=qf.kept gA
       replace jn:=jn.kept gA
       replace hG:=d_ hG gA
       replace hX:=d_ hX gA
       clear gA
       go_simp
       generalize (tw11.alloc (.cells #[.slice none 0 0,.bool false,.slice none 0 0,.bool false] 28)) = tw12 at *
       generalize tw11.heap.size = pk at *
       have Bk:=Bk_
       clear Bk_
       refine hKQ.out _ _ (by exact ⟨(b_ Ba1).1,(b_ Ba1).2.1,(b_ Ba1).2.2.1,(b_ Ba1).2.2.2.1⟩) (fun hHeld=>?_)
       clear hKQ KQ
       try simp only [ly_]
       refine o1_ 5 rfl (fun KQ hKQ=>?_)
       go_simp
       go_at_call 25
       refine (p_ tw12 _ N9 6 jn (by omega) HF.out.2.2.2).mono ?_
       rintro e tw13 ⟨_,rfl,⟨sn,xn,bn,sn',xn',bn',rfl,hn,hn'⟩,gtw13⟩
       have qn : RatV tw13 (.agg #[.slice sn xn.length xn.length,.bool bn,.slice sn' xn'.length xn'.length,.bool bn']) ((N9 : Rat)):=⟨sn,xn,bn,sn',xn',bn',rfl,hn,hn'⟩
       replace Ba1:=a_ gtw13 Ba1
       replace Bl:=a_ gtw13 Bl
       replace Bk:=a_ gtw13 Bk
       replace qa1:=qa1.kept gtw13
       replace jf:=jf.kept gtw13
       replace qf:=qf.kept gtw13
       replace jn:=jn.kept gtw13
       replace hG:=d_ hG gtw13
       replace hX:=d_ hX gtw13
       clear gtw13
       clear hn hn'
       (try go_wp2_with fail)
       refine hKQ.out _ _ (by exact ⟨(b_ Ba1).1,(b_ Ba1).2.1,(b_ Ba1).2.2.1,(b_ Ba1).2.2.2.1⟩) (fun hHeld=>?_)
       clear hKQ KQ
       try simp only [ly_]
      rotate_left 1
     rotate_left 2
    rotate_left 6
    focus
     have gA:=wg_ tw9 (.cells #[.slice none 0 0,.bool false,.slice none 0 0,.bool false] 28) none
     have lohGk : w.heap.size ≤ tw9.heap.size:=hG.size
     have lohXk : w6.heap.size ≤ tw9.heap.size:=hX.size
     have lta1k : aw1 < tw9.heap.size:=g_ Ba1
     have Bk_:=f_ tw9 (.cells #[.slice none 0 0,.bool false,.slice none 0 0,.bool false] 28) tw9.heap.size rfl
     replace Ba1:=a_ gA Ba1
     replace qa1:=qa1.kept gA
     replace jf:=jf.kept gA
     replace qf:=qf.kept gA
     replace hG:=d_ hG gA
     replace hX:=d_ hX gA
     clear gA
     go_simp
     generalize (tw9.alloc (.cells #[.slice none 0 0,.bool false,.slice none 0 0,.bool false] 28)) = tw10 at *
     generalize tw9.heap.size = pk at *
     have Bk:=Bk_
     clear Bk_
     refine hKQ.out _ _ (by exact ⟨(b_ Ba1).1,(b_ Ba1).2.1,(b_ Ba1).2.2.1,(b_ Ba1).2.2.2.1⟩) (fun hHeld=>?_)
     clear hKQ KQ
     try simp only [ly_]
     refine wpAnyH_ready (rs:=[4,7]) (by kernel_rfl) (by simp) ?_
     refine AllReadyH.cons rfl (fun KQ hKQ=>?_) (AllReadyH.cons rfl (fun KQ hKQ=>?_) AllReadyH.nil)
     focus
      go_simp
      go_at_call 44
      refine (E_ tw10 _ A1 5 qa1 (by omega) L1.out.1 L1.out.2).mono ?_
      rintro e tw11 ⟨vn,rfl,jn,gtw11⟩
      rw [HF.out.2.1] at jn
      replace Ba1:=a_ gtw11 Ba1
      replace Bk:=a_ gtw11 Bk
      replace qa1:=qa1.kept gtw11
      replace jf:=jf.kept gtw11
      replace qf:=qf.kept gtw11
      replace hG:=d_ hG gtw11
      replace hX:=d_ hX gtw11
      clear gtw11
      (try go_wp2_with fail)
      refine hKQ.out _ _ (by exact ⟨(b_ Ba1).1,(b_ Ba1).2.1,(b_ Ba1).2.2.1,(b_ Ba1).2.2.2.1⟩) (fun hHeld=>?_)
      clear hKQ KQ
      try simp only [ly_]
      refine wpAnyH_ready (rs:=[5,7]) (by kernel_rfl) (by simp) ?_
      refine AllReadyH.cons rfl (fun KQ hKQ=>?_) (AllReadyH.cons rfl (fun KQ hKQ=>?_) AllReadyH.nil)
      focus
       go_simp
       go_at_call 25
       refine (p_ tw11 _ N9 6 jn (by omega) HF.out.2.2.2).mono ?_
       rintro e tw12 ⟨_,rfl,⟨sn,xn,bn,sn',xn',bn',rfl,hn,hn'⟩,gtw12⟩
       have qn : RatV tw12 (.agg #[.slice sn xn.length xn.length,.bool bn,.slice sn' xn'.length xn'.length,.bool bn']) ((N9 : Rat)):=⟨sn,xn,bn,sn',xn',bn',rfl,hn,hn'⟩
       replace Ba1:=a_ gtw12 Ba1
       replace Bk:=a_ gtw12 Bk
       replace qa1:=qa1.kept gtw12
       replace jf:=jf.kept gtw12
       replace qf:=qf.kept gtw12
       replace jn:=jn.kept gtw12
       replace hG:=d_ hG gtw12
       replace hX:=d_ hX gtw12
       clear gtw12
       clear hn hn'
       (try go_wp2_with fail)
       refine hKQ.out _ _ (by exact ⟨(b_ Ba1).1,(b_ Ba1).2.1,(b_ Ba1).2.2.1,(b_ Ba1).2.2.2.1⟩) (fun hHeld=>?_)
       clear hKQ KQ
       try simp only [ly_]
       refine o1_ 7 rfl (fun KQ hKQ=>?_)
       have gA:=wg_ tw12 (.cells #[.slice none 0 0,.bool false,.slice none 0 0,.bool false] 28) none
       have lohGl : w.heap.size ≤ tw12.heap.size:=hG.size
       have lohXl : w6.heap.size ≤ tw12.heap.size:=hX.size
       have lta1l : aw1 < tw12.heap.size:=g_ Ba1
       have ltkl : pk < tw12.heap.size:=g_ Bk
       have Bl_:=f_ tw12 (.cells #[.slice none 0 0,.bool false,.slice none 0 0,.bool false] 28) tw12.heap.size rfl
       replace Ba1:=a_ gA Ba1
       replace Bk:=a_ gA Bk
       replace qa1:=qa1.kept gA
       replace jf:=jf.kept gA
       replace qf:=qf.kept gA
       replace jn:=jn.kept gA
       replace qn:=qn.kept gA
       replace hG:=d_ hG gA
       replace hX:=d_ hX gA
       clear gA
       go_simp
       generalize (tw12.alloc (.cells #[.slice none 0 0,.bool false,.slice none 0 0,.bool false] 28)) = tw13 at *
       generalize tw12.heap.size = pl at *
       have Bl:=Bl_
       clear Bl_
       refine hKQ.out _ _ (by exact ⟨(b_ Ba1).1,(b_ Ba1).2.1,(b_ Ba1).2.2.1,(b_ Ba1).2.2.2.1⟩) (fun hHeld=>?_)
       clear hKQ KQ
       try simp only [ly_]
      rotate_left 1
      focus
       have gA:=wg_ tw11 (.cells #[.slice none 0 0,.bool false,.slice none 0 0,.bool false] 28) none
       have lohGl : w.heap.size ≤ tw11.heap.size:=hG.size
       have lohXl : w6.heap.size ≤ tw11.heap.size:=hX.size
       have lta1l : aw1 < tw11.heap.size:=g_ Ba1
       have ltkl : pk < tw11.heap.size:=g_ Bk
       have Bl_:=f_ tw11 (.cells #[.slice none 0 0,.bool false,.slice none 0 0,.bool false] 28) tw11.heap.size rfl
       replace Ba1:=a_ gA Ba1
       replace Bk:=a_ gA Bk
       replace qa1:=qa1.kept gA
       replace jf:=jf.kept gA
       replace qf:=qf.kept gA
       replace jn:=jn.kept gA
       replace hG:=d_ hG gA
       replace hX:=d_ hX gA
       clear gA
       go_simp
       generalize (tw11.alloc (.cells #[.slice none 0 0,.bool false,.slice none 0 0,.bool false] 28)) = tw12 at *
       generalize tw11.heap.size = pl at *
       have Bl:=Bl_
       clear Bl_
       refine hKQ.out _ _ (by exact ⟨(b_ Ba1).1,(b_ Ba1).2.1,(b_ Ba1).2.2.1,(b_ Ba1).2.2.2.1⟩) (fun hHeld=>?_)
       clear hKQ KQ
       try simp only [ly_]
       refine o1_ 5 rfl (fun KQ hKQ=>?_)
       go_simp
       go_at_call 25
       refine (p_ tw12 _ N9 6 jn (by omega) HF.out.2.2.2).mono ?_
       rintro e tw13 ⟨_,rfl,⟨sn,xn,bn,sn',xn',bn',rfl,hn,hn'⟩,gtw13⟩
       have qn : RatV tw13 (.agg #[.slice sn xn.length xn.length,.bool bn,.slice sn' xn'.length xn'.length,.bool bn']) ((N9 : Rat)):=⟨sn,xn,bn,sn',xn',bn',rfl,hn,hn'⟩
       replace Ba1:=a_ gtw13 Ba1
       replace Bk:=a_ gtw13 Bk
       replace Bl:=a_ gtw13 Bl
       replace qa1:=qa1.kept gtw13
       replace jf:=jf.kept gtw13
       replace qf:=qf.kept gtw13
       replace jn:=jn.kept gtw13
       replace hG:=d_ hG gtw13
       replace hX:=d_ hX gtw13
       clear gtw13
       clear hn hn'
       (try go_wp2_with fail)
       refine hKQ.out _ _ (by exact ⟨(b_ Ba1).1,(b_ Ba1).2.1,(b_ Ba1).2.2.1,(b_ Ba1).2.2.2.1⟩) (fun hHeld=>?_)
       clear hKQ KQ
       try simp only [ly_]
      rotate_left 1
     rotate_left 2
     focus
      have gA:=wg_ tw10 (.cells #[.slice none 0 0,.bool false,.slice none 0 0,.bool false] 28) none
      have lohGl : w.heap.size ≤ tw10.heap.size:=hG.size
      have lohXl : w6.heap.size ≤ tw10.heap.size:=hX.size
      have lta1l : aw1 < tw10.heap.size:=g_ Ba1
      have ltkl : pk < tw10.heap.size:=g_ Bk
      have Bl_:=f_ tw10 (.cells #[.slice none 0 0,.bool false,.slice none 0 0,.bool false] 28) tw10.heap.size rfl
      replace Ba1:=a_ gA Ba1
      replace Bk:=a_ gA Bk
      replace qa1:=qa1.kept gA
      replace jf:=jf.kept gA
      replace qf:=qf.kept gA
      replace hG:=d_ hG gA
      replace hX:=d_ hX gA
      clear gA
      go_simp
      generalize (tw10.alloc (.cells #[.slice none 0 0,.bool false,.slice none 0 0,.bool false] 28)) = tw11 at *
      generalize tw10.heap.size = pl at *
      have Bl:=Bl_
      clear Bl_
      refine hKQ.out _ _ (by exact ⟨(b_ Ba1).1,(b_ Ba1).2.1,(b_ Ba1).2.2.1,(b_ Ba1).2.2.2.1⟩) (fun hHeld=>?_)
      clear hKQ KQ
      try simp only [ly_]
      refine o1_ 4 rfl (fun KQ hKQ=>?_)
      go_simp
      go_at_call 44
      refine (E_ tw11 _ A1 5 qa1 (by omega) L1.out.1 L1.out.2).mono ?_
      rintro e tw12 ⟨vn,rfl,jn,gtw12⟩
      rw [HF.out.2.1] at jn
      replace Ba1:=a_ gtw12 Ba1
      replace Bk:=a_ gtw12 Bk
      replace Bl:=a_ gtw12 Bl
      replace qa1:=qa1.kept gtw12
      replace jf:=jf.kept gtw12
      replace qf:=qf.kept gtw12
      replace hG:=d_ hG gtw12
      replace hX:=d_ hX gtw12
      clear gtw12
      (try go_wp2_with fail)
      refine hKQ.out _ _ (by exact ⟨(b_ Ba1).1,(b_ Ba1).2.1,(b_ Ba1).2.2.1,(b_ Ba1).2.2.2.1⟩) (fun hHeld=>?_)
      clear hKQ KQ
      try simp only [ly_]
      refine o1_ 5 rfl (fun KQ hKQ=>?_)
      go_simp
      go_at_call 25
      refine (p_ tw12 _ N9 6 jn (by omega) HF.out.2.2.2).mono ?_
      rintro e tw13 ⟨_,rfl,⟨sn,xn,bn,sn',xn',bn',rfl,hn,hn'⟩,gtw13⟩
      have qn : RatV tw13 (.agg #[.slice sn xn.length xn.length,.bool bn,.slice sn' xn'.length xn'.length,.bool bn']) ((N9 : Rat)):=⟨sn,xn,bn,sn',xn',bn',rfl,hn,hn'⟩
      replace Ba1:=a_ gtw13 Ba1
      replace Bk:=a_ gtw13 Bk
      replace Bl:=a_ gtw13 Bl
      replace qa1:=qa1.kept gtw13
      replace jf:=jf.kept gtw13
      replace qf:=qf.kept gtw13
      replace jn:=jn.kept gtw13
      replace hG:=d_ hG gtw13
      replace hX:=d_ hX gtw13
      clear gtw13
      clear hn hn'
      (try go_wp2_with fail)
      refine hKQ.out _ _ (by exact ⟨(b_ Ba1).1,(b_ Ba1).2.1,(b_ Ba1).2.2.1,(b_ Ba1).2.2.2.1⟩) (fun hHeld=>?_)
      clear hKQ KQ
      try simp only [ly_]
     rotate_left 1
    rotate_left 3
    focus
     have gA:=wg_ tw9 (.cells #[.slice none 0 0,.bool false,.slice none 0 0,.bool false] 28) none
     have lohGl : w.heap.size ≤ tw9.heap.size:=hG.size
     have lohXl : w6.heap.size ≤ tw9.heap.size:=hX.size
     have lta1l : aw1 < tw9.heap.size:=g_ Ba1
     have Bl_:=f_ tw9 (.cells #[.slice none 0 0,.bool false,.slice none 0 0,.bool false] 28) tw9.heap.size rfl
     replace Ba1:=a_ gA Ba1
     replace qa1:=qa1.kept gA
     replace jf:=jf.kept gA
     replace qf:=qf.kept gA
     replace hG:=d_ hG gA
     replace hX:=d_ hX gA
     clear gA
     go_simp
     generalize (tw9.alloc (.cells #[.slice none 0 0,.bool false,.slice none 0 0,.bool false] 28)) = tw10 at *
     generalize tw9.heap.size = pl at *
     have Bl:=Bl_
     clear Bl_
     refine hKQ.out _ _ (by exact ⟨(b_ Ba1).1,(b_ Ba1).2.1,(b_ Ba1).2.2.1,(b_ Ba1).2.2.2.1⟩) (fun hHeld=>?_)
     clear hKQ KQ
     try simp only [ly_]
     refine wpAnyH_ready (rs:=[4,6]) (by kernel_rfl) (by simp) ?_
     refine AllReadyH.cons rfl (fun KQ hKQ=>?_) (AllReadyH.cons rfl (fun KQ hKQ=>?_) AllReadyH.nil)
     focus
      go_simp
      go_at_call 44
      refine (E_ tw10 _ A1 5 qa1 (by omega) L1.out.1 L1.out.2).mono ?_
      rintro e tw11 ⟨vn,rfl,jn,gtw11⟩
      rw [HF.out.2.1] at jn
      replace Ba1:=a_ gtw11 Ba1
      replace Bl:=a_ gtw11 Bl
      replace qa1:=qa1.kept gtw11
      replace jf:=jf.kept gtw11
      replace qf:=qf.kept gtw11
      replace hG:=d_ hG gtw11
      replace hX:=d_ hX gtw11
      clear gtw11
      (try go_wp2_with fail)
      refine hKQ.out _ _ (by exact ⟨(b_ Ba1).1,(b_ Ba1).2.1,(b_ Ba1).2.2.1,(b_ Ba1).2.2.2.1⟩) (fun hHeld=>?_)
      clear hKQ KQ
      try simp only [ly_]
      refine wpAnyH_ready (rs:=[5,6]) (by kernel_rfl) (by simp) ?_
      refine AllReadyH.cons rfl (fun KQ hKQ=>?_) (AllReadyH.cons rfl (fun KQ hKQ=>?_) AllReadyH.nil)
      focus
       go_simp
       go_at_call 25
       refine (p_ tw11 _ N9 6 jn (by omega) HF.out.2.2.2).mono ?_
       rintro e tw12 ⟨_,rfl,⟨sn,xn,bn,sn',xn',bn',rfl,hn,hn'⟩,gtw12⟩
       have qn : RatV tw12 (.agg #[.slice sn xn.length xn.length,.bool bn,.slice sn' xn'.length xn'.length,.bool bn']) ((N9 : Rat)):=⟨sn,xn,bn,sn',xn',bn',rfl,hn,hn'⟩
       replace Ba1:=a_ gtw12 Ba1
       replace Bl:=a_ gtw12 Bl
       replace qa1:=qa1.kept gtw12
       replace jf:=jf.kept gtw12
       replace qf:=qf.kept gtw12
       replace jn:=jn.kept gtw12
       replace hG:=d_ hG gtw12
       replace hX:=d_ hX gtw12
       clear gtw12
       clear hn hn'
       (try go_wp2_with fail)
       refine hKQ.out _ _ (by exact ⟨(b_ Ba1).1,(b_ Ba1).2.1,(b_ Ba1).2.2.1,(b_ Ba1).2.2.2.1⟩) (fun hHeld=>?_)
       clear hKQ KQ
       try simp only [ly_]
       refine o1_ 6 rfl (fun KQ hKQ=>?_)
       have gA:=wg_ tw12 (.cells #[.slice none 0 0,.bool false,.slice none 0 0,.bool false] 28) none
       have lohGk : w.heap.size ≤ tw12.heap.size:=hG.size
       have lohXk : w6.heap.size ≤ tw12.heap.size:=hX.size
       have lta1k : aw1 < tw12.heap.size:=g_ Ba1
       have ltlk : pl < tw12.heap.size:=g_ Bl
       have Bk_:=f_ tw12 (.cells #[.slice none 0 0,.bool false,.slice none 0 0,.bool false] 28) tw12.heap.size rfl
       replace Ba1:=a_ gA Ba1
       replace Bl:=a_ gA Bl
       replace qa1:=qa1.kept gA
       replace jf:=jf.kept gA
       replace qf:=qf.kept gA
       replace jn:=jn.kept gA
       replace qn:=qn.kept gA
       replace hG:=d_ hG gA
       replace hX:=d_ hX gA
       clear gA
       go_simp
       generalize (tw12.alloc (.cells #[.slice none 0 0,.bool false,.slice none 0 0,.bool false] 28)) = tw13 at *
       generalize tw12.heap.size = pk at *
       have Bk:=Bk_
       clear Bk_
       refine hKQ.out _ _ (by exact ⟨(b_ Ba1).1,(b_ Ba1).2.1,(b_ Ba1).2.2.1,(b_ Ba1).2.2.2.1⟩) (fun hHeld=>?_)
       clear hKQ KQ
       try simp only [ly_]
      rotate_left 1
      focus
       have gA:=wg_ tw11 (.cells #[.slice none 0 0,.bool false,.slice none 0 0,.bool false] 28) none
       have lohGk : w.heap.size ≤ tw11.heap.size:=hG.size
       have lohXk : w6.heap.size ≤ tw11.heap.size:=hX.size
       have lta1k : aw1 < tw11.heap.size:=g_ Ba1
       have ltlk : pl < tw11.heap.size:=g_ Bl
       have Bk_:=f_ tw11 (.cells #[.slice none 0 0,.bool false,.slice none 0 0,.bool false] 28) tw11.heap.size rfl
       replace Ba1:=a_ gA Ba1
       replace Bl:=a_ gA Bl
       replace qa1:=qa1.kept gA
       replace jf:=jf.kept gA
       replace qf:=qf.kept gA
       replace jn:=jn.kept gA
       replace hG:=d_ hG gA
       replace hX:=d_ hX gA
       clear gA
       go_simp
       generalize (tw11.alloc (.cells #[.slice none 0 0,.bool false,.slice none 0 0,.bool false] 28)) = tw12 at *
       generalize tw11.heap.size = pk at *
       have Bk:=Bk_
       clear Bk_
       refine hKQ.out _ _ (by exact ⟨(b_ Ba1).1,(b_ Ba1).2.1,(b_ Ba1).2.2.1,(b_ Ba1).2.2.2.1⟩) (fun hHeld=>?_)
       clear hKQ KQ
       try simp only [ly_]
       refine o1_ 5 rfl (fun KQ hKQ=>?_)
       go_simp
       go_at_call 25
       refine (p_ tw12 _ N9 6 jn (by omega) HF.out.2.2.2).mono ?_
       rintro e tw13 ⟨_,rfl,⟨sn,xn,bn,sn',xn',bn',rfl,hn,hn'⟩,gtw13⟩
       have qn : RatV tw13 (.agg #[.slice sn xn.length xn.length,.bool bn,.slice sn' xn'.length xn'.length,.bool bn']) ((N9 : Rat)):=⟨sn,xn,bn,sn',xn',bn',rfl,hn,hn'⟩
       replace Ba1:=a_ gtw13 Ba1
       replace Bl:=a_ gtw13 Bl
       replace Bk:=a_ gtw13 Bk
       replace qa1:=qa1.kept gtw13
       replace jf:=jf.kept gtw13
       replace qf:=qf.kept gtw13
       replace jn:=jn.kept gtw13
       replace hG:=d_ hG gtw13
       replace hX:=d_ hX gtw13
       clear gtw13
       clear hn hn'
       (try go_wp2_with fail)
       refine hKQ.out _ _ (by exact ⟨(b_ Ba1).1,(b_ Ba1).2.1,(b_ Ba1).2.2.1,(b_ Ba1).2.2.2.1⟩) (fun hHeld=>?_)
       clear hKQ KQ
       try simp only [ly_]
      rotate_left 1
     rotate_left 2
     focus
      have gA:=wg_ tw10 (.cells #[.slice none 0 0,.bool false,.slice none 0 0,.bool false] 28) none
      have lohGk : w.heap.size ≤ tw10.heap.size:=hG.size
      have lohXk : w6.heap.size ≤ tw10.heap.size:=hX.size
      have lta1k : aw1 < tw10.heap.size:=g_ Ba1
      have ltlk : pl < tw10.heap.size:=g_ Bl
      have Bk_:=f_ tw10 (.cells #[.slice none 0 0,.bool false,.slice none 0 0,.bool false] 28) tw10.heap.size rfl
      replace Ba1:=a_ gA Ba1
      replace Bl:=a_ gA Bl
      replace qa1:=qa1.kept gA
      replace jf:=jf.kept gA
      replace qf:=qf.kept gA
      replace hG:=d_ hG gA
      replace hX:=d_ hX gA
      clear gA
      go_simp
      generalize (tw10.alloc (.cells #[.slice none 0 0,.bool false,.slice none 0 0,.bool false] 28)) = tw11 at *
      generalize tw10.heap.size = pk at *
      have Bk:=Bk_
      clear Bk_
      refine hKQ.out _ _ (by exact ⟨(b_ Ba1).1,(b_ Ba1).2.1,(b_ Ba1).2.2.1,(b_ Ba1).2.2.2.1⟩) (fun hHeld=>?_)
      clear hKQ KQ
      try simp only [ly_]
      refine o1_ 4 rfl (fun KQ hKQ=>?_)
      go_simp
      go_at_call 44
      refine (E_ tw11 _ A1 5 qa1 (by omega) L1.out.1 L1.out.2).mono ?_
      rintro e tw12 ⟨vn,rfl,jn,gtw12⟩
      rw [HF.out.2.1] at jn
      replace Ba1:=a_ gtw12 Ba1
      replace Bl:=a_ gtw12 Bl
      replace Bk:=a_ gtw12 Bk
      replace qa1:=qa1.kept gtw12
      replace jf:=jf.kept gtw12
      replace qf:=qf.kept gtw12
      replace hG:=d_ hG gtw12
      replace hX:=d_ hX gtw12
      clear gtw12
      (try go_wp2_with fail)
      refine hKQ.out _ _ (by exact ⟨(b_ Ba1).1,(b_ Ba1).2.1,(b_ Ba1).2.2.1,(b_ Ba1).2.2.2.1⟩) (fun hHeld=>?_)
      clear hKQ KQ
      try simp only [ly_]
      refine o1_ 5 rfl (fun KQ hKQ=>?_)
      go_simp
      go_at_call 25
      refine (p_ tw12 _ N9 6 jn (by omega) HF.out.2.2.2).mono ?_
      rintro e tw13 ⟨_,rfl,⟨sn,xn,bn,sn',xn',bn',rfl,hn,hn'⟩,gtw13⟩
      have qn : RatV tw13 (.agg #[.slice sn xn.length xn.length,.bool bn,.slice sn' xn'.length xn'.length,.bool bn']) ((N9 : Rat)):=⟨sn,xn,bn,sn',xn',bn',rfl,hn,hn'⟩
      replace Ba1:=a_ gtw13 Ba1
      replace Bl:=a_ gtw13 Bl
      replace Bk:=a_ gtw13 Bk
      replace qa1:=qa1.kept gtw13
      replace jf:=jf.kept gtw13
      replace qf:=qf.kept gtw13
      replace jn:=jn.kept gtw13
      replace hG:=d_ hG gtw13
      replace hX:=d_ hX gtw13
      clear gtw13
      clear hn hn'
      (try go_wp2_with fail)
      refine hKQ.out _ _ (by exact ⟨(b_ Ba1).1,(b_ Ba1).2.1,(b_ Ba1).2.2.1,(b_ Ba1).2.2.2.1⟩) (fun hHeld=>?_)
      clear hKQ KQ
      try simp only [ly_]
     rotate_left 1
    rotate_left 3
   rotate_left 12
   focus
    have gA:=wg_ tw8 (.cells #[.slice none 0 0,.bool false,.slice none 0 0,.bool false] 28) none
    have lohGk : w.heap.size ≤ tw8.heap.size:=hG.size
    have lohXk : w6.heap.size ≤ tw8.heap.size:=hX.size
    have lta1k : aw1 < tw8.heap.size:=g_ Ba1
    have Bk_:=f_ tw8 (.cells #[.slice none 0 0,.bool false,.slice none 0 0,.bool false] 28) tw8.heap.size rfl
    replace Ba1:=a_ gA Ba1
    replace qa1:=qa1.kept gA
    replace jf:=jf.kept gA
    replace hG:=d_ hG gA
    replace hX:=d_ hX gA
    clear gA
    go_simp
    generalize (tw8.alloc (.cells #[.slice none 0 0,.bool false,.slice none 0 0,.bool false] 28)) = tw9 at *
    generalize tw8.heap.size = pk at *
    have Bk:=Bk_
    clear Bk_
    refine hKQ.out _ _ (by exact ⟨(b_ Ba1).1,(b_ Ba1).2.1,(b_ Ba1).2.2.1,(b_ Ba1).2.2.2.1⟩) (fun hHeld=>?_)
    clear hKQ KQ
    try simp only [ly_]
    refine wpAnyH_ready (rs:=[2,7]) (by kernel_rfl) (by simp) ?_
    refine AllReadyH.cons rfl (fun KQ hKQ=>?_) (AllReadyH.cons rfl (fun KQ hKQ=>?_) AllReadyH.nil)
    focus
     go_simp
     go_at_call 25
     refine (p_ tw9 _ F9 5 jf (by omega) HF.out.2.2.1).mono ?_
     rintro e tw10 ⟨_,rfl,⟨sf,xf,bf,sf',xf',bf',rfl,hf,hf'⟩,gtw10⟩
     have qf : RatV tw10 (.agg #[.slice sf xf.length xf.length,.bool bf,.slice sf' xf'.length xf'.length,.bool bf']) ((F9 : Rat)):=⟨sf,xf,bf,sf',xf',bf',rfl,hf,hf'⟩
     replace Ba1:=a_ gtw10 Ba1
     replace Bk:=a_ gtw10 Bk
     replace qa1:=qa1.kept gtw10
     replace jf:=jf.kept gtw10
     replace hG:=d_ hG gtw10
     replace hX:=d_ hX gtw10
     clear gtw10
     clear hf hf'
     (try go_wp2_with fail)
     refine hKQ.out _ _ (by exact ⟨(b_ Ba1).1,(b_ Ba1).2.1,(b_ Ba1).2.2.1,(b_ Ba1).2.2.2.1⟩) (fun hHeld=>?_)
     clear hKQ KQ
     try simp only [ly_]
     refine wpAnyH_ready (rs:=[4,7]) (by kernel_rfl) (by simp) ?_
     refine AllReadyH.cons rfl (fun KQ hKQ=>?_) (AllReadyH.cons rfl (fun KQ hKQ=>?_) AllReadyH.nil)
     focus
      go_simp
      go_at_call 44
      refine (E_ tw10 _ A1 5 qa1 (by omega) L1.out.1 L1.out.2).mono ?_
      rintro e tw11 ⟨vn,rfl,jn,gtw11⟩
      rw [HF.out.2.1] at jn
      replace Ba1:=a_ gtw11 Ba1
      replace Bk:=a_ gtw11 Bk
      replace qa1:=qa1.kept gtw11
      replace jf:=jf.kept gtw11
      replace qf:=qf.kept gtw11
      replace hG:=d_ hG gtw11
      replace hX:=d_ hX gtw11
      clear gtw11
      (try go_wp2_with fail)
      refine hKQ.out _ _ (by exact ⟨(b_ Ba1).1,(b_ Ba1).2.1,(b_ Ba1).2.2.1,(b_ Ba1).2.2.2.1⟩) (fun hHeld=>?_)
      clear hKQ KQ
      try simp only [ly_]
      refine wpAnyH_ready (rs:=[5,7]) (by kernel_rfl) (by simp) ?_
      refine AllReadyH.cons rfl (fun KQ hKQ=>?_) (AllReadyH.cons rfl (fun KQ hKQ=>?_) AllReadyH.nil)
      focus
       go_simp
       go_at_call 25
       refine (p_ tw11 _ N9 6 jn (by omega) HF.out.2.2.2).mono ?_
       rintro e tw12 ⟨_,rfl,⟨sn,xn,bn,sn',xn',bn',rfl,hn,hn'⟩,gtw12⟩
       have qn : RatV tw12 (.agg #[.slice sn xn.length xn.length,.bool bn,.slice sn' xn'.length xn'.length,.bool bn']) ((N9 : Rat)):=⟨sn,xn,bn,sn',xn',bn',rfl,hn,hn'⟩
       replace Ba1:=a_ gtw12 Ba1
       replace Bk:=a_ gtw12 Bk
       replace qa1:=qa1.kept gtw12
       replace jf:=jf.kept gtw12
       replace qf:=qf.kept gtw12
       replace jn:=jn.kept gtw12
       replace hG:=d_ hG gtw12
       replace hX:=d_ hX gtw12
       clear gtw12
       clear hn hn'
       (try go_wp2_with fail)
       refine hKQ.out _ _ (by exact ⟨(b_ Ba1).1,(b_ Ba1).2.1,(b_ Ba1).2.2.1,(b_ Ba1).2.2.2.1⟩) (fun hHeld=>?_)
       clear hKQ KQ
       try simp only [ly_]
       refine o1_ 7 rfl (fun KQ hKQ=>?_)
       have gA:=wg_ tw12 (.cells #[.slice none 0 0,.bool false,.slice none 0 0,.bool false] 28) none
       have lohGl : w.heap.size ≤ tw12.heap.size:=hG.size
       have lohXl : w6.heap.size ≤ tw12.heap.size:=hX.size
       have lta1l : aw1 < tw12.heap.size:=g_ Ba1
       have ltkl : pk < tw12.heap.size:=g_ Bk
       have Bl_:=f_ tw12 (.cells #[.slice none 0 0,.bool false,.slice none 0 0,.bool false] 28) tw12.heap.size rfl
       replace Ba1:=a_ gA Ba1
       replace Bk:=a_ gA Bk
       replace qa1:=qa1.kept gA
       replace jf:=jf.kept gA
       replace qf:=qf.kept gA
       replace jn:=jn.kept gA
       replace qn:=qn.kept gA
       replace hG:=d_ hG gA
       replace hX:=d_ hX gA
       clear gA
       go_simp
       generalize (tw12.alloc (.cells #[.slice none 0 0,.bool false,.slice none 0 0,.bool false] 28)) = tw13 at *
       generalize tw12.heap.size = pl at *
       have Bl:=Bl_
       clear Bl_
       refine hKQ.out _ _ (by exact ⟨(b_ Ba1).1,(b_ Ba1).2.1,(b_ Ba1).2.2.1,(b_ Ba1).2.2.2.1⟩) (fun hHeld=>?_)
       clear hKQ KQ
       try simp only [ly_]
      rotate_left 1
      focus
       have gA:=wg_ tw11 (.cells #[.slice none 0 0,.bool false,.slice none 0 0,.bool false] 28) none
       have lohGl : w.heap.size ≤ tw11.heap.size:=hG.size
       have lohXl : w6.heap.size ≤ tw11.heap.size:=hX.size
       have lta1l : aw1 < tw11.heap.size:=g_ Ba1
       have ltkl : pk < tw11.heap.size:=g_ Bk
       have Bl_:=f_ tw11 (.cells #[.slice none 0 0,.bool false,.slice none 0 0,.bool false] 28) tw11.heap.size rfl
       replace Ba1:=a_ gA Ba1
       replace Bk:=a_ gA Bk
       replace qa1:=qa1.kept gA
       replace jf:=jf.kept gA
       replace qf:=qf.kept gA
       replace jn:=jn.kept gA
       replace hG:=d_ hG gA
       replace hX:=d_ hX gA
       clear gA
       go_simp
       generalize (tw11.alloc (.cells #[.slice none 0 0,.bool false,.slice none 0 0,.bool false] 28)) = tw12 at *
       generalize tw11.heap.size = pl at *
       have Bl:=Bl_
       clear Bl_
       refine hKQ.out _ _ (by exact ⟨(b_ Ba1).1,(b_ Ba1).2.1,(b_ Ba1).2.2.1,(b_ Ba1).2.2.2.1⟩) (fun hHeld=>?_)
       clear hKQ KQ
       try simp only [ly_]
       refine o1_ 5 rfl (fun KQ hKQ=>?_)
       go_simp
       go_at_call 25
       refine (p_ tw12 _ N9 6 jn (by omega) HF.out.2.2.2).mono ?_
       rintro e tw13 ⟨_,rfl,⟨sn,xn,bn,sn',xn',bn',rfl,hn,hn'⟩,gtw13⟩
       have qn : RatV tw13 (.agg #[.slice sn xn.length xn.length,.bool bn,.slice sn' xn'.length xn'.length,.bool bn']) ((N9 : Rat)):=⟨sn,xn,bn,sn',xn',bn',rfl,hn,hn'⟩
       replace Ba1:=a_ gtw13 Ba1
       replace Bk:=a_ gtw13 Bk
       replace Bl:=a_ gtw13 Bl
       replace qa1:=qa1.kept gtw13
       replace jf:=jf.kept gtw13
       replace qf:=qf.kept gtw13
       replace jn:=jn.kept gtw13
       replace hG:=d_ hG gtw13
       replace hX:=d_ hX gtw13
       clear gtw13
       clear hn hn'
       (try go_wp2_with fail)
       refine hKQ.out _ _ (by exact ⟨(b_ Ba1).1,(b_ Ba1).2.1,(b_ Ba1).2.2.1,(b_ Ba1).2.2.2.1⟩) (fun hHeld=>?_)
       clear hKQ KQ
       try simp only [ly_]
      rotate_left 1
     rotate_left 2
     focus
      have gA:=wg_ tw10 (.cells #[.slice none 0 0,.bool false,.slice none 0 0,.bool false] 28) none
      have lohGl : w.heap.size ≤ tw10.heap.size:=hG.size
      have lohXl : w6.heap.size ≤ tw10.heap.size:=hX.size
      have lta1l : aw1 < tw10.heap.size:=g_ Ba1
      have ltkl : pk < tw10.heap.size:=g_ Bk
      have Bl_:=f_ tw10 (.cells #[.slice none 0 0,.bool false,.slice none 0 0,.bool false] 28) tw10.heap.size rfl
      replace Ba1:=a_ gA Ba1
      replace Bk:=a_ gA Bk
      replace qa1:=qa1.kept gA
      replace jf:=jf.kept gA
      replace qf:=qf.kept gA
      replace hG:=d_ hG gA
      replace hX:=d_ hX gA
      clear gA
      go_simp
      generalize (tw10.alloc (.cells #[.slice none 0 0,.bool false,.slice none 0 0,.bool false] 28)) = tw11 at *
      generalize tw10.heap.size = pl at *
      have Bl:=Bl_
      clear Bl_
      refine hKQ.out _ _ (by exact ⟨(b_ Ba1).1,(b_ Ba1).2.1,(b_ Ba1).2.2.1,(b_ Ba1).2.2.2.1⟩) (fun hHeld=>?_)
      clear hKQ KQ
      try simp only [ly_]
      refine o1_ 4 rfl (fun KQ hKQ=>?_)
      go_simp
      go_at_call 44
      refine (E_ tw11 _ A1 5 qa1 (by omega) L1.out.1 L1.out.2).mono ?_
      rintro e tw12 ⟨vn,rfl,jn,gtw12⟩
      rw [HF.out.2.1] at jn
      replace Ba1:=a_ gtw12 Ba1
      replace Bk:=a_ gtw12 Bk
      replace Bl:=a_ gtw12 Bl
      replace qa1:=qa1.kept gtw12
      replace jf:=jf.kept gtw12
      replace qf:=qf.kept gtw12
      replace hG:=d_ hG gtw12
      replace hX:=d_ hX gtw12
      clear gtw12
      (try go_wp2_with fail)
      refine hKQ.out _ _ (by exact ⟨(b_ Ba1).1,(b_ Ba1).2.1,(b_ Ba1).2.2.1,(b_ Ba1).2.2.2.1⟩) (fun hHeld=>?_)
      clear hKQ KQ
      try simp only [ly_]
      refine o1_ 5 rfl (fun KQ hKQ=>?_)
      go_simp
      go_at_call 25
      refine (p_ tw12 _ N9 6 jn (by omega) HF.out.2.2.2).mono ?_
      rintro e tw13 ⟨_,rfl,⟨sn,xn,bn,sn',xn',bn',rfl,hn,hn'⟩,gtw13⟩
      have qn : RatV tw13 (.agg #[.slice sn xn.length xn.length,.bool bn,.slice sn' xn'.length xn'.length,.bool bn']) ((N9 : Rat)):=⟨sn,xn,bn,sn',xn',bn',rfl,hn,hn'⟩
      replace Ba1:=a_ gtw13 Ba1
      replace Bk:=a_ gtw13 Bk
      replace Bl:=a_ gtw13 Bl
      replace qa1:=qa1.kept gtw13
      replace jf:=jf.kept gtw13
      replace qf:=qf.kept gtw13
      replace jn:=jn.kept gtw13
      replace hG:=d_ hG gtw13
      replace hX:=d_ hX gtw13
      clear gtw13
      clear hn hn'
      (try go_wp2_with fail)
      refine hKQ.out _ _ (by exact ⟨(b_ Ba1).1,(b_ Ba1).2.1,(b_ Ba1).2.2.1,(b_ Ba1).2.2.2.1⟩) (fun hHeld=>?_)
      clear hKQ KQ
      try simp only [ly_]
     rotate_left 1
    rotate_left 3
    focus
     have gA:=wg_ tw9 (.cells #[.slice none 0 0,.bool false,.slice none 0 0,.bool false] 28) none
     have lohGl : w.heap.size ≤ tw9.heap.size:=hG.size
     have lohXl : w6.heap.size ≤ tw9.heap.size:=hX.size
     have lta1l : aw1 < tw9.heap.size:=g_ Ba1
     have ltkl : pk < tw9.heap.size:=g_ Bk
     have Bl_:=f_ tw9 (.cells #[.slice none 0 0,.bool false,.slice none 0 0,.bool false] 28) tw9.heap.size rfl
     replace Ba1:=a_ gA Ba1
     replace Bk:=a_ gA Bk
     replace qa1:=qa1.kept gA
     replace jf:=jf.kept gA
     replace hG:=d_ hG gA
     replace hX:=d_ hX gA
     clear gA
     go_simp
     generalize (tw9.alloc (.cells #[.slice none 0 0,.bool false,.slice none 0 0,.bool false] 28)) = tw10 at *
     generalize tw9.heap.size = pl at *
     have Bl:=Bl_
     clear Bl_
     refine hKQ.out _ _ (by exact ⟨(b_ Ba1).1,(b_ Ba1).2.1,(b_ Ba1).2.2.1,(b_ Ba1).2.2.2.1⟩) (fun hHeld=>?_)
     clear hKQ KQ
     try simp only [ly_]
     refine o1_ 2 rfl (fun KQ hKQ=>?_)
     go_simp
     go_at_call 25
     refine (p_ tw10 _ F9 5 jf (by omega) HF.out.2.2.1).mono ?_
     rintro e tw11 ⟨_,rfl,⟨sf,xf,bf,sf',xf',bf',rfl,hf,hf'⟩,gtw11⟩
     have qf : RatV tw11 (.agg #[.slice sf xf.length xf.length,.bool bf,.slice sf' xf'.length xf'.length,.bool bf']) ((F9 : Rat)):=⟨sf,xf,bf,sf',xf',bf',rfl,hf,hf'⟩
     replace Ba1:=a_ gtw11 Ba1
     replace Bk:=a_ gtw11 Bk
     replace Bl:=a_ gtw11 Bl
     replace qa1:=qa1.kept gtw11
     replace jf:=jf.kept gtw11
     replace hG:=d_ hG gtw11
     replace hX:=d_ hX gtw11
     clear gtw11
     clear hf hf'
     (try go_wp2_with fail)
     refine hKQ.out _ _ (by exact ⟨(b_ Ba1).1,(b_ Ba1).2.1,(b_ Ba1).2.2.1,(b_ Ba1).2.2.2.1⟩) (fun hHeld=>?_)
     clear hKQ KQ
     try simp only [ly_]
     refine o1_ 4 rfl (fun KQ hKQ=>?_)
     go_simp
     go_at_call 44
     refine (E_ tw11 _ A1 5 qa1 (by omega) L1.out.1 L1.out.2).mono ?_
     rintro e tw12 ⟨vn,rfl,jn,gtw12⟩
     rw [HF.out.2.1] at jn
     replace Ba1:=a_ gtw12 Ba1
     replace Bk:=a_ gtw12 Bk
     replace Bl:=a_ gtw12 Bl
     replace qa1:=qa1.kept gtw12
     replace jf:=jf.kept gtw12
     replace qf:=qf.kept gtw12
     replace hG:=d_ hG gtw12
     replace hX:=d_ hX gtw12
     clear gtw12
     (try go_wp2_with fail)
     refine hKQ.out _ _ (by exact ⟨(b_ Ba1).1,(b_ Ba1).2.1,(b_ Ba1).2.2.1,(b_ Ba1).2.2.2.1⟩) (fun hHeld=>?_)
     clear hKQ KQ
     try simp only [ly_]
     refine o1_ 5 rfl (fun KQ hKQ=>?_)
     go_simp
     go_at_call 25
     refine (p_ tw12 _ N9 6 jn (by omega) HF.out.2.2.2).mono ?_
     rintro e tw13 ⟨_,rfl,⟨sn,xn,bn,sn',xn',bn',rfl,hn,hn'⟩,gtw13⟩
     have qn : RatV tw13 (.agg #[.slice sn xn.length xn.length,.bool bn,.slice sn' xn'.length xn'.length,.bool bn']) ((N9 : Rat)):=⟨sn,xn,bn,sn',xn',bn',rfl,hn,hn'⟩
     replace Ba1:=a_ gtw13 Ba1
     replace Bk:=a_ gtw13 Bk
     replace Bl:=a_ gtw13 Bl
     replace qa1:=qa1.kept gtw13
     replace jf:=jf.kept gtw13
     replace qf:=qf.kept gtw13
     replace jn:=jn.kept gtw13
     replace hG:=d_ hG gtw13
     replace hX:=d_ hX gtw13
     clear gtw13
     clear hn hn'
     (try go_wp2_with fail)
     refine hKQ.out _ _ (by exact ⟨(b_ Ba1).1,(b_ Ba1).2.1,(b_ Ba1).2.2.1,(b_ Ba1).2.2.2.1⟩) (fun hHeld=>?_)
     clear hKQ KQ
     try simp only [ly_]
    rotate_left 1
   rotate_left 4
   focus
    have gA:=wg_ tw8 (.cells #[.slice none 0 0,.bool false,.slice none 0 0,.bool false] 28) none
    have lohGl : w.heap.size ≤ tw8.heap.size:=hG.size
    have lohXl : w6.heap.size ≤ tw8.heap.size:=hX.size
    have lta1l : aw1 < tw8.heap.size:=g_ Ba1
    have Bl_:=f_ tw8 (.cells #[.slice none 0 0,.bool false,.slice none 0 0,.bool false] 28) tw8.heap.size rfl
    replace Ba1:=a_ gA Ba1
    replace qa1:=qa1.kept gA
    replace jf:=jf.kept gA
    replace hG:=d_ hG gA
    replace hX:=d_ hX gA
    clear gA
    go_simp
    generalize (tw8.alloc (.cells #[.slice none 0 0,.bool false,.slice none 0 0,.bool false] 28)) = tw9 at *
    generalize tw8.heap.size = pl at *
    have Bl:=Bl_
    clear Bl_
    refine hKQ.out _ _ (by exact ⟨(b_ Ba1).1,(b_ Ba1).2.1,(b_ Ba1).2.2.1,(b_ Ba1).2.2.2.1⟩) (fun hHeld=>?_)
    clear hKQ KQ
    try simp only [ly_]
    refine wpAnyH_ready (rs:=[2,6]) (by kernel_rfl) (by simp) ?_
    refine AllReadyH.cons rfl (fun KQ hKQ=>?_) (AllReadyH.cons rfl (fun KQ hKQ=>?_) AllReadyH.nil)
    focus
     go_simp
     go_at_call 25
     refine (p_ tw9 _ F9 5 jf (by omega) HF.out.2.2.1).mono ?_
     rintro e tw10 ⟨_,rfl,⟨sf,xf,bf,sf',xf',bf',rfl,hf,hf'⟩,gtw10⟩
     have qf : RatV tw10 (.agg #[.slice sf xf.length xf.length,.bool bf,.slice sf' xf'.length xf'.length,.bool bf']) ((F9 : Rat)):=⟨sf,xf,bf,sf',xf',bf',rfl,hf,hf'⟩
     replace Ba1:=a_ gtw10 Ba1
     replace Bl:=a_ gtw10 Bl
     replace qa1:=qa1.kept gtw10
     replace jf:=jf.kept gtw10
     replace hG:=d_ hG gtw10
     replace hX:=d_ hX gtw10
     clear gtw10
     clear hf hf'
     (try go_wp2_with fail)
     refine hKQ.out _ _ (by exact ⟨(b_ Ba1).1,(b_ Ba1).2.1,(b_ Ba1).2.2.1,(b_ Ba1).2.2.2.1⟩) (fun hHeld=>?_)
     clear hKQ KQ
     try simp only [ly_]
     refine wpAnyH_ready (rs:=[4,6]) (by kernel_rfl) (by simp) ?_
     refine AllReadyH.cons rfl (fun KQ hKQ=>?_) (AllReadyH.cons rfl (fun KQ hKQ=>?_) AllReadyH.nil)
     focus
      go_simp
      go_at_call 44
      refine (E_ tw10 _ A1 5 qa1 (by omega) L1.out.1 L1.out.2).mono ?_
      rintro e tw11 ⟨vn,rfl,jn,gtw11⟩
      rw [HF.out.2.1] at jn
      replace Ba1:=a_ gtw11 Ba1
      replace Bl:=a_ gtw11 Bl
      replace qa1:=qa1.kept gtw11
      replace jf:=jf.kept gtw11
      replace qf:=qf.kept gtw11
      replace hG:=d_ hG gtw11
      replace hX:=d_ hX gtw11
      clear gtw11
      (try go_wp2_with fail)
      refine hKQ.out _ _ (by exact ⟨(b_ Ba1).1,(b_ Ba1).2.1,(b_ Ba1).2.2.1,(b_ Ba1).2.2.2.1⟩) (fun hHeld=>?_)
      clear hKQ KQ
      try simp only [ly_]
      refine wpAnyH_ready (rs:=[5,6]) (by kernel_rfl) (by simp) ?_
      refine AllReadyH.cons rfl (fun KQ hKQ=>?_) (AllReadyH.cons rfl (fun KQ hKQ=>?_) AllReadyH.nil)
      focus
       go_simp
       go_at_call 25
       refine (p_ tw11 _ N9 6 jn (by omega) HF.out.2.2.2).mono ?_
       rintro e tw12 ⟨_,rfl,⟨sn,xn,bn,sn',xn',bn',rfl,hn,hn'⟩,gtw12⟩
       have qn : RatV tw12 (.agg #[.slice sn xn.length xn.length,.bool bn,.slice sn' xn'.length xn'.length,.bool bn']) ((N9 : Rat)):=⟨sn,xn,bn,sn',xn',bn',rfl,hn,hn'⟩
       replace Ba1:=a_ gtw12 Ba1
       replace Bl:=a_ gtw12 Bl
       replace qa1:=qa1.kept gtw12
       replace jf:=jf.kept gtw12
       replace qf:=qf.kept gtw12
       replace jn:=jn.kept gtw12
       replace hG:=d_ hG gtw12
       replace hX:=d_ hX gtw12
       clear gtw12
       clear hn hn'
       (try go_wp2_with fail)
       refine hKQ.out _ _ (by exact ⟨(b_ Ba1).1,(b_ Ba1).2.1,(b_ Ba1).2.2.1,(b_ Ba1).2.2.2.1⟩) (fun hHeld=>?_)
       clear hKQ KQ
       try simp only [ly_]
       refine o1_ 6 rfl (fun KQ hKQ=>?_)
       have gA:=wg_ tw12 (.cells #[.slice none 0 0,.bool false,.slice none 0 0,.bool false] 28) none
       have lohGk : w.heap.size ≤ tw12.heap.size:=hG.size
       have lohXk : w6.heap.size ≤ tw12.heap.size:=hX.size
       have lta1k : aw1 < tw12.heap.size:=g_ Ba1
       have ltlk : pl < tw12.heap.size:=g_ Bl
       have Bk_:=f_ tw12 (.cells #[.slice none 0 0,.bool false,.slice none 0 0,.bool false] 28) tw12.heap.size rfl
       replace Ba1:=a_ gA Ba1
       replace Bl:=a_ gA Bl
       replace qa1:=qa1.kept gA
       replace jf:=jf.kept gA
       replace qf:=qf.kept gA
       replace jn:=jn.kept gA
       replace qn:=qn.kept gA
       replace hG:=d_ hG gA
       replace hX:=d_ hX gA
       clear gA
       go_simp
       generalize (tw12.alloc (.cells #[.slice none 0 0,.bool false,.slice none 0 0,.bool false] 28)) = tw13 at *
       generalize tw12.heap.size = pk at *
       have Bk:=Bk_
       clear Bk_
       refine hKQ.out _ _ (by exact ⟨(b_ Ba1).1,(b_ Ba1).2.1,(b_ Ba1).2.2.1,(b_ Ba1).2.2.2.1⟩) (fun hHeld=>?_)
       clear hKQ KQ
       try simp only [ly_]
      rotate_left 1
      focus
       have gA:=wg_ tw11 (.cells #[.slice none 0 0,.bool false,.slice none 0 0,.bool false] 28) none
       have lohGk : w.heap.size ≤ tw11.heap.size:=hG.size
       have lohXk : w6.heap.size ≤ tw11.heap.size:=hX.size
       have lta1k : aw1 < tw11.heap.size:=g_ Ba1
       have ltlk : pl < tw11.heap.size:=g_ Bl
       have Bk_:=f_ tw11 (.cells #[.slice none 0 0,.bool false,.slice none 0 0,.bool false] 28) tw11.heap.size rfl
       replace Ba1:=a_ gA Ba1
       replace Bl:=a_ gA Bl
       replace qa1:=qa1.kept gA
       replace jf:=jf.kept gA
       replace qf:=qf.kept gA
       replace jn:=jn.kept gA
       replace hG:=d_ hG gA
       replace hX:=d_ hX gA
       clear gA
       go_simp
       generalize (tw11.alloc (.cells #[.slice none 0 0,.bool false,.slice none 0 0,.bool false] 28)) = tw12 at *
       generalize tw11.heap.size = pk at *
       have Bk:=Bk_
       clear Bk_
       refine hKQ.out _ _ (by exact ⟨(b_ Ba1).1,(b_ Ba1).2.1,(b_ Ba1).2.2.1,(b_ Ba1).2.2.2.1⟩) (fun hHeld=>?_)
       clear hKQ KQ
       try simp only [ly_]
       refine o1_ 5 rfl (fun KQ hKQ=>?_)
       go_simp
       go_at_call 25
       refine (p_ tw12 _ N9 6 jn (by omega) HF.out.2.2.2).mono ?_
       rintro e tw13 ⟨_,rfl,⟨sn,xn,bn,sn',xn',bn',rfl,hn,hn'⟩,gtw13⟩
       have qn : RatV tw13 (.agg #[.slice sn xn.length xn.length,.bool bn,.slice sn' xn'.length xn'.length,.bool bn']) ((N9 : Rat)):=⟨sn,xn,bn,sn',xn',bn',rfl,hn,hn'⟩
       replace Ba1:=a_ gtw13 Ba1
       replace Bl:=a_ gtw13 Bl
       replace Bk:=a_ gtw13 Bk
       replace qa1:=qa1.kept gtw13
       replace jf:=jf.kept gtw13
       replace qf:=qf.kept gtw13
       replace jn:=jn.kept gtw13
       replace hG:=d_ hG gtw13
       replace hX:=d_ hX gtw13
       clear gtw13
       clear hn hn'
       (try go_wp2_with fail)
       refine hKQ.out _ _ (by exact ⟨(b_ Ba1).1,(b_ Ba1).2.1,(b_ Ba1).2.2.1,(b_ Ba1).2.2.2.1⟩) (fun hHeld=>?_)
       clear hKQ KQ
       try simp only [ly_]
      rotate_left 1
     rotate_left 2
     focus
      have gA:=wg_ tw10 (.cells #[.slice none 0 0,.bool false,.slice none 0 0,.bool false] 28) none
      have lohGk : w.heap.size ≤ tw10.heap.size:=hG.size
      have lohXk : w6.heap.size ≤ tw10.heap.size:=hX.size
      have lta1k : aw1 < tw10.heap.size:=g_ Ba1
      have ltlk : pl < tw10.heap.size:=g_ Bl
      have Bk_:=f_ tw10 (.cells #[.slice none 0 0,.bool false,.slice none 0 0,.bool false] 28) tw10.heap.size rfl
      replace Ba1:=a_ gA Ba1
      replace Bl:=a_ gA Bl
      replace qa1:=qa1.kept gA
      replace jf:=jf.kept gA
      replace qf:=qf.kept gA
      replace hG:=d_ hG gA
      replace hX:=d_ hX gA
      clear gA
      go_simp
      generalize (tw10.alloc (.cells #[.slice none 0 0,.bool false,.slice none 0 0,.bool false] 28)) = tw11 at *
      generalize tw10.heap.size = pk at *
      have Bk:=Bk_
      clear Bk_
      refine hKQ.out _ _ (by exact ⟨(b_ Ba1).1,(b_ Ba1).2.1,(b_ Ba1).2.2.1,(b_ Ba1).2.2.2.1⟩) (fun hHeld=>?_)
      clear hKQ KQ
      try simp only [ly_]
      refine o1_ 4 rfl (fun KQ hKQ=>?_)
      go_simp
      go_at_call 44
      refine (E_ tw11 _ A1 5 qa1 (by omega) L1.out.1 L1.out.2).mono ?_
      rintro e tw12 ⟨vn,rfl,jn,gtw12⟩
      rw [HF.out.2.1] at jn
      replace Ba1:=a_ gtw12 Ba1
      replace Bl:=a_ gtw12 Bl
      replace Bk:=a_ gtw12 Bk
      replace qa1:=qa1.kept gtw12
      replace jf:=jf.kept gtw12
      replace qf:=qf.kept gtw12
      replace hG:=d_ hG gtw12
      replace hX:=d_ hX gtw12
      clear gtw12
      (try go_wp2_with fail)
      refine hKQ.out _ _ (by exact ⟨(b_ Ba1).1,(b_ Ba1).2.1,(b_ Ba1).2.2.1,(b_ Ba1).2.2.2.1⟩) (fun hHeld=>?_)
      clear hKQ KQ
      try simp only [ly_]
      refine o1_ 5 rfl (fun KQ hKQ=>?_)
      go_simp
      go_at_call 25
      refine (p_ tw12 _ N9 6 jn (by omega) HF.out.2.2.2).mono ?_
      rintro e tw13 ⟨_,rfl,⟨sn,xn,bn,sn',xn',bn',rfl,hn,hn'⟩,gtw13⟩
      have qn : RatV tw13 (.agg #[.slice sn xn.length xn.length,.bool bn,.slice sn' xn'.length xn'.length,.bool bn']) ((N9 : Rat)):=⟨sn,xn,bn,sn',xn',bn',rfl,hn,hn'⟩
      replace Ba1:=a_ gtw13 Ba1
      replace Bl:=a_ gtw13 Bl
      replace Bk:=a_ gtw13 Bk
      replace qa1:=qa1.kept gtw13
      replace jf:=jf.kept gtw13
      replace qf:=qf.kept gtw13
      replace jn:=jn.kept gtw13
      replace hG:=d_ hG gtw13
      replace hX:=d_ hX gtw13
      clear gtw13
      clear hn hn'
      (try go_wp2_with fail)
      refine hKQ.out _ _ (by exact ⟨(b_ Ba1).1,(b_ Ba1).2.1,(b_ Ba1).2.2.1,(b_ Ba1).2.2.2.1⟩) (fun hHeld=>?_)
      clear hKQ KQ
      try simp only [ly_]
     rotate_left 1
    rotate_left 3
    focus
     have gA:=wg_ tw9 (.cells #[.slice none 0 0,.bool false,.slice none 0 0,.bool false] 28) none
     have lohGk : w.heap.size ≤ tw9.heap.size:=hG.size
     have lohXk : w6.heap.size ≤ tw9.heap.size:=hX.size
     have lta1k : aw1 < tw9.heap.size:=g_ Ba1
     have ltlk : pl < tw9.heap.size:=g_ Bl
     have Bk_:=f_ tw9 (.cells #[.slice none 0 0,.bool false,.slice none 0 0,.bool false] 28) tw9.heap.size rfl
     replace Ba1:=a_ gA Ba1
     replace Bl:=a_ gA Bl
     replace qa1:=qa1.kept gA
     replace jf:=jf.kept gA
     replace hG:=d_ hG gA
     replace hX:=d_ hX gA
     clear gA
     go_simp
     generalize (tw9.alloc (.cells #[.slice none 0 0,.bool false,.slice none 0 0,.bool false] 28)) = tw10 at *
     generalize tw9.heap.size = pk at *
     have Bk:=Bk_
     clear Bk_
     refine hKQ.out _ _ (by exact ⟨(b_ Ba1).1,(b_ Ba1).2.1,(b_ Ba1).2.2.1,(b_ Ba1).2.2.2.1⟩) (fun hHeld=>?_)
     clear hKQ KQ
     try simp only [ly_]
     refine o1_ 2 rfl (fun KQ hKQ=>?_)
     go_simp
     go_at_call 25
     refine (p_ tw10 _ F9 5 jf (by omega) HF.out.2.2.1).mono ?_
     rintro e tw11 ⟨_,rfl,⟨sf,xf,bf,sf',xf',bf',rfl,hf,hf'⟩,gtw11⟩
     have qf : RatV tw11 (.agg #[.slice sf xf.length xf.length,.bool bf,.slice sf' xf'.length xf'.length,.bool bf']) ((F9 : Rat)):=⟨sf,xf,bf,sf',xf',bf',rfl,hf,hf'⟩
     replace Ba1:=a_ gtw11 Ba1
     replace Bl:=a_ gtw11 Bl
     replace Bk:=a_ gtw11 Bk
     replace qa1:=qa1.kept gtw11
     replace jf:=jf.kept gtw11
     replace hG:=d_ hG gtw11
     replace hX:=d_ hX gtw11
     clear gtw11
     clear hf hf'
     (try go_wp2_with fail)
     refine hKQ.out _ _ (by exact ⟨(b_ Ba1).1,(b_ Ba1).2.1,(b_ Ba1).2.2.1,(b_ Ba1).2.2.2.1⟩) (fun hHeld=>?_)
     clear hKQ KQ
     try simp only [ly_]
     refine o1_ 4 rfl (fun KQ hKQ=>?_)
     go_simp
     go_at_call 44
     refine (E_ tw11 _ A1 5 qa1 (by omega) L1.out.1 L1.out.2).mono ?_
     rintro e tw12 ⟨vn,rfl,jn,gtw12⟩
     rw [HF.out.2.1] at jn
     replace Ba1:=a_ gtw12 Ba1
     replace Bl:=a_ gtw12 Bl
     replace Bk:=a_ gtw12 Bk
     replace qa1:=qa1.kept gtw12
     replace jf:=jf.kept gtw12
     replace qf:=qf.kept gtw12
     replace hG:=d_ hG gtw12
     replace hX:=d_ hX gtw12
     clear gtw12
     (try go_wp2_with fail)
     refine hKQ.out _ _ (by exact ⟨(b_ Ba1).1,(b_ Ba1).2.1,(b_ Ba1).2.2.1,(b_ Ba1).2.2.2.1⟩) (fun hHeld=>?_)
     clear hKQ KQ
     try simp only [ly_]
     refine o1_ 5 rfl (fun KQ hKQ=>?_)
     go_simp
     go_at_call 25
     refine (p_ tw12 _ N9 6 jn (by omega) HF.out.2.2.2).mono ?_
     rintro e tw13 ⟨_,rfl,⟨sn,xn,bn,sn',xn',bn',rfl,hn,hn'⟩,gtw13⟩
     have qn : RatV tw13 (.agg #[.slice sn xn.length xn.length,.bool bn,.slice sn' xn'.length xn'.length,.bool bn']) ((N9 : Rat)):=⟨sn,xn,bn,sn',xn',bn',rfl,hn,hn'⟩
     replace Ba1:=a_ gtw13 Ba1
     replace Bl:=a_ gtw13 Bl
     replace Bk:=a_ gtw13 Bk
     replace qa1:=qa1.kept gtw13
     replace jf:=jf.kept gtw13
     replace qf:=qf.kept gtw13
     replace jn:=jn.kept gtw13
     replace hG:=d_ hG gtw13
     replace hX:=d_ hX gtw13
     clear gtw13
     clear hn hn'
     (try go_wp2_with fail)
     refine hKQ.out _ _ (by exact ⟨(b_ Ba1).1,(b_ Ba1).2.1,(b_ Ba1).2.2.1,(b_ Ba1).2.2.2.1⟩) (fun hHeld=>?_)
     clear hKQ KQ
     try simp only [ly_]
    rotate_left 1
   rotate_left 4
  rotate_left 20
  focus
   have gA:=wg_ tw7 (.cells #[.slice none 0 0,.bool false,.slice none 0 0,.bool false] 28) none
   have lohGk : w.heap.size ≤ tw7.heap.size:=hG.size
   have lohXk : w6.heap.size ≤ tw7.heap.size:=hX.size
   have lta1k : aw1 < tw7.heap.size:=g_ Ba1
   have Bk_:=f_ tw7 (.cells #[.slice none 0 0,.bool false,.slice none 0 0,.bool false] 28) tw7.heap.size rfl
   replace Ba1:=a_ gA Ba1
   replace qa1:=qa1.kept gA
   replace hG:=d_ hG gA
   replace hX:=d_ hX gA
   clear gA
   go_simp
   generalize (tw7.alloc (.cells #[.slice none 0 0,.bool false,.slice none 0 0,.bool false] 28)) = tw8 at *
   generalize tw7.heap.size = pk at *
   have Bk:=Bk_
   clear Bk_
   refine hKQ.out _ _ (by exact ⟨(b_ Ba1).1,(b_ Ba1).2.1,(b_ Ba1).2.2.1,(b_ Ba1).2.2.2.1⟩) (fun hHeld=>?_)
   clear hKQ KQ
   try simp only [ly_]
   refine wpAnyH_ready (rs:=[1,7]) (by kernel_rfl) (by simp) ?_
   refine AllReadyH.cons rfl (fun KQ hKQ=>?_) (AllReadyH.cons rfl (fun KQ hKQ=>?_) AllReadyH.nil)
   focus
    go_simp
    go_at_call 42
    refine (ax_ tw8 _ A1 5 qa1 (by omega) L1.out.1 L1.out.2).mono ?_
    rintro e tw9 ⟨vf,rfl,jf,gtw9⟩
    rw [HF.out.1] at jf
    replace Ba1:=a_ gtw9 Ba1
    replace Bk:=a_ gtw9 Bk
    replace qa1:=qa1.kept gtw9
    replace hG:=d_ hG gtw9
    replace hX:=d_ hX gtw9
    clear gtw9
    (try go_wp2_with fail)
    refine hKQ.out _ _ (by exact ⟨(b_ Ba1).1,(b_ Ba1).2.1,(b_ Ba1).2.2.1,(b_ Ba1).2.2.2.1⟩) (fun hHeld=>?_)
    clear hKQ KQ
    try simp only [ly_]
    refine wpAnyH_ready (rs:=[2,7]) (by kernel_rfl) (by simp) ?_
    refine AllReadyH.cons rfl (fun KQ hKQ=>?_) (AllReadyH.cons rfl (fun KQ hKQ=>?_) AllReadyH.nil)
    focus
     go_simp
     go_at_call 25
     refine (p_ tw9 _ F9 5 jf (by omega) HF.out.2.2.1).mono ?_
     rintro e tw10 ⟨_,rfl,⟨sf,xf,bf,sf',xf',bf',rfl,hf,hf'⟩,gtw10⟩
     have qf : RatV tw10 (.agg #[.slice sf xf.length xf.length,.bool bf,.slice sf' xf'.length xf'.length,.bool bf']) ((F9 : Rat)):=⟨sf,xf,bf,sf',xf',bf',rfl,hf,hf'⟩
     replace Ba1:=a_ gtw10 Ba1
     replace Bk:=a_ gtw10 Bk
     replace qa1:=qa1.kept gtw10
     replace jf:=jf.kept gtw10
     replace hG:=d_ hG gtw10
     replace hX:=d_ hX gtw10
     clear gtw10
     clear hf hf'
     (try go_wp2_with fail)
     refine hKQ.out _ _ (by exact ⟨(b_ Ba1).1,(b_ Ba1).2.1,(b_ Ba1).2.2.1,(b_ Ba1).2.2.2.1⟩) (fun hHeld=>?_)
     clear hKQ KQ
     try simp only [ly_]
     refine wpAnyH_ready (rs:=[4,7]) (by kernel_rfl) (by simp) ?_
     refine AllReadyH.cons rfl (fun KQ hKQ=>?_) (AllReadyH.cons rfl (fun KQ hKQ=>?_) AllReadyH.nil)
     focus
      go_simp
      go_at_call 44
      refine (E_ tw10 _ A1 5 qa1 (by omega) L1.out.1 L1.out.2).mono ?_
      rintro e tw11 ⟨vn,rfl,jn,gtw11⟩
      rw [HF.out.2.1] at jn
      replace Ba1:=a_ gtw11 Ba1
      replace Bk:=a_ gtw11 Bk
      replace qa1:=qa1.kept gtw11
      replace jf:=jf.kept gtw11
      replace qf:=qf.kept gtw11
      replace hG:=d_ hG gtw11
      replace hX:=d_ hX gtw11
      clear gtw11
      (try go_wp2_with fail)
      refine hKQ.out _ _ (by exact ⟨(b_ Ba1).1,(b_ Ba1).2.1,(b_ Ba1).2.2.1,(b_ Ba1).2.2.2.1⟩) (fun hHeld=>?_)
      clear hKQ KQ
      try simp only [ly_]
      refine wpAnyH_ready (rs:=[5,7]) (by kernel_rfl) (by simp) ?_
      refine AllReadyH.cons rfl (fun KQ hKQ=>?_) (AllReadyH.cons rfl (fun KQ hKQ=>?_) AllReadyH.nil)
      focus
       go_simp
       go_at_call 25
       refine (p_ tw11 _ N9 6 jn (by omega) HF.out.2.2.2).mono ?_
       rintro e tw12 ⟨_,rfl,⟨sn,xn,bn,sn',xn',bn',rfl,hn,hn'⟩,gtw12⟩
       have qn : RatV tw12 (.agg #[.slice sn xn.length xn.length,.bool bn,.slice sn' xn'.length xn'.length,.bool bn']) ((N9 : Rat)):=⟨sn,xn,bn,sn',xn',bn',rfl,hn,hn'⟩
       replace Ba1:=a_ gtw12 Ba1
       replace Bk:=a_ gtw12 Bk
       replace qa1:=qa1.kept gtw12
       replace jf:=jf.kept gtw12
       replace qf:=qf.kept gtw12
       replace jn:=jn.kept gtw12
       replace hG:=d_ hG gtw12
       replace hX:=d_ hX gtw12
       clear gtw12
       clear hn hn'
       (try go_wp2_with fail)
       refine hKQ.out _ _ (by exact ⟨(b_ Ba1).1,(b_ Ba1).2.1,(b_ Ba1).2.2.1,(b_ Ba1).2.2.2.1⟩) (fun hHeld=>?_)
       clear hKQ KQ
       try simp only [ly_]
       refine o1_ 7 rfl (fun KQ hKQ=>?_)
       have gA:=wg_ tw12 (.cells #[.slice none 0 0,.bool false,.slice none 0 0,.bool false] 28) none
       have lohGl : w.heap.size ≤ tw12.heap.size:=hG.size
       have lohXl : w6.heap.size ≤ tw12.heap.size:=hX.size
       have lta1l : aw1 < tw12.heap.size:=g_ Ba1
       have ltkl : pk < tw12.heap.size:=g_ Bk
       have Bl_:=f_ tw12 (.cells #[.slice none 0 0,.bool false,.slice none 0 0,.bool false] 28) tw12.heap.size rfl
       replace Ba1:=a_ gA Ba1
       replace Bk:=a_ gA Bk
       replace qa1:=qa1.kept gA
       replace jf:=jf.kept gA
       replace qf:=qf.kept gA
       replace jn:=jn.kept gA
       replace qn:=qn.kept gA
       replace hG:=d_ hG gA
       replace hX:=d_ hX gA
       clear gA
       go_simp
       generalize (tw12.alloc (.cells #[.slice none 0 0,.bool false,.slice none 0 0,.bool false] 28)) = tw13 at *
       generalize tw12.heap.size = pl at *
       have Bl:=Bl_
       clear Bl_
       refine hKQ.out _ _ (by exact ⟨(b_ Ba1).1,(b_ Ba1).2.1,(b_ Ba1).2.2.1,(b_ Ba1).2.2.2.1⟩) (fun hHeld=>?_)
       clear hKQ KQ
       try simp only [ly_]
      rotate_left 1
      focus
       have gA:=wg_ tw11 (.cells #[.slice none 0 0,.bool false,.slice none 0 0,.bool false] 28) none
       have lohGl : w.heap.size ≤ tw11.heap.size:=hG.size
       have lohXl : w6.heap.size ≤ tw11.heap.size:=hX.size
       have lta1l : aw1 < tw11.heap.size:=g_ Ba1
       have ltkl : pk < tw11.heap.size:=g_ Bk
       have Bl_:=f_ tw11 (.cells #[.slice none 0 0,.bool false,.slice none 0 0,.bool false] 28) tw11.heap.size rfl
       replace Ba1:=a_ gA Ba1
       replace Bk:=a_ gA Bk
       replace qa1:=qa1.kept gA
       replace jf:=jf.kept gA
       replace qf:=qf.kept gA
       replace jn:=jn.kept gA
       replace hG:=d_ hG gA
       replace hX:=d_ hX gA
       clear gA
       go_simp
       generalize (tw11.alloc (.cells #[.slice none 0 0,.bool false,.slice none 0 0,.bool false] 28)) = tw12 at *
       generalize tw11.heap.size = pl at *
       have Bl:=Bl_
       clear Bl_
       refine hKQ.out _ _ (by exact ⟨(b_ Ba1).1,(b_ Ba1).2.1,(b_ Ba1).2.2.1,(b_ Ba1).2.2.2.1⟩) (fun hHeld=>?_)
       clear hKQ KQ
       try simp only [ly_]
       refine o1_ 5 rfl (fun KQ hKQ=>?_)
       go_simp
       go_at_call 25
       refine (p_ tw12 _ N9 6 jn (by omega) HF.out.2.2.2).mono ?_
       rintro e tw13 ⟨_,rfl,⟨sn,xn,bn,sn',xn',bn',rfl,hn,hn'⟩,gtw13⟩
       have qn : RatV tw13 (.agg #[.slice sn xn.length xn.length,.bool bn,.slice sn' xn'.length xn'.length,.bool bn']) ((N9 : Rat)):=⟨sn,xn,bn,sn',xn',bn',rfl,hn,hn'⟩
       replace Ba1:=a_ gtw13 Ba1
       replace Bk:=a_ gtw13 Bk
       replace Bl:=a_ gtw13 Bl
       replace qa1:=qa1.kept gtw13
       replace jf:=jf.kept gtw13
       replace qf:=qf.kept gtw13
       replace jn:=jn.kept gtw13
       replace hG:=d_ hG gtw13
       replace hX:=d_ hX gtw13
       clear gtw13
       clear hn hn'
       (try go_wp2_with fail)
       refine hKQ.out _ _ (by exact ⟨(b_ Ba1).1,(b_ Ba1).2.1,(b_ Ba1).2.2.1,(b_ Ba1).2.2.2.1⟩) (fun hHeld=>?_)
       clear hKQ KQ
       try simp only [ly_]
      rotate_left 1
     rotate_left 2
     focus
      have gA:=wg_ tw10 (.cells #[.slice none 0 0,.bool false,.slice none 0 0,.bool false] 28) none
      have lohGl : w.heap.size ≤ tw10.heap.size:=hG.size
      have lohXl : w6.heap.size ≤ tw10.heap.size:=hX.size
      have lta1l : aw1 < tw10.heap.size:=g_ Ba1
      have ltkl : pk < tw10.heap.size:=g_ Bk
      have Bl_:=f_ tw10 (.cells #[.slice none 0 0,.bool false,.slice none 0 0,.bool false] 28) tw10.heap.size rfl
      replace Ba1:=a_ gA Ba1
      replace Bk:=a_ gA Bk
      replace qa1:=qa1.kept gA
      replace jf:=jf.kept gA
      replace qf:=qf.kept gA
      replace hG:=d_ hG gA
      replace hX:=d_ hX gA
      clear gA
      go_simp
      generalize (tw10.alloc (.cells #[.slice none 0 0,.bool false,.slice none 0 0,.bool false] 28)) = tw11 at *
      generalize tw10.heap.size = pl at *
      have Bl:=Bl_
      clear Bl_
      refine hKQ.out _ _ (by exact ⟨(b_ Ba1).1,(b_ Ba1).2.1,(b_ Ba1).2.2.1,(b_ Ba1).2.2.2.1⟩) (fun hHeld=>?_)
      clear hKQ KQ
      try simp only [ly_]
      refine o1_ 4 rfl (fun KQ hKQ=>?_)
      go_simp
      go_at_call 44
      refine (E_ tw11 _ A1 5 qa1 (by omega) L1.out.1 L1.out.2).mono ?_
      rintro e tw12 ⟨vn,rfl,jn,gtw12⟩
      rw [HF.out.2.1] at jn
      replace Ba1:=a_ gtw12 Ba1
      replace Bk:=a_ gtw12 Bk
      replace Bl:=a_ gtw12 Bl
      replace qa1:=qa1.kept gtw12
      replace jf:=jf.kept gtw12
      replace qf:=qf.kept gtw12
      replace hG:=d_ hG gtw12
      replace hX:=d_ hX gtw12
      clear gtw12
      (try go_wp2_with fail)
      refine hKQ.out _ _ (by exact ⟨(b_ Ba1).1,(b_ Ba1).2.1,(b_ Ba1).2.2.1,(b_ Ba1).2.2.2.1⟩) (fun hHeld=>?_)
      clear hKQ KQ
      try simp only [ly_]
      refine o1_ 5 rfl (fun KQ hKQ=>?_)
      go_simp
      go_at_call 25
      refine (p_ tw12 _ N9 6 jn (by omega) HF.out.2.2.2).mono ?_
      rintro e tw13 ⟨_,rfl,⟨sn,xn,bn,sn',xn',bn',rfl,hn,hn'⟩,gtw13⟩
      have qn : RatV tw13 (.agg #[.slice sn xn.length xn.length,.bool bn,.slice sn' xn'.length xn'.length,.bool bn']) ((N9 : Rat)):=⟨sn,xn,bn,sn',xn',bn',rfl,hn,hn'⟩
      replace Ba1:=a_ gtw13 Ba1
      replace Bk:=a_ gtw13 Bk
      replace Bl:=a_ gtw13 Bl
      replace qa1:=qa1.kept gtw13
      replace jf:=jf.kept gtw13
      replace qf:=qf.kept gtw13
      replace jn:=jn.kept gtw13
      replace hG:=d_ hG gtw13
      replace hX:=d_ hX gtw13
      clear gtw13
      clear hn hn'
      (try go_wp2_with fail)
      refine hKQ.out _ _ (by exact ⟨(b_ Ba1).1,(b_ Ba1).2.1,(b_ Ba1).2.2.1,(b_ Ba1).2.2.2.1⟩) (fun hHeld=>?_)
      clear hKQ KQ
      try simp only [ly_]
     rotate_left 1
    rotate_left 3
    focus
     have gA:=wg_ tw9 (.cells #[.slice none 0 0,.bool false,.slice none 0 0,.bool false] 28) none
     have lohGl : w.heap.size ≤ tw9.heap.size:=hG.size
     have lohXl : w6.heap.size ≤ tw9.heap.size:=hX.size
     have lta1l : aw1 < tw9.heap.size:=g_ Ba1
     have ltkl : pk < tw9.heap.size:=g_ Bk
     have Bl_:=f_ tw9 (.cells #[.slice none 0 0,.bool false,.slice none 0 0,.bool false] 28) tw9.heap.size rfl
     replace Ba1:=a_ gA Ba1
     replace Bk:=a_ gA Bk
     replace qa1:=qa1.kept gA
     replace jf:=jf.kept gA
     replace hG:=d_ hG gA
     replace hX:=d_ hX gA
     clear gA
     go_simp
     generalize (tw9.alloc (.cells #[.slice none 0 0,.bool false,.slice none 0 0,.bool false] 28)) = tw10 at *
     generalize tw9.heap.size = pl at *
     have Bl:=Bl_
     clear Bl_
     refine hKQ.out _ _ (by exact ⟨(b_ Ba1).1,(b_ Ba1).2.1,(b_ Ba1).2.2.1,(b_ Ba1).2.2.2.1⟩) (fun hHeld=>?_)
     clear hKQ KQ
     try simp only [ly_]
     refine o1_ 2 rfl (fun KQ hKQ=>?_)
     go_simp
     go_at_call 25
     refine (p_ tw10 _ F9 5 jf (by omega) HF.out.2.2.1).mono ?_
     rintro e tw11 ⟨_,rfl,⟨sf,xf,bf,sf',xf',bf',rfl,hf,hf'⟩,gtw11⟩
     have qf : RatV tw11 (.agg #[.slice sf xf.length xf.length,.bool bf,.slice sf' xf'.length xf'.length,.bool bf']) ((F9 : Rat)):=⟨sf,xf,bf,sf',xf',bf',rfl,hf,hf'⟩
     replace Ba1:=a_ gtw11 Ba1
     replace Bk:=a_ gtw11 Bk
     replace Bl:=a_ gtw11 Bl
     replace qa1:=qa1.kept gtw11
     replace jf:=jf.kept gtw11
     replace hG:=d_ hG gtw11
     replace hX:=d_ hX gtw11
     clear gtw11
     clear hf hf'
     (try go_wp2_with fail)
     refine hKQ.out _ _ (by exact ⟨(b_ Ba1).1,(b_ Ba1).2.1,(b_ Ba1).2.2.1,(b_ Ba1).2.2.2.1⟩) (fun hHeld=>?_)
     clear hKQ KQ
     try simp only [ly_]
     refine o1_ 4 rfl (fun KQ hKQ=>?_)
     go_simp
     go_at_call 44
     refine (E_ tw11 _ A1 5 qa1 (by omega) L1.out.1 L1.out.2).mono ?_
     rintro e tw12 ⟨vn,rfl,jn,gtw12⟩
     rw [HF.out.2.1] at jn
     replace Ba1:=a_ gtw12 Ba1
     replace Bk:=a_ gtw12 Bk
     replace Bl:=a_ gtw12 Bl
     replace qa1:=qa1.kept gtw12
     replace jf:=jf.kept gtw12
     replace qf:=qf.kept gtw12
     replace hG:=d_ hG gtw12
     replace hX:=d_ hX gtw12
     clear gtw12
     (try go_wp2_with fail)
     refine hKQ.out _ _ (by exact ⟨(b_ Ba1).1,(b_ Ba1).2.1,(b_ Ba1).2.2.1,(b_ Ba1).2.2.2.1⟩) (fun hHeld=>?_)
     clear hKQ KQ
     try simp only [ly_]
     refine o1_ 5 rfl (fun KQ hKQ=>?_)
     go_simp
     go_at_call 25
     refine (p_ tw12 _ N9 6 jn (by omega) HF.out.2.2.2).mono ?_
     rintro e tw13 ⟨_,rfl,⟨sn,xn,bn,sn',xn',bn',rfl,hn,hn'⟩,gtw13⟩
     have qn : RatV tw13 (.agg #[.slice sn xn.length xn.length,.bool bn,.slice sn' xn'.length xn'.length,.bool bn']) ((N9 : Rat)):=⟨sn,xn,bn,sn',xn',bn',rfl,hn,hn'⟩
     replace Ba1:=a_ gtw13 Ba1
     replace Bk:=a_ gtw13 Bk
     replace Bl:=a_ gtw13 Bl
     replace qa1:=qa1.kept gtw13
     replace jf:=jf.kept gtw13
     replace qf:=qf.kept gtw13
     replace jn:=jn.kept gtw13
     replace hG:=d_ hG gtw13
     replace hX:=d_ hX gtw13
     clear gtw13
     clear hn hn'
     (try go_wp2_with fail)
     refine hKQ.out _ _ (by exact ⟨(b_ Ba1).1,(b_ Ba1).2.1,(b_ Ba1).2.2.1,(b_ Ba1).2.2.2.1⟩) (fun hHeld=>?_)
     clear hKQ KQ
     try simp only [ly_]
    rotate_left 1
   rotate_left 4
   focus
    have gA:=wg_ tw8 (.cells #[.slice none 0 0,.bool false,.slice none 0 0,.bool false] 28) none
    have lohGl : w.heap.size ≤ tw8.heap.size:=hG.size
    have lohXl : w6.heap.size ≤ tw8.heap.size:=hX.size
    have lta1l : aw1 < tw8.heap.size:=g_ Ba1
    have ltkl : pk < tw8.heap.size:=g_ Bk
    have Bl_:=f_ tw8 (.cells #[.slice none 0 0,.bool false,.slice none 0 0,.bool false] 28) tw8.heap.size rfl
    replace Ba1:=a_ gA Ba1
    replace Bk:=a_ gA Bk
    replace qa1:=qa1.kept gA
    replace hG:=d_ hG gA
    replace hX:=d_ hX gA
    clear gA
    go_simp
    generalize (tw8.alloc (.cells #[.slice none 0 0,.bool false,.slice none 0 0,.bool false] 28)) = tw9 at *
    generalize tw8.heap.size = pl at *
    have Bl:=Bl_
    clear Bl_
    refine hKQ.out _ _ (by exact ⟨(b_ Ba1).1,(b_ Ba1).2.1,(b_ Ba1).2.2.1,(b_ Ba1).2.2.2.1⟩) (fun hHeld=>?_)
    clear hKQ KQ
    try simp only [ly_]
    refine o1_ 1 rfl (fun KQ hKQ=>?_)
    go_simp
    go_at_call 42
    refine (ax_ tw9 _ A1 5 qa1 (by omega) L1.out.1 L1.out.2).mono ?_
    rintro e tw10 ⟨vf,rfl,jf,gtw10⟩
    rw [HF.out.1] at jf
    replace Ba1:=a_ gtw10 Ba1
    replace Bk:=a_ gtw10 Bk
    replace Bl:=a_ gtw10 Bl
    replace qa1:=qa1.kept gtw10
    replace hG:=d_ hG gtw10
    replace hX:=d_ hX gtw10
    clear gtw10
    (try go_wp2_with fail)
    refine hKQ.out _ _ (by exact ⟨(b_ Ba1).1,(b_ Ba1).2.1,(b_ Ba1).2.2.1,(b_ Ba1).2.2.2.1⟩) (fun hHeld=>?_)
    clear hKQ KQ
    try simp only [ly_]
    refine o1_ 2 rfl (fun KQ hKQ=>?_)
    go_simp
    go_at_call 25
    refine (p_ tw10 _ F9 5 jf (by omega) HF.out.2.2.1).mono ?_
    rintro e tw11 ⟨_,rfl,⟨sf,xf,bf,sf',xf',bf',rfl,hf,hf'⟩,gtw11⟩
    have qf : RatV tw11 (.agg #[.slice sf xf.length xf.length,.bool bf,.slice sf' xf'.length xf'.length,.bool bf']) ((F9 : Rat)):=⟨sf,xf,bf,sf',xf',bf',rfl,hf,hf'⟩
    replace Ba1:=a_ gtw11 Ba1
    replace Bk:=a_ gtw11 Bk
    replace Bl:=a_ gtw11 Bl
    replace qa1:=qa1.kept gtw11
    replace jf:=jf.kept gtw11
    replace hG:=d_ hG gtw11
    replace hX:=d_ hX gtw11
    clear gtw11
    clear hf hf'
    (try go_wp2_with fail)
    refine hKQ.out _ _ (by exact ⟨(b_ Ba1).1,(b_ Ba1).2.1,(b_ Ba1).2.2.1,(b_ Ba1).2.2.2.1⟩) (fun hHeld=>?_)
    clear hKQ KQ
    try simp only [ly_]
    refine o1_ 4 rfl (fun KQ hKQ=>?_)
    go_simp
    go_at_call 44
    refine (E_ tw11 _ A1 5 qa1 (by omega) L1.out.1 L1.out.2).mono ?_
    rintro e tw12 ⟨vn,rfl,jn,gtw12⟩
    rw [HF.out.2.1] at jn
    replace Ba1:=a_ gtw12 Ba1
    replace Bk:=a_ gtw12 Bk
    replace Bl:=a_ gtw12 Bl
    replace qa1:=qa1.kept gtw12
    replace jf:=jf.kept gtw12
    replace qf:=qf.kept gtw12
    replace hG:=d_ hG gtw12
    replace hX:=d_ hX gtw12
    clear gtw12
    (try go_wp2_with fail)
    refine hKQ.out _ _ (by exact ⟨(b_ Ba1).1,(b_ Ba1).2.1,(b_ Ba1).2.2.1,(b_ Ba1).2.2.2.1⟩) (fun hHeld=>?_)
    clear hKQ KQ
    try simp only [ly_]
    refine o1_ 5 rfl (fun KQ hKQ=>?_)
    go_simp
    go_at_call 25
    refine (p_ tw12 _ N9 6 jn (by omega) HF.out.2.2.2).mono ?_
    rintro e tw13 ⟨_,rfl,⟨sn,xn,bn,sn',xn',bn',rfl,hn,hn'⟩,gtw13⟩
    have qn : RatV tw13 (.agg #[.slice sn xn.length xn.length,.bool bn,.slice sn' xn'.length xn'.length,.bool bn']) ((N9 : Rat)):=⟨sn,xn,bn,sn',xn',bn',rfl,hn,hn'⟩
    replace Ba1:=a_ gtw13 Ba1
    replace Bk:=a_ gtw13 Bk
    replace Bl:=a_ gtw13 Bl
    replace qa1:=qa1.kept gtw13
    replace jf:=jf.kept gtw13
    replace qf:=qf.kept gtw13
    replace jn:=jn.kept gtw13
    replace hG:=d_ hG gtw13
    replace hX:=d_ hX gtw13
    clear gtw13
    clear hn hn'
    (try go_wp2_with fail)
    refine hKQ.out _ _ (by exact ⟨(b_ Ba1).1,(b_ Ba1).2.1,(b_ Ba1).2.2.1,(b_ Ba1).2.2.2.1⟩) (fun hHeld=>?_)
    clear hKQ KQ
    try simp only [ly_]
   rotate_left 1
  rotate_left 5
  focus
   have gA:=wg_ tw7 (.cells #[.slice none 0 0,.bool false,.slice none 0 0,.bool false] 28) none
   have lohGl : w.heap.size ≤ tw7.heap.size:=hG.size
   have lohXl : w6.heap.size ≤ tw7.heap.size:=hX.size
   have lta1l : aw1 < tw7.heap.size:=g_ Ba1
   have Bl_:=f_ tw7 (.cells #[.slice none 0 0,.bool false,.slice none 0 0,.bool false] 28) tw7.heap.size rfl
   replace Ba1:=a_ gA Ba1
   replace qa1:=qa1.kept gA
   replace hG:=d_ hG gA
   replace hX:=d_ hX gA
   clear gA
   go_simp
   generalize (tw7.alloc (.cells #[.slice none 0 0,.bool false,.slice none 0 0,.bool false] 28)) = tw8 at *
   generalize tw7.heap.size = pl at *
   have Bl:=Bl_
   clear Bl_
   refine hKQ.out _ _ (by exact ⟨(b_ Ba1).1,(b_ Ba1).2.1,(b_ Ba1).2.2.1,(b_ Ba1).2.2.2.1⟩) (fun hHeld=>?_)
   clear hKQ KQ
   try simp only [ly_]
   refine wpAnyH_ready (rs:=[1,6]) (by kernel_rfl) (by simp) ?_
   refine AllReadyH.cons rfl (fun KQ hKQ=>?_) (AllReadyH.cons rfl (fun KQ hKQ=>?_) AllReadyH.nil)
   focus
    go_simp
    go_at_call 42
    refine (ax_ tw8 _ A1 5 qa1 (by omega) L1.out.1 L1.out.2).mono ?_
    rintro e tw9 ⟨vf,rfl,jf,gtw9⟩
    rw [HF.out.1] at jf
    replace Ba1:=a_ gtw9 Ba1
    replace Bl:=a_ gtw9 Bl
    replace qa1:=qa1.kept gtw9
    replace hG:=d_ hG gtw9
    replace hX:=d_ hX gtw9
    clear gtw9
    (try go_wp2_with fail)
    refine hKQ.out _ _ (by exact ⟨(b_ Ba1).1,(b_ Ba1).2.1,(b_ Ba1).2.2.1,(b_ Ba1).2.2.2.1⟩) (fun hHeld=>?_)
    clear hKQ KQ
    try simp only [ly_]
    refine wpAnyH_ready (rs:=[2,6]) (by kernel_rfl) (by simp) ?_
    refine AllReadyH.cons rfl (fun KQ hKQ=>?_) (AllReadyH.cons rfl (fun KQ hKQ=>?_) AllReadyH.nil)
    focus
     go_simp
     go_at_call 25
     refine (p_ tw9 _ F9 5 jf (by omega) HF.out.2.2.1).mono ?_
     rintro e tw10 ⟨_,rfl,⟨sf,xf,bf,sf',xf',bf',rfl,hf,hf'⟩,gtw10⟩
     have qf : RatV tw10 (.agg #[.slice sf xf.length xf.length,.bool bf,.slice sf' xf'.length xf'.length,.bool bf']) ((F9 : Rat)):=⟨sf,xf,bf,sf',xf',bf',rfl,hf,hf'⟩
     replace Ba1:=a_ gtw10 Ba1
     replace Bl:=a_ gtw10 Bl
     replace qa1:=qa1.kept gtw10
     replace jf:=jf.kept gtw10
     replace hG:=d_ hG gtw10
     replace hX:=d_ hX gtw10
     clear gtw10
     clear hf hf'
     (try go_wp2_with fail)
     refine hKQ.out _ _ (by exact ⟨(b_ Ba1).1,(b_ Ba1).2.1,(b_ Ba1).2.2.1,(b_ Ba1).2.2.2.1⟩) (fun hHeld=>?_)
     clear hKQ KQ
     try simp only [ly_]
     refine wpAnyH_ready (rs:=[4,6]) (by kernel_rfl) (by simp) ?_
     refine AllReadyH.cons rfl (fun KQ hKQ=>?_) (AllReadyH.cons rfl (fun KQ hKQ=>?_) AllReadyH.nil)
     focus
      go_simp
      go_at_call 44
      refine (E_ tw10 _ A1 5 qa1 (by omega) L1.out.1 L1.out.2).mono ?_
      rintro e tw11 ⟨vn,rfl,jn,gtw11⟩
      rw [HF.out.2.1] at jn
      replace Ba1:=a_ gtw11 Ba1
      replace Bl:=a_ gtw11 Bl
      replace qa1:=qa1.kept gtw11
      replace jf:=jf.kept gtw11
      replace qf:=qf.kept gtw11
      replace hG:=d_ hG gtw11
      replace hX:=d_ hX gtw11
      clear gtw11
      (try go_wp2_with fail)
      refine hKQ.out _ _ (by exact ⟨(b_ Ba1).1,(b_ Ba1).2.1,(b_ Ba1).2.2.1,(b_ Ba1).2.2.2.1⟩) (fun hHeld=>?_)
      clear hKQ KQ
      try simp only [ly_]
      refine wpAnyH_ready (rs:=[5,6]) (by kernel_rfl) (by simp) ?_
      refine AllReadyH.cons rfl (fun KQ hKQ=>?_) (AllReadyH.cons rfl (fun KQ hKQ=>?_) AllReadyH.nil)
      focus
       go_simp
       go_at_call 25
       refine (p_ tw11 _ N9 6 jn (by omega) HF.out.2.2.2).mono ?_
       rintro e tw12 ⟨_,rfl,⟨sn,xn,bn,sn',xn',bn',rfl,hn,hn'⟩,gtw12⟩
       have qn : RatV tw12 (.agg #[.slice sn xn.length xn.length,.bool bn,.slice sn' xn'.length xn'.length,.bool bn']) ((N9 : Rat)):=⟨sn,xn,bn,sn',xn',bn',rfl,hn,hn'⟩
       replace Ba1:=a_ gtw12 Ba1
       replace Bl:=a_ gtw12 Bl
       replace qa1:=qa1.kept gtw12
       replace jf:=jf.kept gtw12
       replace qf:=qf.kept gtw12
       replace jn:=jn.kept gtw12
       replace hG:=d_ hG gtw12
       replace hX:=d_ hX gtw12
       clear gtw12
       clear hn hn'
       (try go_wp2_with fail)
       refine hKQ.out _ _ (by exact ⟨(b_ Ba1).1,(b_ Ba1).2.1,(b_ Ba1).2.2.1,(b_ Ba1).2.2.2.1⟩) (fun hHeld=>?_)
       clear hKQ KQ
       try simp only [ly_]
       refine o1_ 6 rfl (fun KQ hKQ=>?_)
       have gA:=wg_ tw12 (.cells #[.slice none 0 0,.bool false,.slice none 0 0,.bool false] 28) none
       have lohGk : w.heap.size ≤ tw12.heap.size:=hG.size
       have lohXk : w6.heap.size ≤ tw12.heap.size:=hX.size
       have lta1k : aw1 < tw12.heap.size:=g_ Ba1
       have ltlk : pl < tw12.heap.size:=g_ Bl
       have Bk_:=f_ tw12 (.cells #[.slice none 0 0,.bool false,.slice none 0 0,.bool false] 28) tw12.heap.size rfl
       replace Ba1:=a_ gA Ba1
       replace Bl:=a_ gA Bl
       replace qa1:=qa1.kept gA
       replace jf:=jf.kept gA
       replace qf:=qf.kept gA
       replace jn:=jn.kept gA
       replace qn:=qn.kept gA
       replace hG:=d_ hG gA
       replace hX:=d_ hX gA
       clear gA
       go_simp
       generalize (tw12.alloc (.cells #[.slice none 0 0,.bool false,.slice none 0 0,.bool false] 28)) = tw13 at *
       generalize tw12.heap.size = pk at *
       have Bk:=Bk_
       clear Bk_
       refine hKQ.out _ _ (by exact ⟨(b_ Ba1).1,(b_ Ba1).2.1,(b_ Ba1).2.2.1,(b_ Ba1).2.2.2.1⟩) (fun hHeld=>?_)
       clear hKQ KQ
       try simp only [ly_]
      rotate_left 1
      focus
       have gA:=wg_ tw11 (.cells #[.slice none 0 0,.bool false,.slice none 0 0,.bool false] 28) none
       have lohGk : w.heap.size ≤ tw11.heap.size:=hG.size
       have lohXk : w6.heap.size ≤ tw11.heap.size:=hX.size
       have lta1k : aw1 < tw11.heap.size:=g_ Ba1
       have ltlk : pl < tw11.heap.size:=g_ Bl
       have Bk_:=f_ tw11 (.cells #[.slice none 0 0,.bool false,.slice none 0 0,.bool false] 28) tw11.heap.size rfl
       replace Ba1:=a_ gA Ba1
       replace Bl:=a_ gA Bl
       replace qa1:=qa1.kept gA
       replace jf:=jf.kept gA
       replace qf:=qf.kept gA
       replace jn:=jn.kept gA
       replace hG:=d_ hG gA
       replace hX:=d_ hX gA
       clear gA
       go_simp
       generalize (tw11.alloc (.cells #[.slice none 0 0,.bool false,.slice none 0 0,.bool false] 28)) = tw12 at *
       generalize tw11.heap.size = pk at *
       have Bk:=Bk_
       clear Bk_
       refine hKQ.out _ _ (by exact ⟨(b_ Ba1).1,(b_ Ba1).2.1,(b_ Ba1).2.2.1,(b_ Ba1).2.2.2.1⟩) (fun hHeld=>?_)
       clear hKQ KQ
       try simp only [ly_]
       refine o1_ 5 rfl (fun KQ hKQ=>?_)
       go_simp
       go_at_call 25
       refine (p_ tw12 _ N9 6 jn (by omega) HF.out.2.2.2).mono ?_
       rintro e tw13 ⟨_,rfl,⟨sn,xn,bn,sn',xn',bn',rfl,hn,hn'⟩,gtw13⟩
       have qn : RatV tw13 (.agg #[.slice sn xn.length xn.length,.bool bn,.slice sn' xn'.length xn'.length,.bool bn']) ((N9 : Rat)):=⟨sn,xn,bn,sn',xn',bn',rfl,hn,hn'⟩
       replace Ba1:=a_ gtw13 Ba1
       replace Bl:=a_ gtw13 Bl
       replace Bk:=a_ gtw13 Bk
       replace qa1:=qa1.kept gtw13
       replace jf:=jf.kept gtw13
       replace qf:=qf.kept gtw13
       replace jn:=jn.kept gtw13
       replace hG:=d_ hG gtw13
       replace hX:=d_ hX gtw13
       clear gtw13
       clear hn hn'
       (try go_wp2_with fail)
       refine hKQ.out _ _ (by exact ⟨(b_ Ba1).1,(b_ Ba1).2.1,(b_ Ba1).2.2.1,(b_ Ba1).2.2.2.1⟩) (fun hHeld=>?_)
       clear hKQ KQ
       try simp only [ly_]
      rotate_left 1
     rotate_left 2
     focus
      have gA:=wg_ tw10 (.cells #[.slice none 0 0,.bool false,.slice none 0 0,.bool false] 28) none
      have lohGk : w.heap.size ≤ tw10.heap.size:=hG.size
      have lohXk : w6.heap.size ≤ tw10.heap.size:=hX.size
      have lta1k : aw1 < tw10.heap.size:=g_ Ba1
      have ltlk : pl < tw10.heap.size:=g_ Bl
      have Bk_:=f_ tw10 (.cells #[.slice none 0 0,.bool false,.slice none 0 0,.bool false] 28) tw10.heap.size rfl
      replace Ba1:=a_ gA Ba1
      replace Bl:=a_ gA Bl
      replace qa1:=qa1.kept gA
      replace jf:=jf.kept gA
      replace qf:=qf.kept gA
      replace hG:=d_ hG gA
      replace hX:=d_ hX gA
      clear gA
      go_simp
      generalize (tw10.alloc (.cells #[.slice none 0 0,.bool false,.slice none 0 0,.bool false] 28)) = tw11 at *
      generalize tw10.heap.size = pk at *
      have Bk:=Bk_
      clear Bk_
      refine hKQ.out _ _ (by exact ⟨(b_ Ba1).1,(b_ Ba1).2.1,(b_ Ba1).2.2.1,(b_ Ba1).2.2.2.1⟩) (fun hHeld=>?_)
      clear hKQ KQ
      try simp only [ly_]
      refine o1_ 4 rfl (fun KQ hKQ=>?_)
      go_simp
      go_at_call 44
      refine (E_ tw11 _ A1 5 qa1 (by omega) L1.out.1 L1.out.2).mono ?_
      rintro e tw12 ⟨vn,rfl,jn,gtw12⟩
      rw [HF.out.2.1] at jn
      replace Ba1:=a_ gtw12 Ba1
      replace Bl:=a_ gtw12 Bl
      replace Bk:=a_ gtw12 Bk
      replace qa1:=qa1.kept gtw12
      replace jf:=jf.kept gtw12
      replace qf:=qf.kept gtw12
      replace hG:=d_ hG gtw12
      replace hX:=d_ hX gtw12
      clear gtw12
      (try go_wp2_with fail)
      refine hKQ.out _ _ (by exact ⟨(b_ Ba1).1,(b_ Ba1).2.1,(b_ Ba1).2.2.1,(b_ Ba1).2.2.2.1⟩) (fun hHeld=>?_)
      clear hKQ KQ
      try simp only [ly_]
      refine o1_ 5 rfl (fun KQ hKQ=>?_)
      go_simp
      go_at_call 25
      refine (p_ tw12 _ N9 6 jn (by omega) HF.out.2.2.2).mono ?_
      rintro e tw13 ⟨_,rfl,⟨sn,xn,bn,sn',xn',bn',rfl,hn,hn'⟩,gtw13⟩
      have qn : RatV tw13 (.agg #[.slice sn xn.length xn.length,.bool bn,.slice sn' xn'.length xn'.length,.bool bn']) ((N9 : Rat)):=⟨sn,xn,bn,sn',xn',bn',rfl,hn,hn'⟩
      replace Ba1:=a_ gtw13 Ba1
      replace Bl:=a_ gtw13 Bl
      replace Bk:=a_ gtw13 Bk
      replace qa1:=qa1.kept gtw13
      replace jf:=jf.kept gtw13
      replace qf:=qf.kept gtw13
      replace jn:=jn.kept gtw13
      replace hG:=d_ hG gtw13
      replace hX:=d_ hX gtw13
      clear gtw13
      clear hn hn'
      (try go_wp2_with fail)
      refine hKQ.out _ _ (by exact ⟨(b_ Ba1).1,(b_ Ba1).2.1,(b_ Ba1).2.2.1,(b_ Ba1).2.2.2.1⟩) (fun hHeld=>?_)
      clear hKQ KQ
      try simp only [ly_]
     rotate_left 1
    rotate_left 3
    focus
     have gA:=wg_ tw9 (.cells #[.slice none 0 0,.bool false,.slice none 0 0,.bool false] 28) none
     have lohGk : w.heap.size ≤ tw9.heap.size:=hG.size
     have lohXk : w6.heap.size ≤ tw9.heap.size:=hX.size
     have lta1k : aw1 < tw9.heap.size:=g_ Ba1
     have ltlk : pl < tw9.heap.size:=g_ Bl
     have Bk_:=f_ tw9 (.cells #[.slice none 0 0,.bool false,.slice none 0 0,.bool false] 28) tw9.heap.size rfl
     replace Ba1:=a_ gA Ba1
     replace Bl:=a_ gA Bl
     replace qa1:=qa1.kept gA
     replace jf:=jf.kept gA
     replace hG:=d_ hG gA
     replace hX:=d_ hX gA
     clear gA
     go_simp
     generalize (tw9.alloc (.cells #[.slice none 0 0,.bool false,.slice none 0 0,.bool false] 28)) = tw10 at *
     generalize tw9.heap.size = pk at *
     have Bk:=Bk_
     clear Bk_
     refine hKQ.out _ _ (by exact ⟨(b_ Ba1).1,(b_ Ba1).2.1,(b_ Ba1).2.2.1,(b_ Ba1).2.2.2.1⟩) (fun hHeld=>?_)
     clear hKQ KQ
     try simp only [ly_]
     refine o1_ 2 rfl (fun KQ hKQ=>?_)
     go_simp
     go_at_call 25
     refine (p_ tw10 _ F9 5 jf (by omega) HF.out.2.2.1).mono ?_
     rintro e tw11 ⟨_,rfl,⟨sf,xf,bf,sf',xf',bf',rfl,hf,hf'⟩,gtw11⟩
     have qf : RatV tw11 (.agg #[.slice sf xf.length xf.length,.bool bf,.slice sf' xf'.length xf'.length,.bool bf']) ((F9 : Rat)):=⟨sf,xf,bf,sf',xf',bf',rfl,hf,hf'⟩
     replace Ba1:=a_ gtw11 Ba1
     replace Bl:=a_ gtw11 Bl
     replace Bk:=a_ gtw11 Bk
     replace qa1:=qa1.kept gtw11
     replace jf:=jf.kept gtw11
     replace hG:=d_ hG gtw11
     replace hX:=d_ hX gtw11
     clear gtw11
     clear hf hf'
     (try go_wp2_with fail)
     refine hKQ.out _ _ (by exact ⟨(b_ Ba1).1,(b_ Ba1).2.1,(b_ Ba1).2.2.1,(b_ Ba1).2.2.2.1⟩) (fun hHeld=>?_)
     clear hKQ KQ
     try simp only [ly_]
     refine o1_ 4 rfl (fun KQ hKQ=>?_)
     go_simp
     go_at_call 44
     refine (E_ tw11 _ A1 5 qa1 (by omega) L1.out.1 L1.out.2).mono ?_
     rintro e tw12 ⟨vn,rfl,jn,gtw12⟩
     rw [HF.out.2.1] at jn
     replace Ba1:=a_ gtw12 Ba1
     replace Bl:=a_ gtw12 Bl
     replace Bk:=a_ gtw12 Bk
     replace qa1:=qa1.kept gtw12
     replace jf:=jf.kept gtw12
     replace qf:=qf.kept gtw12
     replace hG:=d_ hG gtw12
     replace hX:=d_ hX gtw12
     clear gtw12
     (try go_wp2_with fail)
     refine hKQ.out _ _ (by exact ⟨(b_ Ba1).1,(b_ Ba1).2.1,(b_ Ba1).2.2.1,(b_ Ba1).2.2.2.1⟩) (fun hHeld=>?_)
     clear hKQ KQ
     try simp only [ly_]
     refine o1_ 5 rfl (fun KQ hKQ=>?_)
     go_simp
     go_at_call 25
     refine (p_ tw12 _ N9 6 jn (by omega) HF.out.2.2.2).mono ?_
     rintro e tw13 ⟨_,rfl,⟨sn,xn,bn,sn',xn',bn',rfl,hn,hn'⟩,gtw13⟩
     have qn : RatV tw13 (.agg #[.slice sn xn.length xn.length,.bool bn,.slice sn' xn'.length xn'.length,.bool bn']) ((N9 : Rat)):=⟨sn,xn,bn,sn',xn',bn',rfl,hn,hn'⟩
     replace Ba1:=a_ gtw13 Ba1
     replace Bl:=a_ gtw13 Bl
     replace Bk:=a_ gtw13 Bk
     replace qa1:=qa1.kept gtw13
     replace jf:=jf.kept gtw13
     replace qf:=qf.kept gtw13
     replace jn:=jn.kept gtw13
     replace hG:=d_ hG gtw13
     replace hX:=d_ hX gtw13
     clear gtw13
     clear hn hn'
     (try go_wp2_with fail)
     refine hKQ.out _ _ (by exact ⟨(b_ Ba1).1,(b_ Ba1).2.1,(b_ Ba1).2.2.1,(b_ Ba1).2.2.2.1⟩) (fun hHeld=>?_)
     clear hKQ KQ
     try simp only [ly_]
    rotate_left 1
   rotate_left 4
   focus
    have gA:=wg_ tw8 (.cells #[.slice none 0 0,.bool false,.slice none 0 0,.bool false] 28) none
    have lohGk : w.heap.size ≤ tw8.heap.size:=hG.size
    have lohXk : w6.heap.size ≤ tw8.heap.size:=hX.size
    have lta1k : aw1 < tw8.heap.size:=g_ Ba1
    have ltlk : pl < tw8.heap.size:=g_ Bl
    have Bk_:=f_ tw8 (.cells #[.slice none 0 0,.bool false,.slice none 0 0,.bool false] 28) tw8.heap.size rfl
    replace Ba1:=a_ gA Ba1
    replace Bl:=a_ gA Bl
    replace qa1:=qa1.kept gA
    replace hG:=d_ hG gA
    replace hX:=d_ hX gA
    clear gA
    go_simp
    generalize (tw8.alloc (.cells #[.slice none 0 0,.bool false,.slice none 0 0,.bool false] 28)) = tw9 at *
    generalize tw8.heap.size = pk at *
    have Bk:=Bk_
    clear Bk_
    refine hKQ.out _ _ (by exact ⟨(b_ Ba1).1,(b_ Ba1).2.1,(b_ Ba1).2.2.1,(b_ Ba1).2.2.2.1⟩) (fun hHeld=>?_)
    clear hKQ KQ
    try simp only [ly_]
    refine o1_ 1 rfl (fun KQ hKQ=>?_)
    go_simp
    go_at_call 42
    refine (ax_ tw9 _ A1 5 qa1 (by omega) L1.out.1 L1.out.2).mono ?_
    rintro e tw10 ⟨vf,rfl,jf,gtw10⟩
    rw [HF.out.1] at jf
    replace Ba1:=a_ gtw10 Ba1
    replace Bl:=a_ gtw10 Bl
    replace Bk:=a_ gtw10 Bk
    replace qa1:=qa1.kept gtw10
    replace hG:=d_ hG gtw10
    replace hX:=d_ hX gtw10
    clear gtw10
    (try go_wp2_with fail)
    refine hKQ.out _ _ (by exact ⟨(b_ Ba1).1,(b_ Ba1).2.1,(b_ Ba1).2.2.1,(b_ Ba1).2.2.2.1⟩) (fun hHeld=>?_)
    clear hKQ KQ
    try simp only [ly_]
    refine o1_ 2 rfl (fun KQ hKQ=>?_)
    go_simp
    go_at_call 25
    refine (p_ tw10 _ F9 5 jf (by omega) HF.out.2.2.1).mono ?_
    rintro e tw11 ⟨_,rfl,⟨sf,xf,bf,sf',xf',bf',rfl,hf,hf'⟩,gtw11⟩
    have qf : RatV tw11 (.agg #[.slice sf xf.length xf.length,.bool bf,.slice sf' xf'.length xf'.length,.bool bf']) ((F9 : Rat)):=⟨sf,xf,bf,sf',xf',bf',rfl,hf,hf'⟩
    replace Ba1:=a_ gtw11 Ba1
    replace Bl:=a_ gtw11 Bl
    replace Bk:=a_ gtw11 Bk
    replace qa1:=qa1.kept gtw11
    replace jf:=jf.kept gtw11
    replace hG:=d_ hG gtw11
    replace hX:=d_ hX gtw11
    clear gtw11
    clear hf hf'
    (try go_wp2_with fail)
    refine hKQ.out _ _ (by exact ⟨(b_ Ba1).1,(b_ Ba1).2.1,(b_ Ba1).2.2.1,(b_ Ba1).2.2.2.1⟩) (fun hHeld=>?_)
    clear hKQ KQ
    try simp only [ly_]
    refine o1_ 4 rfl (fun KQ hKQ=>?_)
    go_simp
    go_at_call 44
    refine (E_ tw11 _ A1 5 qa1 (by omega) L1.out.1 L1.out.2).mono ?_
    rintro e tw12 ⟨vn,rfl,jn,gtw12⟩
    rw [HF.out.2.1] at jn
    replace Ba1:=a_ gtw12 Ba1
    replace Bl:=a_ gtw12 Bl
    replace Bk:=a_ gtw12 Bk
    replace qa1:=qa1.kept gtw12
    replace jf:=jf.kept gtw12
    replace qf:=qf.kept gtw12
    replace hG:=d_ hG gtw12
    replace hX:=d_ hX gtw12
    clear gtw12
    (try go_wp2_with fail)
    refine hKQ.out _ _ (by exact ⟨(b_ Ba1).1,(b_ Ba1).2.1,(b_ Ba1).2.2.1,(b_ Ba1).2.2.2.1⟩) (fun hHeld=>?_)
    clear hKQ KQ
    try simp only [ly_]
    refine o1_ 5 rfl (fun KQ hKQ=>?_)
    go_simp
    go_at_call 25
    refine (p_ tw12 _ N9 6 jn (by omega) HF.out.2.2.2).mono ?_
    rintro e tw13 ⟨_,rfl,⟨sn,xn,bn,sn',xn',bn',rfl,hn,hn'⟩,gtw13⟩
    have qn : RatV tw13 (.agg #[.slice sn xn.length xn.length,.bool bn,.slice sn' xn'.length xn'.length,.bool bn']) ((N9 : Rat)):=⟨sn,xn,bn,sn',xn',bn',rfl,hn,hn'⟩
    replace Ba1:=a_ gtw13 Ba1
    replace Bl:=a_ gtw13 Bl
    replace Bk:=a_ gtw13 Bk
    replace qa1:=qa1.kept gtw13
    replace jf:=jf.kept gtw13
    replace qf:=qf.kept gtw13
    replace jn:=jn.kept gtw13
    replace hG:=d_ hG gtw13
    replace hX:=d_ hX gtw13
    clear gtw13
    clear hn hn'
    (try go_wp2_with fail)
    refine hKQ.out _ _ (by exact ⟨(b_ Ba1).1,(b_ Ba1).2.1,(b_ Ba1).2.2.1,(b_ Ba1).2.2.2.1⟩) (fun hHeld=>?_)
    clear hKQ KQ
    try simp only [ly_]
   rotate_left 1
  rotate_left 5
  all_goals (
   refine o1_ 8 rfl (fun KQ hKQ=>?_)
   obtain ⟨c0',c1',c2',c3',c4',c5',c6',c7'⟩:=b_ Bk
   go_simp
   clear c0' c1' c2' c3' c4' c5' c6' c7'
   replace qa1:=qa1.set4 Bk (.slice sf xf.length xf.length) (.bool bf) (.slice sf' xf'.length xf'.length) (.bool bf')
   replace jf:=jf.set4 Bk (.slice sf xf.length xf.length) (.bool bf) (.slice sf' xf'.length xf'.length) (.bool bf')
   replace qf:=qf.set4 Bk (.slice sf xf.length xf.length) (.bool bf) (.slice sf' xf'.length xf'.length) (.bool bf')
   replace jn:=jn.set4 Bk (.slice sf xf.length xf.length) (.bool bf) (.slice sf' xf'.length xf'.length) (.bool bf')
   replace qn:=qn.set4 Bk (.slice sf xf.length xf.length) (.bool bf) (.slice sf' xf'.length xf'.length) (.bool bf')
   replace hG:=aw_ (g:=pk) hG (by omega) (.slice sf xf.length xf.length) (.bool bf) (.slice sf' xf'.length xf'.length) (.bool bf')
   replace hX:=aw_ (g:=pk) hX (by omega) (.slice sf xf.length xf.length) (.bool bf) (.slice sf' xf'.length xf'.length) (.bool bf')
   replace Ba1:=i_ Ba1 (show aw1 ≠ pk by omega) (.slice sf xf.length xf.length) (.bool bf) (.slice sf' xf'.length xf'.length) (.bool bf')
   replace Bl:=i_ Bl (show pl ≠ pk by omega) (.slice sf xf.length xf.length) (.bool bf) (.slice sf' xf'.length xf'.length) (.bool bf')
   replace Bk:=r_ Bk (.slice sf xf.length xf.length) (.bool bf) (.slice sf' xf'.length xf'.length) (.bool bf')
   generalize ((((tw13.setCell ⟨pk,0,none⟩ (.slice sf xf.length xf.length)).setCell ⟨pk,1,none⟩ (.bool bf)).setCell ⟨pk,2,none⟩ (.slice sf' xf'.length xf'.length)).setCell ⟨pk,3,none⟩ (.bool bf')) = tw14 at *
   refine hKQ.out _ _ (by exact ⟨(b_ Ba1).1,(b_ Ba1).2.1,(b_ Ba1).2.2.1,(b_ Ba1).2.2.2.1⟩) (fun hHeld=>?_)
   clear hKQ KQ
   try simp only [ly_]
   refine o1_ 9 rfl (fun KQ hKQ=>?_)
   obtain ⟨c0',c1',c2',c3',c4',c5',c6',c7'⟩:=b_ Bl
   go_simp
   clear c0' c1' c2' c3' c4' c5' c6' c7'
   replace qa1:=qa1.set4 Bl (.slice sn xn.length xn.length) (.bool bn) (.slice sn' xn'.length xn'.length) (.bool bn')
   replace jf:=jf.set4 Bl (.slice sn xn.length xn.length) (.bool bn) (.slice sn' xn'.length xn'.length) (.bool bn')
   replace qf:=qf.set4 Bl (.slice sn xn.length xn.length) (.bool bn) (.slice sn' xn'.length xn'.length) (.bool bn')
   replace jn:=jn.set4 Bl (.slice sn xn.length xn.length) (.bool bn) (.slice sn' xn'.length xn'.length) (.bool bn')
   replace qn:=qn.set4 Bl (.slice sn xn.length xn.length) (.bool bn) (.slice sn' xn'.length xn'.length) (.bool bn')
   replace hG:=aw_ (g:=pl) hG (by omega) (.slice sn xn.length xn.length) (.bool bn) (.slice sn' xn'.length xn'.length) (.bool bn')
   replace hX:=aw_ (g:=pl) hX (by omega) (.slice sn xn.length xn.length) (.bool bn) (.slice sn' xn'.length xn'.length) (.bool bn')
   replace Ba1:=i_ Ba1 (show aw1 ≠ pl by omega) (.slice sn xn.length xn.length) (.bool bn) (.slice sn' xn'.length xn'.length) (.bool bn')
   replace Bk:=i_ Bk (show pk ≠ pl by omega) (.slice sn xn.length xn.length) (.bool bn) (.slice sn' xn'.length xn'.length) (.bool bn')
   replace Bl:=r_ Bl (.slice sn xn.length xn.length) (.bool bn) (.slice sn' xn'.length xn'.length) (.bool bn')
   generalize ((((tw14.setCell ⟨pl,0,none⟩ (.slice sn xn.length xn.length)).setCell ⟨pl,1,none⟩ (.bool bn)).setCell ⟨pl,2,none⟩ (.slice sn' xn'.length xn'.length)).setCell ⟨pl,3,none⟩ (.bool bn')) = tw15 at *
   refine hKQ.out _ _ (by exact ⟨(b_ Ba1).1,(b_ Ba1).2.1,(b_ Ba1).2.2.1,(b_ Ba1).2.2.2.1⟩) (fun hHeld=>?_)
   clear hKQ KQ
   try simp only [ly_]
   refine wpAnyH_done (by kernel_rfl) ?_ _
   go_wp2_with fail
   go_meet
   exact ⟨pk,pl,rfl,rfl,⟨_,_,_,_,Bk,qf⟩,⟨_,_,_,_,Bl,qn⟩,by omega,by omega,hX⟩)
 case rest =>
  clear hG hX hsz qa1 yx1 qb Ba1 Bx1 Bb
  obtain ⟨pf,pn,rfl,rfl,Kf,Kn,lf',ln',hX⟩:=hcut
  obtain ⟨sf,xf,bf,sf',xf',bf',Bf,qf⟩:=Kf.open
  obtain ⟨sn,xn,bn,sn',xn',bn',Bn,qn⟩:=Kn.open
  have hG:=d_ HG0.out hX
  have Ba1:=a_ hX Xa19.out
  have Bx1:=a_ hX Xx19.out
  have Bb:=a_ hX Xb9.out
  have qa1:=Jqa19.out.kept hX
  have yx1:=Jyx19.out.kept hX
  have qb:=Jqb9.out.kept hX
  clear hX HG0 Xa19 Xx19 Xb9 Jqa19 Jyx19 Jqb9
  obtain ⟨Ca10,Ca11,Ca12,Ca13,Fa10,Fa11,Fa12,Fa13⟩:=b_ Ba1
  obtain ⟨Cx10,Cx11,Cx12,Cx13,Fx10,Fx11,Fx12,Fx13⟩:=b_ Bx1
  obtain ⟨Cb0,Cb1,Cb2,Cb3,Fb0,Fb1,Fb2,Fb3⟩:=b_ Bb
  obtain ⟨Cf0,Cf1,Cf2,Cf3,Ff0,Ff1,Ff2,Ff3⟩:=b_ Bf
  obtain ⟨Cn0,Cn1,Cn2,Cn3,Fn0,Fn1,Fn2,Fn3⟩:=b_ Bn
  go_wp2_with fail
  clear Ca10 Fa10 Ca11 Fa11 Ca12 Fa12 Ca13 Fa13 Cx10 Fx10 Cx11 Fx11 Cx12 Fx12 Cx13 Fx13 Cb0 Fb0 Cb1 Fb1 Cb2 Fb2 Cb3 Fb3 Cf0 Ff0 Cf1 Ff1 Cf2 Ff2 Cf3 Ff3 Cn0 Fn0 Cn1 Fn1 Cn2 Fn2 Cn3 Fn3
  refine (ak_ wc 1 (by omega) (by omega)).mono ?_
  rintro e w7 ⟨v1,rfl,n1,gw7⟩
  replace Ba1:=a_ gw7 Ba1
  replace Bx1:=a_ gw7 Bx1
  replace Bb:=a_ gw7 Bb
  replace Bf:=a_ gw7 Bf
  replace Bn:=a_ gw7 Bn
  replace qa1:=qa1.kept gw7
  replace qb:=qb.kept gw7
  replace qf:=qf.kept gw7
  replace qn:=qn.kept gw7
  replace hG:=d_ hG gw7
  clear gw7
  obtain ⟨Ca10,Ca11,Ca12,Ca13,Fa10,Fa11,Fa12,Fa13⟩:=b_ Ba1
  obtain ⟨Cx10,Cx11,Cx12,Cx13,Fx10,Fx11,Fx12,Fx13⟩:=b_ Bx1
  obtain ⟨Cb0,Cb1,Cb2,Cb3,Fb0,Fb1,Fb2,Fb3⟩:=b_ Bb
  obtain ⟨Cf0,Cf1,Cf2,Cf3,Ff0,Ff1,Ff2,Ff3⟩:=b_ Bf
  obtain ⟨Cn0,Cn1,Cn2,Cn3,Fn0,Fn1,Fn2,Fn3⟩:=b_ Bn
  go_wp2_with fail
  clear Ca10 Fa10 Ca11 Fa11 Ca12 Fa12 Ca13 Fa13 Cx10 Fx10 Cx11 Fx11 Cx12 Fx12 Cx13 Fx13 Cb0 Fb0 Cb1 Fb1 Cb2 Fb2 Cb3 Fb3 Cf0 Ff0 Cf1 Ff1 Cf2 Ff2 Cf3 Ff3 Cn0 Fn0 Cn1 Fn1 Cn2 Fn2 Cn3 Fn3
  refine (p_ w7 _ 1 1 n1 (by omega) H1B.out.2.2).mono ?_
  rintro e w8 ⟨_,rfl,⟨sc,xc,bc,sc',xc',bc',rfl,hc,hc'⟩,gw8⟩
  have qc : RatV w8 (.agg #[.slice sc xc.length xc.length,.bool bc,.slice sc' xc'.length xc'.length,.bool bc']) (((1 : Int) : Rat)):=⟨sc,xc,bc,sc',xc',bc',rfl,hc,hc'⟩
  replace Ba1:=a_ gw8 Ba1
  replace Bx1:=a_ gw8 Bx1
  replace Bb:=a_ gw8 Bb
  replace Bf:=a_ gw8 Bf
  replace Bn:=a_ gw8 Bn
  replace qa1:=qa1.kept gw8
  replace qb:=qb.kept gw8
  replace qf:=qf.kept gw8
  replace qn:=qn.kept gw8
  replace n1:=n1.kept gw8
  replace hG:=d_ hG gw8
  clear gw8
  clear hc hc'
  obtain ⟨Ca10,Ca11,Ca12,Ca13,Fa10,Fa11,Fa12,Fa13⟩:=b_ Ba1
  obtain ⟨Cx10,Cx11,Cx12,Cx13,Fx10,Fx11,Fx12,Fx13⟩:=b_ Bx1
  obtain ⟨Cb0,Cb1,Cb2,Cb3,Fb0,Fb1,Fb2,Fb3⟩:=b_ Bb
  obtain ⟨Cf0,Cf1,Cf2,Cf3,Ff0,Ff1,Ff2,Ff3⟩:=b_ Bf
  obtain ⟨Cn0,Cn1,Cn2,Cn3,Fn0,Fn1,Fn2,Fn3⟩:=b_ Bn
  have gbw8:=(wg_ w8 (.cells #[.slice sc xc.length xc.length,.bool bc,.slice sc' xc'.length xc'.length,.bool bc'] 28) none)
  have Bc:=(f_ w8 (.cells #[.slice sc xc.length xc.length,.bool bc,.slice sc' xc'.length xc'.length,.bool bc'] 28) (w8.heap.size) rfl)
  have hzw8 : Hid (w.heap.size ≤ w8.heap.size):=H_ hG.size
  have hla1w8 : Hid (aw1 < w8.heap.size):=H_ (Array.getElem?_eq_some_iff.1 Ba1).1
  have hlx1w8 : Hid (aw1 + 1 < w8.heap.size):=H_ (Array.getElem?_eq_some_iff.1 Bx1).1
  have hlbw8 : Hid (aw5 < w8.heap.size):=H_ (Array.getElem?_eq_some_iff.1 Bb).1
  have hlfw8 : Hid (pf < w8.heap.size):=H_ (Array.getElem?_eq_some_iff.1 Bf).1
  have hlnw8 : Hid (pn < w8.heap.size):=H_ (Array.getElem?_eq_some_iff.1 Bn).1
  clear Ca10 Fa10 Ca11 Fa11 Ca12 Fa12 Ca13 Fa13 Cx10 Fx10 Cx11 Fx11 Cx12 Fx12 Cx13 Fx13 Cb0 Fb0 Cb1 Fb1 Cb2 Fb2 Cb3 Fb3 Cf0 Ff0 Cf1 Ff1 Cf2 Ff2 Cf3 Ff3 Cn0 Fn0 Cn1 Fn1 Cn2 Fn2 Cn3 Fn3
  replace Ba1:=a_ gbw8 Ba1
  replace Bx1:=a_ gbw8 Bx1
  replace Bb:=a_ gbw8 Bb
  replace Bf:=a_ gbw8 Bf
  replace Bn:=a_ gbw8 Bn
  replace qa1:=qa1.kept gbw8
  replace qb:=qb.kept gbw8
  replace qf:=qf.kept gbw8
  replace qn:=qn.kept gbw8
  replace n1:=n1.kept gbw8
  replace qc:=qc.kept gbw8
  replace hG:=d_ hG gbw8
  clear gbw8
  obtain ⟨Ca10,Ca11,Ca12,Ca13,Fa10,Fa11,Fa12,Fa13⟩:=b_ Ba1
  obtain ⟨Cx10,Cx11,Cx12,Cx13,Fx10,Fx11,Fx12,Fx13⟩:=b_ Bx1
  obtain ⟨Cb0,Cb1,Cb2,Cb3,Fb0,Fb1,Fb2,Fb3⟩:=b_ Bb
  obtain ⟨Cf0,Cf1,Cf2,Cf3,Ff0,Ff1,Ff2,Ff3⟩:=b_ Bf
  obtain ⟨Cn0,Cn1,Cn2,Cn3,Fn0,Fn1,Fn2,Fn3⟩:=b_ Bn
  obtain ⟨Cc0,Cc1,Cc2,Cc3,Fc0,Fc1,Fc2,Fc3⟩:=b_ Bc
  go_wp2_with fail
  clear n1
  generalize (w8.alloc (.cells #[.slice sc xc.length xc.length,.bool bc,.slice sc' xc'.length xc'.length,.bool bc'] 28)) = w9 at *
  generalize w8.heap.size = aw8 at *
  replace hzw8:=hzw8.out
  replace hla1w8:=hla1w8.out
  replace hlx1w8:=hlx1w8.out
  replace hlbw8:=hlbw8.out
  replace hlfw8:=hlfw8.out
  replace hlnw8:=hlnw8.out
  clear Ca10 Fa10 Ca11 Fa11 Ca12 Fa12 Ca13 Fa13 Cx10 Fx10 Cx11 Fx11 Cx12 Fx12 Cx13 Fx13 Cb0 Fb0 Cb1 Fb1 Cb2 Fb2 Cb3 Fb3 Cf0 Ff0 Cf1 Ff1 Cf2 Ff2 Cf3 Ff3 Cn0 Fn0 Cn1 Fn1 Cn2 Fn2 Cn3 Fn3 Cc0 Fc0 Cc1 Fc1 Cc2 Fc2 Cc3 Fc3
  refine (fB_ w9 1 2 (by omega) (by omega) (by omega) (by omega) (HTB.out _ hG)).mono ?_
  rintro e w10 ⟨_,rfl,⟨sh,xh,bh,sh',xh',bh',rfl,hh,hh'⟩,gw10⟩
  rw [HH.out] at hh hh'
  have qh : RatV w10 (.agg #[.slice sh xh.length xh.length,.bool bh,.slice sh' xh'.length xh'.length,.bool bh']) (H9):=⟨sh,xh,bh,sh',xh',bh',rfl,hh,hh'⟩
  replace Ba1:=a_ gw10 Ba1
  replace Bx1:=a_ gw10 Bx1
  replace Bb:=a_ gw10 Bb
  replace Bf:=a_ gw10 Bf
  replace Bn:=a_ gw10 Bn
  replace Bc:=a_ gw10 Bc
  replace qa1:=qa1.kept gw10
  replace qb:=qb.kept gw10
  replace qf:=qf.kept gw10
  replace qn:=qn.kept gw10
  replace qc:=qc.kept gw10
  replace hG:=d_ hG gw10
  clear gw10
  clear hh hh'
  obtain ⟨Ca10,Ca11,Ca12,Ca13,Fa10,Fa11,Fa12,Fa13⟩:=b_ Ba1
  obtain ⟨Cx10,Cx11,Cx12,Cx13,Fx10,Fx11,Fx12,Fx13⟩:=b_ Bx1
  obtain ⟨Cb0,Cb1,Cb2,Cb3,Fb0,Fb1,Fb2,Fb3⟩:=b_ Bb
  obtain ⟨Cf0,Cf1,Cf2,Cf3,Ff0,Ff1,Ff2,Ff3⟩:=b_ Bf
  obtain ⟨Cn0,Cn1,Cn2,Cn3,Fn0,Fn1,Fn2,Fn3⟩:=b_ Bn
  obtain ⟨Cc0,Cc1,Cc2,Cc3,Fc0,Fc1,Fc2,Fc3⟩:=b_ Bc
  have gbw10:=(wg_ w10 (.cells #[.slice sh xh.length xh.length,.bool bh,.slice sh' xh'.length xh'.length,.bool bh'] 28) none)
  have Bh:=(f_ w10 (.cells #[.slice sh xh.length xh.length,.bool bh,.slice sh' xh'.length xh'.length,.bool bh'] 28) (w10.heap.size) rfl)
  have hzw10 : Hid (w.heap.size ≤ w10.heap.size):=H_ hG.size
  have hla1w10 : Hid (aw1 < w10.heap.size):=H_ (Array.getElem?_eq_some_iff.1 Ba1).1
  have hlx1w10 : Hid (aw1 + 1 < w10.heap.size):=H_ (Array.getElem?_eq_some_iff.1 Bx1).1
  have hlbw10 : Hid (aw5 < w10.heap.size):=H_ (Array.getElem?_eq_some_iff.1 Bb).1
  have hlfw10 : Hid (pf < w10.heap.size):=H_ (Array.getElem?_eq_some_iff.1 Bf).1
  have hlnw10 : Hid (pn < w10.heap.size):=H_ (Array.getElem?_eq_some_iff.1 Bn).1
  have hlcw10 : Hid (aw8 < w10.heap.size):=H_ (Array.getElem?_eq_some_iff.1 Bc).1
  clear Ca10 Fa10 Ca11 Fa11 Ca12 Fa12 Ca13 Fa13 Cx10 Fx10 Cx11 Fx11 Cx12 Fx12 Cx13 Fx13 Cb0 Fb0 Cb1 Fb1 Cb2 Fb2 Cb3 Fb3 Cf0 Ff0 Cf1 Ff1 Cf2 Ff2 Cf3 Ff3 Cn0 Fn0 Cn1 Fn1 Cn2 Fn2 Cn3 Fn3 Cc0 Fc0 Cc1 Fc1 Cc2 Fc2 Cc3 Fc3
  replace Ba1:=a_ gbw10 Ba1
  replace Bx1:=a_ gbw10 Bx1
  replace Bb:=a_ gbw10 Bb
  replace Bf:=a_ gbw10 Bf
  replace Bn:=a_ gbw10 Bn
  replace Bc:=a_ gbw10 Bc
  replace qa1:=qa1.kept gbw10
  replace qb:=qb.kept gbw10
  replace qf:=qf.kept gbw10
  replace qn:=qn.kept gbw10
  replace qc:=qc.kept gbw10
  replace qh:=qh.kept gbw10
  replace hG:=d_ hG gbw10
  clear gbw10
  obtain ⟨Ca10,Ca11,Ca12,Ca13,Fa10,Fa11,Fa12,Fa13⟩:=b_ Ba1
  obtain ⟨Cx10,Cx11,Cx12,Cx13,Fx10,Fx11,Fx12,Fx13⟩:=b_ Bx1
  obtain ⟨Cb0,Cb1,Cb2,Cb3,Fb0,Fb1,Fb2,Fb3⟩:=b_ Bb
  obtain ⟨Cf0,Cf1,Cf2,Cf3,Ff0,Ff1,Ff2,Ff3⟩:=b_ Bf
  obtain ⟨Cn0,Cn1,Cn2,Cn3,Fn0,Fn1,Fn2,Fn3⟩:=b_ Bn
  obtain ⟨Cc0,Cc1,Cc2,Cc3,Fc0,Fc1,Fc2,Fc3⟩:=b_ Bc
  obtain ⟨Ch0,Ch1,Ch2,Ch3,Fh0,Fh1,Fh2,Fh3⟩:=b_ Bh
  go_wp2_with fail
  generalize (w10.alloc (.cells #[.slice sh xh.length xh.length,.bool bh,.slice sh' xh'.length xh'.length,.bool bh'] 28)) = w11 at *
  generalize w10.heap.size = aw10 at *
  replace hzw10:=hzw10.out
  replace hla1w10:=hla1w10.out
  replace hlx1w10:=hlx1w10.out
  replace hlbw10:=hlbw10.out
  replace hlfw10:=hlfw10.out
  replace hlnw10:=hlnw10.out
  replace hlcw10:=hlcw10.out
  clear Ca10 Fa10 Ca11 Fa11 Ca12 Fa12 Ca13 Fa13 Cx10 Fx10 Cx11 Fx11 Cx12 Fx12 Cx13 Fx13 Cb0 Fb0 Cb1 Fb1 Cb2 Fb2 Cb3 Fb3 Cf0 Ff0 Cf1 Ff1 Cf2 Ff2 Cf3 Ff3 Cn0 Fn0 Cn1 Fn1 Cn2 Fn2 Cn3 Fn3 Cc0 Fc0 Cc1 Fc1 Cc2 Fc2 Cc3 Fc3 Ch0 Fh0 Ch1 Fh1 Ch2 Fh2 Ch3 Fh3
  refine (bS_ w11 _ _ A1 (N9 : Rat) 6 qa1 qn (by omega) (bw L1.out.1 (by omega)) (bw L1.out.2 (by omega)) HNB.out.1 HNB.out.2 (HTB.out _ hG)).mono ?_
  rintro e w12 ⟨_,rfl,⟨sd,xd,bd,sd',xd',bd',rfl,hd,hd'⟩,gw12⟩
  rw [HD.out] at hd hd'
  have qd : RatV w12 (.agg #[.slice sd xd.length xd.length,.bool bd,.slice sd' xd'.length xd'.length,.bool bd']) (D9):=⟨sd,xd,bd,sd',xd',bd',rfl,hd,hd'⟩
  replace Ba1:=a_ gw12 Ba1
  replace Bx1:=a_ gw12 Bx1
  replace Bb:=a_ gw12 Bb
  replace Bf:=a_ gw12 Bf
  replace Bn:=a_ gw12 Bn
  replace Bc:=a_ gw12 Bc
  replace Bh:=a_ gw12 Bh
  replace qa1:=qa1.kept gw12
  replace qb:=qb.kept gw12
  replace qf:=qf.kept gw12
  replace qn:=qn.kept gw12
  replace qc:=qc.kept gw12
  replace qh:=qh.kept gw12
  replace hG:=d_ hG gw12
  clear gw12
  clear hd hd'
  obtain ⟨Ca10,Ca11,Ca12,Ca13,Fa10,Fa11,Fa12,Fa13⟩:=b_ Ba1
  obtain ⟨Cx10,Cx11,Cx12,Cx13,Fx10,Fx11,Fx12,Fx13⟩:=b_ Bx1
  obtain ⟨Cb0,Cb1,Cb2,Cb3,Fb0,Fb1,Fb2,Fb3⟩:=b_ Bb
  obtain ⟨Cf0,Cf1,Cf2,Cf3,Ff0,Ff1,Ff2,Ff3⟩:=b_ Bf
  obtain ⟨Cn0,Cn1,Cn2,Cn3,Fn0,Fn1,Fn2,Fn3⟩:=b_ Bn
  obtain ⟨Cc0,Cc1,Cc2,Cc3,Fc0,Fc1,Fc2,Fc3⟩:=b_ Bc
  obtain ⟨Ch0,Ch1,Ch2,Ch3,Fh0,Fh1,Fh2,Fh3⟩:=b_ Bh
  have gbw12:=(wg_ w12 (.cells #[.slice sd xd.length xd.length,.bool bd,.slice sd' xd'.length xd'.length,.bool bd'] 28) none)
  have Bd:=(f_ w12 (.cells #[.slice sd xd.length xd.length,.bool bd,.slice sd' xd'.length xd'.length,.bool bd'] 28) (w12.heap.size) rfl)
  have hzw12 : Hid (w.heap.size ≤ w12.heap.size):=H_ hG.size
  have hla1w12 : Hid (aw1 < w12.heap.size):=H_ (Array.getElem?_eq_some_iff.1 Ba1).1
  have hlx1w12 : Hid (aw1 + 1 < w12.heap.size):=H_ (Array.getElem?_eq_some_iff.1 Bx1).1
  have hlbw12 : Hid (aw5 < w12.heap.size):=H_ (Array.getElem?_eq_some_iff.1 Bb).1
  have hlfw12 : Hid (pf < w12.heap.size):=H_ (Array.getElem?_eq_some_iff.1 Bf).1
  have hlnw12 : Hid (pn < w12.heap.size):=H_ (Array.getElem?_eq_some_iff.1 Bn).1
  have hlcw12 : Hid (aw8 < w12.heap.size):=H_ (Array.getElem?_eq_some_iff.1 Bc).1
  have hlhw12 : Hid (aw10 < w12.heap.size):=H_ (Array.getElem?_eq_some_iff.1 Bh).1
  clear Ca10 Fa10 Ca11 Fa11 Ca12 Fa12 Ca13 Fa13 Cx10 Fx10 Cx11 Fx11 Cx12 Fx12 Cx13 Fx13 Cb0 Fb0 Cb1 Fb1 Cb2 Fb2 Cb3 Fb3 Cf0 Ff0 Cf1 Ff1 Cf2 Ff2 Cf3 Ff3 Cn0 Fn0 Cn1 Fn1 Cn2 Fn2 Cn3 Fn3 Cc0 Fc0 Cc1 Fc1 Cc2 Fc2 Cc3 Fc3 Ch0 Fh0 Ch1 Fh1 Ch2 Fh2 Ch3 Fh3
  replace Ba1:=a_ gbw12 Ba1
  replace Bx1:=a_ gbw12 Bx1
  replace Bb:=a_ gbw12 Bb
  replace Bf:=a_ gbw12 Bf
  replace Bn:=a_ gbw12 Bn
  replace Bc:=a_ gbw12 Bc
  replace Bh:=a_ gbw12 Bh
  replace qa1:=qa1.kept gbw12
  replace qb:=qb.kept gbw12
  replace qf:=qf.kept gbw12
  replace qn:=qn.kept gbw12
  replace qc:=qc.kept gbw12
  replace qh:=qh.kept gbw12
  replace qd:=qd.kept gbw12
  replace hG:=d_ hG gbw12
  clear gbw12
  obtain ⟨Ca10,Ca11,Ca12,Ca13,Fa10,Fa11,Fa12,Fa13⟩:=b_ Ba1
  obtain ⟨Cx10,Cx11,Cx12,Cx13,Fx10,Fx11,Fx12,Fx13⟩:=b_ Bx1
  obtain ⟨Cb0,Cb1,Cb2,Cb3,Fb0,Fb1,Fb2,Fb3⟩:=b_ Bb
  obtain ⟨Cf0,Cf1,Cf2,Cf3,Ff0,Ff1,Ff2,Ff3⟩:=b_ Bf
  obtain ⟨Cn0,Cn1,Cn2,Cn3,Fn0,Fn1,Fn2,Fn3⟩:=b_ Bn
  obtain ⟨Cc0,Cc1,Cc2,Cc3,Fc0,Fc1,Fc2,Fc3⟩:=b_ Bc
  obtain ⟨Ch0,Ch1,Ch2,Ch3,Fh0,Fh1,Fh2,Fh3⟩:=b_ Bh
  obtain ⟨Cd0,Cd1,Cd2,Cd3,Fd0,Fd1,Fd2,Fd3⟩:=b_ Bd
  go_wp2_with fail
  rcases hE9 with ⟨g2,HE⟩ | ⟨g2,HE⟩
  · skip
    generalize (w12.alloc (.cells #[.slice sd xd.length xd.length,.bool bd,.slice sd' xd'.length xd'.length,.bool bd'] 28)) = w13 at *
    generalize w12.heap.size = aw12 at *
    replace hzw12:=hzw12.out
    replace hla1w12:=hla1w12.out
    replace hlx1w12:=hlx1w12.out
    replace hlbw12:=hlbw12.out
    replace hlfw12:=hlfw12.out
    replace hlnw12:=hlnw12.out
    replace hlcw12:=hlcw12.out
    replace hlhw12:=hlhw12.out
    clear Ca10 Fa10 Ca11 Fa11 Ca12 Fa12 Ca13 Fa13 Cx10 Fx10 Cx11 Fx11 Cx12 Fx12 Cx13 Fx13 Cb0 Fb0 Cb1 Fb1 Cb2 Fb2 Cb3 Fb3 Cf0 Ff0 Cf1 Ff1 Cf2 Ff2 Cf3 Ff3 Cn0 Fn0 Cn1 Fn1 Cn2 Fn2 Cn3 Fn3 Cc0 Fc0 Cc1 Fc1 Cc2 Fc2 Cc3 Fc3 Ch0 Fh0 Ch1 Fh1 Ch2 Fh2 Ch3 Fh3 Cd0 Fd0 Cd1 Fd1 Cd2 Fd2 Cd3 Fd3
    refine (S_ w13 _ D9 13 qd (by omega) HDB.out.1).mono ?_
    rintro e e1w14 ⟨rfl,ge1w14⟩
    rw [HSD.out]
    replace Ba1:=a_ ge1w14 Ba1
    replace Bx1:=a_ ge1w14 Bx1
    replace Bb:=a_ ge1w14 Bb
    replace Bf:=a_ ge1w14 Bf
    replace Bn:=a_ ge1w14 Bn
    replace Bc:=a_ ge1w14 Bc
    replace Bh:=a_ ge1w14 Bh
    replace Bd:=a_ ge1w14 Bd
    replace qa1:=qa1.kept ge1w14
    replace qb:=qb.kept ge1w14
    replace qf:=qf.kept ge1w14
    replace qn:=qn.kept ge1w14
    replace qc:=qc.kept ge1w14
    replace qh:=qh.kept ge1w14
    replace qd:=qd.kept ge1w14
    replace hG:=d_ hG ge1w14
    clear ge1w14
    obtain ⟨Ca10,Ca11,Ca12,Ca13,Fa10,Fa11,Fa12,Fa13⟩:=b_ Ba1
    obtain ⟨Cx10,Cx11,Cx12,Cx13,Fx10,Fx11,Fx12,Fx13⟩:=b_ Bx1
    obtain ⟨Cb0,Cb1,Cb2,Cb3,Fb0,Fb1,Fb2,Fb3⟩:=b_ Bb
    obtain ⟨Cf0,Cf1,Cf2,Cf3,Ff0,Ff1,Ff2,Ff3⟩:=b_ Bf
    obtain ⟨Cn0,Cn1,Cn2,Cn3,Fn0,Fn1,Fn2,Fn3⟩:=b_ Bn
    obtain ⟨Cc0,Cc1,Cc2,Cc3,Fc0,Fc1,Fc2,Fc3⟩:=b_ Bc
    obtain ⟨Ch0,Ch1,Ch2,Ch3,Fh0,Fh1,Fh2,Fh3⟩:=b_ Bh
    obtain ⟨Cd0,Cd1,Cd2,Cd3,Fd0,Fd1,Fd2,Fd3⟩:=b_ Bd
    go_wp2_with fail
    clear Ca10 Fa10 Ca11 Fa11 Ca12 Fa12 Ca13 Fa13 Cx10 Fx10 Cx11 Fx11 Cx12 Fx12 Cx13 Fx13 Cb0 Fb0 Cb1 Fb1 Cb2 Fb2 Cb3 Fb3 Cf0 Ff0 Cf1 Ff1 Cf2 Ff2 Cf3 Ff3 Cn0 Fn0 Cn1 Fn1 Cn2 Fn2 Cn3 Fn3 Cc0 Fc0 Cc1 Fc1 Cc2 Fc2 Cc3 Fc3 Ch0 Fh0 Ch1 Fh1 Ch2 Fh2 Ch3 Fh3 Cd0 Fd0 Cd1 Fd1 Cd2 Fd2 Cd3 Fd3
    refine (dM_ e1w14 _ D9 13 qd (by omega) HDB.out.1 HDB.out.2).mono ?_
    rintro e e1w15 ⟨_,rfl,⟨se,xe,be,se',xe',be',rfl,he,he'⟩,ge1w15⟩
    rw [← HE.out] at he he'
    have qe : RatV e1w15 (.agg #[.slice se xe.length xe.length,.bool be,.slice se' xe'.length xe'.length,.bool be']) (E9):=⟨se,xe,be,se',xe',be',rfl,he,he'⟩
    replace Ba1:=a_ ge1w15 Ba1
    replace Bx1:=a_ ge1w15 Bx1
    replace Bb:=a_ ge1w15 Bb
    replace Bf:=a_ ge1w15 Bf
    replace Bn:=a_ ge1w15 Bn
    replace Bc:=a_ ge1w15 Bc
    replace Bh:=a_ ge1w15 Bh
    replace Bd:=a_ ge1w15 Bd
    replace qa1:=qa1.kept ge1w15
    replace qb:=qb.kept ge1w15
    replace qf:=qf.kept ge1w15
    replace qn:=qn.kept ge1w15
    replace qc:=qc.kept ge1w15
    replace qh:=qh.kept ge1w15
    replace hG:=d_ hG ge1w15
    clear ge1w15
    clear he he'
    obtain ⟨Ca10,Ca11,Ca12,Ca13,Fa10,Fa11,Fa12,Fa13⟩:=b_ Ba1
    obtain ⟨Cx10,Cx11,Cx12,Cx13,Fx10,Fx11,Fx12,Fx13⟩:=b_ Bx1
    obtain ⟨Cb0,Cb1,Cb2,Cb3,Fb0,Fb1,Fb2,Fb3⟩:=b_ Bb
    obtain ⟨Cf0,Cf1,Cf2,Cf3,Ff0,Ff1,Ff2,Ff3⟩:=b_ Bf
    obtain ⟨Cn0,Cn1,Cn2,Cn3,Fn0,Fn1,Fn2,Fn3⟩:=b_ Bn
    obtain ⟨Cc0,Cc1,Cc2,Cc3,Fc0,Fc1,Fc2,Fc3⟩:=b_ Bc
    obtain ⟨Ch0,Ch1,Ch2,Ch3,Fh0,Fh1,Fh2,Fh3⟩:=b_ Bh
    obtain ⟨Cd0,Cd1,Cd2,Cd3,Fd0,Fd1,Fd2,Fd3⟩:=b_ Bd
    clear Ca10 Fa10 Ca11 Fa11 Ca12 Fa12 Ca13 Fa13 Cx10 Fx10 Cx11 Fx11 Cx12 Fx12 Cx13 Fx13 Cb0 Fb0 Cb1 Fb1 Cb2 Fb2 Cb3 Fb3 Cf0 Ff0 Cf1 Ff1 Cf2 Ff2 Cf3 Ff3 Cn0 Fn0 Cn1 Fn1 Cn2 Fn2 Cn3 Fn3 Cc0 Fc0 Cc1 Fc1 Cc2 Fc2 Cc3 Fc3 Ch0 Fh0 Ch1 Fh1 Ch2 Fh2 Ch3 Fh3 Cd0 Fd0 Cd1 Fd1 Cd2 Fd2 Cd3 Fd3
    have hsz2:=hG.size
    skip
    skip
    skip
    skip
    skip
    skip
    skip
    obtain ⟨Cd0,Cd1,Cd2,Cd3,Fd0,Fd1,Fd2,Fd3⟩:=b_ Bd
    have hlo : w.heap.size ≤ aw12:=by omega
    have hG9:=aw_ (g:=aw12) hG hlo (.slice se xe.length xe.length) (.bool be) (.slice se' xe'.length xe'.length) (.bool be')
    have Ba19:=i_ Ba1 (show aw1 ≠ aw12 by omega) (.slice se xe.length xe.length) (.bool be) (.slice se' xe'.length xe'.length) (.bool be')
    have Bb9:=i_ Bb (show aw5 ≠ aw12 by omega) (.slice se xe.length xe.length) (.bool be) (.slice se' xe'.length xe'.length) (.bool be')
    have Bf9:=i_ Bf (show pf ≠ aw12 by omega) (.slice se xe.length xe.length) (.bool be) (.slice se' xe'.length xe'.length) (.bool be')
    have Bn9:=i_ Bn (show pn ≠ aw12 by omega) (.slice se xe.length xe.length) (.bool be) (.slice se' xe'.length xe'.length) (.bool be')
    have Bc9:=i_ Bc (show aw8 ≠ aw12 by omega) (.slice se xe.length xe.length) (.bool be) (.slice se' xe'.length xe'.length) (.bool be')
    have Bh9:=i_ Bh (show aw10 ≠ aw12 by omega) (.slice se xe.length xe.length) (.bool be) (.slice se' xe'.length xe'.length) (.bool be')
    have Bd9:=r_ Bd (.slice se xe.length xe.length) (.bool be) (.slice se' xe'.length xe'.length) (.bool be')
    have qa19:=qa1.set4 Bd (.slice se xe.length xe.length) (.bool be) (.slice se' xe'.length xe'.length) (.bool be')
    have qb9:=qb.set4 Bd (.slice se xe.length xe.length) (.bool be) (.slice se' xe'.length xe'.length) (.bool be')
    have qf9:=qf.set4 Bd (.slice se xe.length xe.length) (.bool be) (.slice se' xe'.length xe'.length) (.bool be')
    have qn9:=qn.set4 Bd (.slice se xe.length xe.length) (.bool be) (.slice se' xe'.length xe'.length) (.bool be')
    have qc9:=qc.set4 Bd (.slice se xe.length xe.length) (.bool be) (.slice se' xe'.length xe'.length) (.bool be')
    have qh9:=qh.set4 Bd (.slice se xe.length xe.length) (.bool be) (.slice se' xe'.length xe'.length) (.bool be')
    have qe9:=qe.set4 Bd (.slice se xe.length xe.length) (.bool be) (.slice se' xe'.length xe'.length) (.bool be')
    clear hG qa1 yx1 qb qf qn qc qh qd qe Ba1 Bx1 Bb Bf Bn Bc Bh Bd
    go_wp2_with fail
    clear Cd0 Cd1 Cd2 Cd3 Fd0 Fd1 Fd2 Fd3
    generalize ((((e1w15.setCell ⟨aw12,0,none⟩ (.slice se xe.length xe.length)).setCell ⟨aw12,1,none⟩ (.bool be)).setCell ⟨aw12,2,none⟩ (.slice se' xe'.length xe'.length)).setCell ⟨aw12,3,none⟩ (.bool be')) = w9 at *
    have hG:=hG9
    have Ba1:=Ba19
    have Bb:=Bb9
    have Bf:=Bf9
    have Bn:=Bn9
    have Bc:=Bc9
    have Bh:=Bh9
    have Bd:=Bd9
    have qa1:=qa19
    have qb:=qb9
    have qf:=qf9
    have qn:=qn9
    have qc:=qc9
    have qh:=qh9
    have qe:=qe9
    clear hG9 Ba19 Bb9 Bf9 Bn9 Bc9 Bh9 Bd9 qa19 qb9 qf9 qn9 qc9 qh9 qe9
    obtain ⟨Ca10,Ca11,Ca12,Ca13,Fa10,Fa11,Fa12,Fa13⟩:=b_ Ba1
    obtain ⟨Cb0,Cb1,Cb2,Cb3,Fb0,Fb1,Fb2,Fb3⟩:=b_ Bb
    obtain ⟨Cf0,Cf1,Cf2,Cf3,Ff0,Ff1,Ff2,Ff3⟩:=b_ Bf
    obtain ⟨Cn0,Cn1,Cn2,Cn3,Fn0,Fn1,Fn2,Fn3⟩:=b_ Bn
    obtain ⟨Cc0,Cc1,Cc2,Cc3,Fc0,Fc1,Fc2,Fc3⟩:=b_ Bc
    obtain ⟨Ch0,Ch1,Ch2,Ch3,Fh0,Fh1,Fh2,Fh3⟩:=b_ Bh
    obtain ⟨Cd0,Cd1,Cd2,Cd3,Fd0,Fd1,Fd2,Fd3⟩:=b_ Bd
    go_wp2_with fail
    have HTr : Hid (∀ W,w9.grownBy W none → Tab W):=fun W hW=>HTB.out _ (d_ hG hW)
    go_region_held3 (fun w'=>w'.cell? ⟨aw5,0,none⟩ = some (.slice sb xb.length xb.length) ∧ w'.cell? ⟨aw5,1,none⟩ = some (.bool bb) ∧ w'.cell? ⟨aw5,2,none⟩ = some (.slice sb' xb'.length xb'.length) ∧ w'.cell? ⟨aw5,3,none⟩ = some (.bool bb') ∧ w'.cell? ⟨aw1,0,none⟩ = some (.slice sa1 xa1.length xa1.length) ∧ w'.cell? ⟨aw1,1,none⟩ = some (.bool ba1) ∧ w'.cell? ⟨aw1,2,none⟩ = some (.slice sa1' xa1'.length xa1'.length) ∧ w'.cell? ⟨aw1,3,none⟩ = some (.bool ba1') ∧ w'.cell? ⟨pf,0,none⟩ = some (.slice sf xf.length xf.length) ∧ w'.cell? ⟨pf,1,none⟩ = some (.bool bf) ∧ w'.cell? ⟨pf,2,none⟩ = some (.slice sf' xf'.length xf'.length) ∧ w'.cell? ⟨pf,3,none⟩ = some (.bool bf') ∧ w'.cell? ⟨aw8,0,none⟩ = some (.slice sc xc.length xc.length) ∧ w'.cell? ⟨aw8,1,none⟩ = some (.bool bc) ∧ w'.cell? ⟨aw8,2,none⟩ = some (.slice sc' xc'.length xc'.length) ∧ w'.cell? ⟨aw8,3,none⟩ = some (.bool bc') ∧ w'.cell? ⟨aw12,0,none⟩ = some (.slice se xe.length xe.length) ∧ w'.cell? ⟨aw12,1,none⟩ = some (.bool be) ∧ w'.cell? ⟨aw12,2,none⟩ = some (.slice se' xe'.length xe'.length) ∧ w'.cell? ⟨aw12,3,none⟩ = some (.bool be') ∧ w'.cell? ⟨aw10,0,none⟩ = some (.slice sh xh.length xh.length) ∧ w'.cell? ⟨aw10,1,none⟩ = some (.bool bh) ∧ w'.cell? ⟨aw10,2,none⟩ = some (.slice sh' xh'.length xh'.length) ∧ w'.cell? ⟨aw10,3,none⟩ = some (.bool bh') ∧ w'.cell? ⟨pn,0,none⟩ = some (.slice sn xn.length xn.length) ∧ w'.cell? ⟨pn,1,none⟩ = some (.bool bn) ∧ w'.cell? ⟨pn,2,none⟩ = some (.slice sn' xn'.length xn'.length) ∧ w'.cell? ⟨pn,3,none⟩ = some (.bool bn'))
     (first | assumption | exact ⟨Cb0,Cb1,Cb2,Cb3,Ca10,Ca11,Ca12,Ca13,Cf0,Cf1,Cf2,Cf3,Cc0,Cc1,Cc2,Cc3,Cd0,Cd1,Cd2,Cd3,Ch0,Ch1,Ch2,Ch3,Cn0,Cn1,Cn2,Cn3⟩ | go_keep)
     (first
       | (go_at_call 28; (with_reducible refine (D_ w9.drew _ _ A1 A1 5 (qb.kept (k_ (h_ _ _))) (qa1.kept (k_ (h_ _ _))) (by omega) L1.out.1 L1.out.2 L1.out.1 L1.out.2).mono ?_); rintro e e1w17_1 ⟨rfl,ge1w17_1⟩; rw [bG_ A1]; have hGe1w17_1:=o_ w9 ge1w17_1 rfl rfl rfl rfl; have hSe1w17_1:=(n_ (hGe1w17_1.cell Cb0 (by simp)) (n_ (hGe1w17_1.cell Cb1 (by simp)) (n_ (hGe1w17_1.cell Cb2 (by simp)) (n_ (hGe1w17_1.cell Cb3 (by simp)) (n_ (hGe1w17_1.cell Ca10 (by simp)) (n_ (hGe1w17_1.cell Ca11 (by simp)) (n_ (hGe1w17_1.cell Ca12 (by simp)) (n_ (hGe1w17_1.cell Ca13 (by simp)) (n_ (hGe1w17_1.cell Cf0 (by simp)) (n_ (hGe1w17_1.cell Cf1 (by simp)) (n_ (hGe1w17_1.cell Cf2 (by simp)) (n_ (hGe1w17_1.cell Cf3 (by simp)) (n_ (hGe1w17_1.cell Cc0 (by simp)) (n_ (hGe1w17_1.cell Cc1 (by simp)) (n_ (hGe1w17_1.cell Cc2 (by simp)) (n_ (hGe1w17_1.cell Cc3 (by simp)) (n_ (hGe1w17_1.cell Cd0 (by simp)) (n_ (hGe1w17_1.cell Cd1 (by simp)) (n_ (hGe1w17_1.cell Cd2 (by simp)) (n_ (hGe1w17_1.cell Cd3 (by simp)) (n_ (hGe1w17_1.cell Ch0 (by simp)) (n_ (hGe1w17_1.cell Ch1 (by simp)) (n_ (hGe1w17_1.cell Ch2 (by simp)) (n_ (hGe1w17_1.cell Ch3 (by simp)) (n_ (hGe1w17_1.cell Cn0 (by simp)) (n_ (hGe1w17_1.cell Cn1 (by simp)) (n_ (hGe1w17_1.cell Cn2 (by simp)) (hGe1w17_1.cell Cn3 (by simp))))))))))))))))))))))))))))); clear ge1w17_1)
       | (go_at_call 28; (with_reducible refine (D_ e1w17_1 _ _ (F9 : Rat) A1 5 (qf.kept hGe1w17_1) (qa1.kept hGe1w17_1) (by omega) HFB.out.1 HFB.out.2 L1.out.1 L1.out.2).mono ?_); rintro e e1w17_2 ⟨rfl,ge1w17_2⟩; rw [HC1.out]; have hGe1w17_2:=d_ hGe1w17_1 ge1w17_2; have hSe1w17_2:=(n_ (hGe1w17_2.cell Cb0 (by simp)) (n_ (hGe1w17_2.cell Cb1 (by simp)) (n_ (hGe1w17_2.cell Cb2 (by simp)) (n_ (hGe1w17_2.cell Cb3 (by simp)) (n_ (hGe1w17_2.cell Ca10 (by simp)) (n_ (hGe1w17_2.cell Ca11 (by simp)) (n_ (hGe1w17_2.cell Ca12 (by simp)) (n_ (hGe1w17_2.cell Ca13 (by simp)) (n_ (hGe1w17_2.cell Cf0 (by simp)) (n_ (hGe1w17_2.cell Cf1 (by simp)) (n_ (hGe1w17_2.cell Cf2 (by simp)) (n_ (hGe1w17_2.cell Cf3 (by simp)) (n_ (hGe1w17_2.cell Cc0 (by simp)) (n_ (hGe1w17_2.cell Cc1 (by simp)) (n_ (hGe1w17_2.cell Cc2 (by simp)) (n_ (hGe1w17_2.cell Cc3 (by simp)) (n_ (hGe1w17_2.cell Cd0 (by simp)) (n_ (hGe1w17_2.cell Cd1 (by simp)) (n_ (hGe1w17_2.cell Cd2 (by simp)) (n_ (hGe1w17_2.cell Cd3 (by simp)) (n_ (hGe1w17_2.cell Ch0 (by simp)) (n_ (hGe1w17_2.cell Ch1 (by simp)) (n_ (hGe1w17_2.cell Ch2 (by simp)) (n_ (hGe1w17_2.cell Ch3 (by simp)) (n_ (hGe1w17_2.cell Cn0 (by simp)) (n_ (hGe1w17_2.cell Cn1 (by simp)) (n_ (hGe1w17_2.cell Cn2 (by simp)) (hGe1w17_2.cell Cn3 (by simp))))))))))))))))))))))))))))); clear ge1w17_2)
       | (go_at_call 33; (with_reducible refine (ah_ e1w17_2 _ _ (F9 : Rat) ((1 : Int) : Rat) 5 (qf.kept hGe1w17_2) (qc.kept hGe1w17_2) (by omega) HFB.out.1 HFB.out.2 (bw H1B.out.1 (by omega)) (bw H1B.out.2.1 (by omega)) (HTr.out _ hGe1w17_2)).mono ?_); rintro e e1w17_3 ⟨vz1_,rfl,z1_,ge1w17_3⟩; have hGe1w17_3:=d_ hGe1w17_2 ge1w17_3; have hSe1w17_3:=(n_ (hGe1w17_3.cell Cb0 (by simp)) (n_ (hGe1w17_3.cell Cb1 (by simp)) (n_ (hGe1w17_3.cell Cb2 (by simp)) (n_ (hGe1w17_3.cell Cb3 (by simp)) (n_ (hGe1w17_3.cell Ca10 (by simp)) (n_ (hGe1w17_3.cell Ca11 (by simp)) (n_ (hGe1w17_3.cell Ca12 (by simp)) (n_ (hGe1w17_3.cell Ca13 (by simp)) (n_ (hGe1w17_3.cell Cf0 (by simp)) (n_ (hGe1w17_3.cell Cf1 (by simp)) (n_ (hGe1w17_3.cell Cf2 (by simp)) (n_ (hGe1w17_3.cell Cf3 (by simp)) (n_ (hGe1w17_3.cell Cc0 (by simp)) (n_ (hGe1w17_3.cell Cc1 (by simp)) (n_ (hGe1w17_3.cell Cc2 (by simp)) (n_ (hGe1w17_3.cell Cc3 (by simp)) (n_ (hGe1w17_3.cell Cd0 (by simp)) (n_ (hGe1w17_3.cell Cd1 (by simp)) (n_ (hGe1w17_3.cell Cd2 (by simp)) (n_ (hGe1w17_3.cell Cd3 (by simp)) (n_ (hGe1w17_3.cell Ch0 (by simp)) (n_ (hGe1w17_3.cell Ch1 (by simp)) (n_ (hGe1w17_3.cell Ch2 (by simp)) (n_ (hGe1w17_3.cell Ch3 (by simp)) (n_ (hGe1w17_3.cell Cn0 (by simp)) (n_ (hGe1w17_3.cell Cn1 (by simp)) (n_ (hGe1w17_3.cell Cn2 (by simp)) (hGe1w17_3.cell Cn3 (by simp))))))))))))))))))))))))))))); clear ge1w17_3)
       | (go_at_call 28; (with_reducible refine (D_ e1w17_3 _ _ ((F9 : Rat) + ((1 : Int) : Rat)) A1 11 z1_ (qa1.kept hGe1w17_3) (by omega) (aj_ (k:=5) (m:=5) HFB.out.1 HFB.out.2 (bw H1B.out.1 (by omega)) (bw H1B.out.2.1 (by omega))) (ad_ (k:=5) (m:=5) HFB.out.2 (bw H1B.out.2.1 (by omega))) (bw L1.out.1 (by omega)) (bw L1.out.2 (by omega))).mono ?_); rintro e e1w17_4 ⟨rfl,ge1w17_4⟩; rw [HC2.out]; have hGe1w17_4:=d_ hGe1w17_3 ge1w17_4; replace z1_:=z1_.kept ge1w17_4; have hSe1w17_4:=(n_ (hGe1w17_4.cell Cb0 (by simp)) (n_ (hGe1w17_4.cell Cb1 (by simp)) (n_ (hGe1w17_4.cell Cb2 (by simp)) (n_ (hGe1w17_4.cell Cb3 (by simp)) (n_ (hGe1w17_4.cell Ca10 (by simp)) (n_ (hGe1w17_4.cell Ca11 (by simp)) (n_ (hGe1w17_4.cell Ca12 (by simp)) (n_ (hGe1w17_4.cell Ca13 (by simp)) (n_ (hGe1w17_4.cell Cf0 (by simp)) (n_ (hGe1w17_4.cell Cf1 (by simp)) (n_ (hGe1w17_4.cell Cf2 (by simp)) (n_ (hGe1w17_4.cell Cf3 (by simp)) (n_ (hGe1w17_4.cell Cc0 (by simp)) (n_ (hGe1w17_4.cell Cc1 (by simp)) (n_ (hGe1w17_4.cell Cc2 (by simp)) (n_ (hGe1w17_4.cell Cc3 (by simp)) (n_ (hGe1w17_4.cell Cd0 (by simp)) (n_ (hGe1w17_4.cell Cd1 (by simp)) (n_ (hGe1w17_4.cell Cd2 (by simp)) (n_ (hGe1w17_4.cell Cd3 (by simp)) (n_ (hGe1w17_4.cell Ch0 (by simp)) (n_ (hGe1w17_4.cell Ch1 (by simp)) (n_ (hGe1w17_4.cell Ch2 (by simp)) (n_ (hGe1w17_4.cell Ch3 (by simp)) (n_ (hGe1w17_4.cell Cn0 (by simp)) (n_ (hGe1w17_4.cell Cn1 (by simp)) (n_ (hGe1w17_4.cell Cn2 (by simp)) (hGe1w17_4.cell Cn3 (by simp))))))))))))))))))))))))))))); clear ge1w17_4)
       | (go_at_call 28; (with_reducible refine (D_ e1w17_4 _ _ E9 H9 13 (qe.kept hGe1w17_4) (qh.kept hGe1w17_4) (by omega) HEB.out.1 HEB.out.2 (bw HHB.out.1 (by omega)) (bw HHB.out.2 (by omega))).mono ?_); rintro e e1w17_5 ⟨rfl,ge1w17_5⟩; rw [HC3.out]; have hGe1w17_5:=d_ hGe1w17_4 ge1w17_5; replace z1_:=z1_.kept ge1w17_5; have hSe1w17_5:=(n_ (hGe1w17_5.cell Cb0 (by simp)) (n_ (hGe1w17_5.cell Cb1 (by simp)) (n_ (hGe1w17_5.cell Cb2 (by simp)) (n_ (hGe1w17_5.cell Cb3 (by simp)) (n_ (hGe1w17_5.cell Ca10 (by simp)) (n_ (hGe1w17_5.cell Ca11 (by simp)) (n_ (hGe1w17_5.cell Ca12 (by simp)) (n_ (hGe1w17_5.cell Ca13 (by simp)) (n_ (hGe1w17_5.cell Cf0 (by simp)) (n_ (hGe1w17_5.cell Cf1 (by simp)) (n_ (hGe1w17_5.cell Cf2 (by simp)) (n_ (hGe1w17_5.cell Cf3 (by simp)) (n_ (hGe1w17_5.cell Cc0 (by simp)) (n_ (hGe1w17_5.cell Cc1 (by simp)) (n_ (hGe1w17_5.cell Cc2 (by simp)) (n_ (hGe1w17_5.cell Cc3 (by simp)) (n_ (hGe1w17_5.cell Cd0 (by simp)) (n_ (hGe1w17_5.cell Cd1 (by simp)) (n_ (hGe1w17_5.cell Cd2 (by simp)) (n_ (hGe1w17_5.cell Cd3 (by simp)) (n_ (hGe1w17_5.cell Ch0 (by simp)) (n_ (hGe1w17_5.cell Ch1 (by simp)) (n_ (hGe1w17_5.cell Ch2 (by simp)) (n_ (hGe1w17_5.cell Ch3 (by simp)) (n_ (hGe1w17_5.cell Cn0 (by simp)) (n_ (hGe1w17_5.cell Cn1 (by simp)) (n_ (hGe1w17_5.cell Cn2 (by simp)) (hGe1w17_5.cell Cn3 (by simp))))))))))))))))))))))))))))); clear ge1w17_5)
       | (go_at_call 17; (with_reducible refine (bh_ e1w17_5 _ (F9 : Rat) 5 (qf.kept hGe1w17_5) (by omega) HFB.out.1).mono ?_); rintro e e1w17_6 ⟨v1,rfl,n1,ge1w17_6⟩; rw [HN2.out.2.1] at n1; have hGe1w17_6:=d_ hGe1w17_5 ge1w17_6; replace z1_:=z1_.kept ge1w17_6; have hSe1w17_6:=(n_ (hGe1w17_6.cell Cb0 (by simp)) (n_ (hGe1w17_6.cell Cb1 (by simp)) (n_ (hGe1w17_6.cell Cb2 (by simp)) (n_ (hGe1w17_6.cell Cb3 (by simp)) (n_ (hGe1w17_6.cell Ca10 (by simp)) (n_ (hGe1w17_6.cell Ca11 (by simp)) (n_ (hGe1w17_6.cell Ca12 (by simp)) (n_ (hGe1w17_6.cell Ca13 (by simp)) (n_ (hGe1w17_6.cell Cf0 (by simp)) (n_ (hGe1w17_6.cell Cf1 (by simp)) (n_ (hGe1w17_6.cell Cf2 (by simp)) (n_ (hGe1w17_6.cell Cf3 (by simp)) (n_ (hGe1w17_6.cell Cc0 (by simp)) (n_ (hGe1w17_6.cell Cc1 (by simp)) (n_ (hGe1w17_6.cell Cc2 (by simp)) (n_ (hGe1w17_6.cell Cc3 (by simp)) (n_ (hGe1w17_6.cell Cd0 (by simp)) (n_ (hGe1w17_6.cell Cd1 (by simp)) (n_ (hGe1w17_6.cell Cd2 (by simp)) (n_ (hGe1w17_6.cell Cd3 (by simp)) (n_ (hGe1w17_6.cell Ch0 (by simp)) (n_ (hGe1w17_6.cell Ch1 (by simp)) (n_ (hGe1w17_6.cell Ch2 (by simp)) (n_ (hGe1w17_6.cell Ch3 (by simp)) (n_ (hGe1w17_6.cell Cn0 (by simp)) (n_ (hGe1w17_6.cell Cn1 (by simp)) (n_ (hGe1w17_6.cell Cn2 (by simp)) (hGe1w17_6.cell Cn3 (by simp))))))))))))))))))))))))))))); clear ge1w17_6)
       | (go_at_call 25; (with_reducible refine (p_ e1w17_6 _ F9 5 n1 (by omega) HF.out.2.2.1).mono ?_); rintro e e1w17_7 ⟨v2,rfl,n2,ge1w17_7⟩; have hGe1w17_7:=d_ hGe1w17_6 ge1w17_7; replace z1_:=z1_.kept ge1w17_7; replace n1:=n1.kept ge1w17_7; have hSe1w17_7:=(n_ (hGe1w17_7.cell Cb0 (by simp)) (n_ (hGe1w17_7.cell Cb1 (by simp)) (n_ (hGe1w17_7.cell Cb2 (by simp)) (n_ (hGe1w17_7.cell Cb3 (by simp)) (n_ (hGe1w17_7.cell Ca10 (by simp)) (n_ (hGe1w17_7.cell Ca11 (by simp)) (n_ (hGe1w17_7.cell Ca12 (by simp)) (n_ (hGe1w17_7.cell Ca13 (by simp)) (n_ (hGe1w17_7.cell Cf0 (by simp)) (n_ (hGe1w17_7.cell Cf1 (by simp)) (n_ (hGe1w17_7.cell Cf2 (by simp)) (n_ (hGe1w17_7.cell Cf3 (by simp)) (n_ (hGe1w17_7.cell Cc0 (by simp)) (n_ (hGe1w17_7.cell Cc1 (by simp)) (n_ (hGe1w17_7.cell Cc2 (by simp)) (n_ (hGe1w17_7.cell Cc3 (by simp)) (n_ (hGe1w17_7.cell Cd0 (by simp)) (n_ (hGe1w17_7.cell Cd1 (by simp)) (n_ (hGe1w17_7.cell Cd2 (by simp)) (n_ (hGe1w17_7.cell Cd3 (by simp)) (n_ (hGe1w17_7.cell Ch0 (by simp)) (n_ (hGe1w17_7.cell Ch1 (by simp)) (n_ (hGe1w17_7.cell Ch2 (by simp)) (n_ (hGe1w17_7.cell Ch3 (by simp)) (n_ (hGe1w17_7.cell Cn0 (by simp)) (n_ (hGe1w17_7.cell Cn1 (by simp)) (n_ (hGe1w17_7.cell Cn2 (by simp)) (hGe1w17_7.cell Cn3 (by simp))))))))))))))))))))))))))))); clear ge1w17_7)
       | (go_at_call 28; (with_reducible refine (D_ e1w17_7 _ _ (F9 : Rat) (F9 : Rat) 5 n2 (qf.kept hGe1w17_7) (by omega) HFB.out.1 HFB.out.2 HFB.out.1 HFB.out.2).mono ?_); rintro e e1w17_8 ⟨rfl,ge1w17_8⟩; rw [bG_ (F9 : Rat)]; have hGe1w17_8:=d_ hGe1w17_7 ge1w17_8; replace z1_:=z1_.kept ge1w17_8; replace n1:=n1.kept ge1w17_8; replace n2:=n2.kept ge1w17_8; have hSe1w17_8:=(n_ (hGe1w17_8.cell Cb0 (by simp)) (n_ (hGe1w17_8.cell Cb1 (by simp)) (n_ (hGe1w17_8.cell Cb2 (by simp)) (n_ (hGe1w17_8.cell Cb3 (by simp)) (n_ (hGe1w17_8.cell Ca10 (by simp)) (n_ (hGe1w17_8.cell Ca11 (by simp)) (n_ (hGe1w17_8.cell Ca12 (by simp)) (n_ (hGe1w17_8.cell Ca13 (by simp)) (n_ (hGe1w17_8.cell Cf0 (by simp)) (n_ (hGe1w17_8.cell Cf1 (by simp)) (n_ (hGe1w17_8.cell Cf2 (by simp)) (n_ (hGe1w17_8.cell Cf3 (by simp)) (n_ (hGe1w17_8.cell Cc0 (by simp)) (n_ (hGe1w17_8.cell Cc1 (by simp)) (n_ (hGe1w17_8.cell Cc2 (by simp)) (n_ (hGe1w17_8.cell Cc3 (by simp)) (n_ (hGe1w17_8.cell Cd0 (by simp)) (n_ (hGe1w17_8.cell Cd1 (by simp)) (n_ (hGe1w17_8.cell Cd2 (by simp)) (n_ (hGe1w17_8.cell Cd3 (by simp)) (n_ (hGe1w17_8.cell Ch0 (by simp)) (n_ (hGe1w17_8.cell Ch1 (by simp)) (n_ (hGe1w17_8.cell Ch2 (by simp)) (n_ (hGe1w17_8.cell Ch3 (by simp)) (n_ (hGe1w17_8.cell Cn0 (by simp)) (n_ (hGe1w17_8.cell Cn1 (by simp)) (n_ (hGe1w17_8.cell Cn2 (by simp)) (hGe1w17_8.cell Cn3 (by simp))))))))))))))))))))))))))))); clear ge1w17_8)
       | (go_at_call 42; (with_reducible refine (ax_ e1w17_8 _ (F9 : Rat) 5 (qf.kept hGe1w17_8) (by omega) HFB.out.1 HFB.out.2).mono ?_); rintro e e1w17_9 ⟨v3,rfl,n3,ge1w17_9⟩; rw [HN2.out.1] at n3; have hGe1w17_9:=d_ hGe1w17_8 ge1w17_9; replace z1_:=z1_.kept ge1w17_9; replace n1:=n1.kept ge1w17_9; replace n2:=n2.kept ge1w17_9; have hSe1w17_9:=(n_ (hGe1w17_9.cell Cb0 (by simp)) (n_ (hGe1w17_9.cell Cb1 (by simp)) (n_ (hGe1w17_9.cell Cb2 (by simp)) (n_ (hGe1w17_9.cell Cb3 (by simp)) (n_ (hGe1w17_9.cell Ca10 (by simp)) (n_ (hGe1w17_9.cell Ca11 (by simp)) (n_ (hGe1w17_9.cell Ca12 (by simp)) (n_ (hGe1w17_9.cell Ca13 (by simp)) (n_ (hGe1w17_9.cell Cf0 (by simp)) (n_ (hGe1w17_9.cell Cf1 (by simp)) (n_ (hGe1w17_9.cell Cf2 (by simp)) (n_ (hGe1w17_9.cell Cf3 (by simp)) (n_ (hGe1w17_9.cell Cc0 (by simp)) (n_ (hGe1w17_9.cell Cc1 (by simp)) (n_ (hGe1w17_9.cell Cc2 (by simp)) (n_ (hGe1w17_9.cell Cc3 (by simp)) (n_ (hGe1w17_9.cell Cd0 (by simp)) (n_ (hGe1w17_9.cell Cd1 (by simp)) (n_ (hGe1w17_9.cell Cd2 (by simp)) (n_ (hGe1w17_9.cell Cd3 (by simp)) (n_ (hGe1w17_9.cell Ch0 (by simp)) (n_ (hGe1w17_9.cell Ch1 (by simp)) (n_ (hGe1w17_9.cell Ch2 (by simp)) (n_ (hGe1w17_9.cell Ch3 (by simp)) (n_ (hGe1w17_9.cell Cn0 (by simp)) (n_ (hGe1w17_9.cell Cn1 (by simp)) (n_ (hGe1w17_9.cell Cn2 (by simp)) (hGe1w17_9.cell Cn3 (by simp))))))))))))))))))))))))))))); clear ge1w17_9)
       | (go_at_call 17; (with_reducible refine (bh_ e1w17_9 _ (F9 : Rat) 5 (qf.kept hGe1w17_9) (by omega) HFB.out.1).mono ?_); rintro e e1w17_10 ⟨v4,rfl,n4,ge1w17_10⟩; rw [HN2.out.2.1] at n4; have hGe1w17_10:=d_ hGe1w17_9 ge1w17_10; replace z1_:=z1_.kept ge1w17_10; replace n1:=n1.kept ge1w17_10; replace n2:=n2.kept ge1w17_10; replace n3:=n3.kept ge1w17_10; have hSe1w17_10:=(n_ (hGe1w17_10.cell Cb0 (by simp)) (n_ (hGe1w17_10.cell Cb1 (by simp)) (n_ (hGe1w17_10.cell Cb2 (by simp)) (n_ (hGe1w17_10.cell Cb3 (by simp)) (n_ (hGe1w17_10.cell Ca10 (by simp)) (n_ (hGe1w17_10.cell Ca11 (by simp)) (n_ (hGe1w17_10.cell Ca12 (by simp)) (n_ (hGe1w17_10.cell Ca13 (by simp)) (n_ (hGe1w17_10.cell Cf0 (by simp)) (n_ (hGe1w17_10.cell Cf1 (by simp)) (n_ (hGe1w17_10.cell Cf2 (by simp)) (n_ (hGe1w17_10.cell Cf3 (by simp)) (n_ (hGe1w17_10.cell Cc0 (by simp)) (n_ (hGe1w17_10.cell Cc1 (by simp)) (n_ (hGe1w17_10.cell Cc2 (by simp)) (n_ (hGe1w17_10.cell Cc3 (by simp)) (n_ (hGe1w17_10.cell Cd0 (by simp)) (n_ (hGe1w17_10.cell Cd1 (by simp)) (n_ (hGe1w17_10.cell Cd2 (by simp)) (n_ (hGe1w17_10.cell Cd3 (by simp)) (n_ (hGe1w17_10.cell Ch0 (by simp)) (n_ (hGe1w17_10.cell Ch1 (by simp)) (n_ (hGe1w17_10.cell Ch2 (by simp)) (n_ (hGe1w17_10.cell Ch3 (by simp)) (n_ (hGe1w17_10.cell Cn0 (by simp)) (n_ (hGe1w17_10.cell Cn1 (by simp)) (n_ (hGe1w17_10.cell Cn2 (by simp)) (hGe1w17_10.cell Cn3 (by simp))))))))))))))))))))))))))))); clear ge1w17_10)
       | (go_at_call 48; (with_reducible refine (bw_ e1w17_10 _ _ F9 F9 5 n3 n4 (by omega) HF.out.2.2.1 HF.out.2.2.1).mono ?_); rintro e e1w17_11 ⟨rfl,ge1w17_11⟩; rw [eX_ (rfl : F9 = F9)]; have hGe1w17_11:=d_ hGe1w17_10 ge1w17_11; replace z1_:=z1_.kept ge1w17_11; replace n1:=n1.kept ge1w17_11; replace n2:=n2.kept ge1w17_11; replace n3:=n3.kept ge1w17_11; replace n4:=n4.kept ge1w17_11; have hSe1w17_11:=(n_ (hGe1w17_11.cell Cb0 (by simp)) (n_ (hGe1w17_11.cell Cb1 (by simp)) (n_ (hGe1w17_11.cell Cb2 (by simp)) (n_ (hGe1w17_11.cell Cb3 (by simp)) (n_ (hGe1w17_11.cell Ca10 (by simp)) (n_ (hGe1w17_11.cell Ca11 (by simp)) (n_ (hGe1w17_11.cell Ca12 (by simp)) (n_ (hGe1w17_11.cell Ca13 (by simp)) (n_ (hGe1w17_11.cell Cf0 (by simp)) (n_ (hGe1w17_11.cell Cf1 (by simp)) (n_ (hGe1w17_11.cell Cf2 (by simp)) (n_ (hGe1w17_11.cell Cf3 (by simp)) (n_ (hGe1w17_11.cell Cc0 (by simp)) (n_ (hGe1w17_11.cell Cc1 (by simp)) (n_ (hGe1w17_11.cell Cc2 (by simp)) (n_ (hGe1w17_11.cell Cc3 (by simp)) (n_ (hGe1w17_11.cell Cd0 (by simp)) (n_ (hGe1w17_11.cell Cd1 (by simp)) (n_ (hGe1w17_11.cell Cd2 (by simp)) (n_ (hGe1w17_11.cell Cd3 (by simp)) (n_ (hGe1w17_11.cell Ch0 (by simp)) (n_ (hGe1w17_11.cell Ch1 (by simp)) (n_ (hGe1w17_11.cell Ch2 (by simp)) (n_ (hGe1w17_11.cell Ch3 (by simp)) (n_ (hGe1w17_11.cell Cn0 (by simp)) (n_ (hGe1w17_11.cell Cn1 (by simp)) (n_ (hGe1w17_11.cell Cn2 (by simp)) (hGe1w17_11.cell Cn3 (by simp))))))))))))))))))))))))))))); clear ge1w17_11)
       | (go_at_call 44; (with_reducible refine (E_ e1w17_11 _ (N9 : Rat) 6 (qn.kept hGe1w17_11) (by omega) HNB.out.1 HNB.out.2).mono ?_); rintro e e1w17_12 ⟨v5,rfl,n5,ge1w17_12⟩; rw [HN1.out] at n5; have hGe1w17_12:=d_ hGe1w17_11 ge1w17_12; replace z1_:=z1_.kept ge1w17_12; replace n1:=n1.kept ge1w17_12; replace n2:=n2.kept ge1w17_12; replace n3:=n3.kept ge1w17_12; replace n4:=n4.kept ge1w17_12; have hSe1w17_12:=(n_ (hGe1w17_12.cell Cb0 (by simp)) (n_ (hGe1w17_12.cell Cb1 (by simp)) (n_ (hGe1w17_12.cell Cb2 (by simp)) (n_ (hGe1w17_12.cell Cb3 (by simp)) (n_ (hGe1w17_12.cell Ca10 (by simp)) (n_ (hGe1w17_12.cell Ca11 (by simp)) (n_ (hGe1w17_12.cell Ca12 (by simp)) (n_ (hGe1w17_12.cell Ca13 (by simp)) (n_ (hGe1w17_12.cell Cf0 (by simp)) (n_ (hGe1w17_12.cell Cf1 (by simp)) (n_ (hGe1w17_12.cell Cf2 (by simp)) (n_ (hGe1w17_12.cell Cf3 (by simp)) (n_ (hGe1w17_12.cell Cc0 (by simp)) (n_ (hGe1w17_12.cell Cc1 (by simp)) (n_ (hGe1w17_12.cell Cc2 (by simp)) (n_ (hGe1w17_12.cell Cc3 (by simp)) (n_ (hGe1w17_12.cell Cd0 (by simp)) (n_ (hGe1w17_12.cell Cd1 (by simp)) (n_ (hGe1w17_12.cell Cd2 (by simp)) (n_ (hGe1w17_12.cell Cd3 (by simp)) (n_ (hGe1w17_12.cell Ch0 (by simp)) (n_ (hGe1w17_12.cell Ch1 (by simp)) (n_ (hGe1w17_12.cell Ch2 (by simp)) (n_ (hGe1w17_12.cell Ch3 (by simp)) (n_ (hGe1w17_12.cell Cn0 (by simp)) (n_ (hGe1w17_12.cell Cn1 (by simp)) (n_ (hGe1w17_12.cell Cn2 (by simp)) (hGe1w17_12.cell Cn3 (by simp))))))))))))))))))))))))))))); clear ge1w17_12)
       | (go_at_call 17; (with_reducible refine (bh_ e1w17_12 _ (N9 : Rat) 6 (qn.kept hGe1w17_12) (by omega) HNB.out.1).mono ?_); rintro e e1w17_13 ⟨v6,rfl,n6,ge1w17_13⟩; rw [HN2.out.2.2] at n6; have hGe1w17_13:=d_ hGe1w17_12 ge1w17_13; replace z1_:=z1_.kept ge1w17_13; replace n1:=n1.kept ge1w17_13; replace n2:=n2.kept ge1w17_13; replace n3:=n3.kept ge1w17_13; replace n4:=n4.kept ge1w17_13; replace n5:=n5.kept ge1w17_13; have hSe1w17_13:=(n_ (hGe1w17_13.cell Cb0 (by simp)) (n_ (hGe1w17_13.cell Cb1 (by simp)) (n_ (hGe1w17_13.cell Cb2 (by simp)) (n_ (hGe1w17_13.cell Cb3 (by simp)) (n_ (hGe1w17_13.cell Ca10 (by simp)) (n_ (hGe1w17_13.cell Ca11 (by simp)) (n_ (hGe1w17_13.cell Ca12 (by simp)) (n_ (hGe1w17_13.cell Ca13 (by simp)) (n_ (hGe1w17_13.cell Cf0 (by simp)) (n_ (hGe1w17_13.cell Cf1 (by simp)) (n_ (hGe1w17_13.cell Cf2 (by simp)) (n_ (hGe1w17_13.cell Cf3 (by simp)) (n_ (hGe1w17_13.cell Cc0 (by simp)) (n_ (hGe1w17_13.cell Cc1 (by simp)) (n_ (hGe1w17_13.cell Cc2 (by simp)) (n_ (hGe1w17_13.cell Cc3 (by simp)) (n_ (hGe1w17_13.cell Cd0 (by simp)) (n_ (hGe1w17_13.cell Cd1 (by simp)) (n_ (hGe1w17_13.cell Cd2 (by simp)) (n_ (hGe1w17_13.cell Cd3 (by simp)) (n_ (hGe1w17_13.cell Ch0 (by simp)) (n_ (hGe1w17_13.cell Ch1 (by simp)) (n_ (hGe1w17_13.cell Ch2 (by simp)) (n_ (hGe1w17_13.cell Ch3 (by simp)) (n_ (hGe1w17_13.cell Cn0 (by simp)) (n_ (hGe1w17_13.cell Cn1 (by simp)) (n_ (hGe1w17_13.cell Cn2 (by simp)) (hGe1w17_13.cell Cn3 (by simp))))))))))))))))))))))))))))); clear ge1w17_13)
       | (go_at_call 48; (with_reducible refine (bw_ e1w17_13 _ _ N9 N9 6 n5 n6 (by omega) HF.out.2.2.2 HF.out.2.2.2).mono ?_); rintro e e1w17_14 ⟨rfl,ge1w17_14⟩; rw [eX_ (rfl : N9 = N9)]; have hGe1w17_14:=d_ hGe1w17_13 ge1w17_14; replace z1_:=z1_.kept ge1w17_14; replace n1:=n1.kept ge1w17_14; replace n2:=n2.kept ge1w17_14; replace n3:=n3.kept ge1w17_14; replace n4:=n4.kept ge1w17_14; replace n5:=n5.kept ge1w17_14; replace n6:=n6.kept ge1w17_14; have hSe1w17_14:=(n_ (hGe1w17_14.cell Cb0 (by simp)) (n_ (hGe1w17_14.cell Cb1 (by simp)) (n_ (hGe1w17_14.cell Cb2 (by simp)) (n_ (hGe1w17_14.cell Cb3 (by simp)) (n_ (hGe1w17_14.cell Ca10 (by simp)) (n_ (hGe1w17_14.cell Ca11 (by simp)) (n_ (hGe1w17_14.cell Ca12 (by simp)) (n_ (hGe1w17_14.cell Ca13 (by simp)) (n_ (hGe1w17_14.cell Cf0 (by simp)) (n_ (hGe1w17_14.cell Cf1 (by simp)) (n_ (hGe1w17_14.cell Cf2 (by simp)) (n_ (hGe1w17_14.cell Cf3 (by simp)) (n_ (hGe1w17_14.cell Cc0 (by simp)) (n_ (hGe1w17_14.cell Cc1 (by simp)) (n_ (hGe1w17_14.cell Cc2 (by simp)) (n_ (hGe1w17_14.cell Cc3 (by simp)) (n_ (hGe1w17_14.cell Cd0 (by simp)) (n_ (hGe1w17_14.cell Cd1 (by simp)) (n_ (hGe1w17_14.cell Cd2 (by simp)) (n_ (hGe1w17_14.cell Cd3 (by simp)) (n_ (hGe1w17_14.cell Ch0 (by simp)) (n_ (hGe1w17_14.cell Ch1 (by simp)) (n_ (hGe1w17_14.cell Ch2 (by simp)) (n_ (hGe1w17_14.cell Ch3 (by simp)) (n_ (hGe1w17_14.cell Cn0 (by simp)) (n_ (hGe1w17_14.cell Cn1 (by simp)) (n_ (hGe1w17_14.cell Cn2 (by simp)) (hGe1w17_14.cell Cn3 (by simp))))))))))))))))))))))))))))); clear ge1w17_14))
    replace Ba1:=a_ hGe1w17_14 Ba1
    replace Bb:=a_ hGe1w17_14 Bb
    replace Bf:=a_ hGe1w17_14 Bf
    replace Bn:=a_ hGe1w17_14 Bn
    replace Bc:=a_ hGe1w17_14 Bc
    replace Bh:=a_ hGe1w17_14 Bh
    replace Bd:=a_ hGe1w17_14 Bd
    replace hG:=d_ hG hGe1w17_14
    clear Ca10 Fa10 Ca11 Fa11 Ca12 Fa12 Ca13 Fa13 Cb0 Fb0 Cb1 Fb1 Cb2 Fb2 Cb3 Fb3 Cf0 Ff0 Cf1 Ff1 Cf2 Ff2 Cf3 Ff3 Cn0 Fn0 Cn1 Fn1 Cn2 Fn2 Cn3 Fn3 Cc0 Fc0 Cc1 Fc1 Cc2 Fc2 Cc3 Fc3 Ch0 Fh0 Ch1 Fh1 Ch2 Fh2 Ch3 Fh3 Cd0 Fd0 Cd1 Fd1 Cd2 Fd2 Cd3 Fd3
    obtain ⟨Ca10,Ca11,Ca12,Ca13,Fa10,Fa11,Fa12,Fa13⟩:=b_ Ba1
    obtain ⟨Cb0,Cb1,Cb2,Cb3,Fb0,Fb1,Fb2,Fb3⟩:=b_ Bb
    obtain ⟨Cf0,Cf1,Cf2,Cf3,Ff0,Ff1,Ff2,Ff3⟩:=b_ Bf
    obtain ⟨Cn0,Cn1,Cn2,Cn3,Fn0,Fn1,Fn2,Fn3⟩:=b_ Bn
    obtain ⟨Cc0,Cc1,Cc2,Cc3,Fc0,Fc1,Fc2,Fc3⟩:=b_ Bc
    obtain ⟨Ch0,Ch1,Ch2,Ch3,Fh0,Fh1,Fh2,Fh3⟩:=b_ Bh
    obtain ⟨Cd0,Cd1,Cd2,Cd3,Fd0,Fd1,Fd2,Fd3⟩:=b_ Bd
    go_wp2_with fail
    go_ret
    exact ⟨by first | rfl | simp,hG⟩
  · skip
    generalize (w12.alloc (.cells #[.slice sd xd.length xd.length,.bool bd,.slice sd' xd'.length xd'.length,.bool bd'] 28)) = w13 at *
    generalize w12.heap.size = aw12 at *
    replace hzw12:=hzw12.out
    replace hla1w12:=hla1w12.out
    replace hlx1w12:=hlx1w12.out
    replace hlbw12:=hlbw12.out
    replace hlfw12:=hlfw12.out
    replace hlnw12:=hlnw12.out
    replace hlcw12:=hlcw12.out
    replace hlhw12:=hlhw12.out
    clear Ca10 Fa10 Ca11 Fa11 Ca12 Fa12 Ca13 Fa13 Cx10 Fx10 Cx11 Fx11 Cx12 Fx12 Cx13 Fx13 Cb0 Fb0 Cb1 Fb1 Cb2 Fb2 Cb3 Fb3 Cf0 Ff0 Cf1 Ff1 Cf2 Ff2 Cf3 Ff3 Cn0 Fn0 Cn1 Fn1 Cn2 Fn2 Cn3 Fn3 Cc0 Fc0 Cc1 Fc1 Cc2 Fc2 Cc3 Fc3 Ch0 Fh0 Ch1 Fh1 Ch2 Fh2 Ch3 Fh3 Cd0 Fd0 Cd1 Fd1 Cd2 Fd2 Cd3 Fd3
    refine (S_ w13 _ D9 13 qd (by omega) HDB.out.1).mono ?_
    rintro e e0w14 ⟨rfl,ge0w14⟩
    rw [HSD.out]
    replace Ba1:=a_ ge0w14 Ba1
    replace Bx1:=a_ ge0w14 Bx1
    replace Bb:=a_ ge0w14 Bb
    replace Bf:=a_ ge0w14 Bf
    replace Bn:=a_ ge0w14 Bn
    replace Bc:=a_ ge0w14 Bc
    replace Bh:=a_ ge0w14 Bh
    replace Bd:=a_ ge0w14 Bd
    replace qa1:=qa1.kept ge0w14
    replace qb:=qb.kept ge0w14
    replace qf:=qf.kept ge0w14
    replace qn:=qn.kept ge0w14
    replace qc:=qc.kept ge0w14
    replace qh:=qh.kept ge0w14
    replace qd:=qd.kept ge0w14
    replace hG:=d_ hG ge0w14
    clear ge0w14
    obtain ⟨Ca10,Ca11,Ca12,Ca13,Fa10,Fa11,Fa12,Fa13⟩:=b_ Ba1
    obtain ⟨Cx10,Cx11,Cx12,Cx13,Fx10,Fx11,Fx12,Fx13⟩:=b_ Bx1
    obtain ⟨Cb0,Cb1,Cb2,Cb3,Fb0,Fb1,Fb2,Fb3⟩:=b_ Bb
    obtain ⟨Cf0,Cf1,Cf2,Cf3,Ff0,Ff1,Ff2,Ff3⟩:=b_ Bf
    obtain ⟨Cn0,Cn1,Cn2,Cn3,Fn0,Fn1,Fn2,Fn3⟩:=b_ Bn
    obtain ⟨Cc0,Cc1,Cc2,Cc3,Fc0,Fc1,Fc2,Fc3⟩:=b_ Bc
    obtain ⟨Ch0,Ch1,Ch2,Ch3,Fh0,Fh1,Fh2,Fh3⟩:=b_ Bh
    obtain ⟨Cd0,Cd1,Cd2,Cd3,Fd0,Fd1,Fd2,Fd3⟩:=b_ Bd
    go_wp2_with fail
    have hd9:=qd
    have qe : RatV e0w14 (.agg #[.slice sd xd.length xd.length,.bool bd,.slice sd' xd'.length xd'.length,.bool bd']) E9:=by rw [HE.out]; exact qd
    have HTr : Hid (∀ W,e0w14.grownBy W none → Tab W):=fun W hW=>HTB.out _ (d_ hG hW)
    go_region_held3 (fun w'=>w'.cell? ⟨aw5,0,none⟩ = some (.slice sb xb.length xb.length) ∧ w'.cell? ⟨aw5,1,none⟩ = some (.bool bb) ∧ w'.cell? ⟨aw5,2,none⟩ = some (.slice sb' xb'.length xb'.length) ∧ w'.cell? ⟨aw5,3,none⟩ = some (.bool bb') ∧ w'.cell? ⟨aw1,0,none⟩ = some (.slice sa1 xa1.length xa1.length) ∧ w'.cell? ⟨aw1,1,none⟩ = some (.bool ba1) ∧ w'.cell? ⟨aw1,2,none⟩ = some (.slice sa1' xa1'.length xa1'.length) ∧ w'.cell? ⟨aw1,3,none⟩ = some (.bool ba1') ∧ w'.cell? ⟨pf,0,none⟩ = some (.slice sf xf.length xf.length) ∧ w'.cell? ⟨pf,1,none⟩ = some (.bool bf) ∧ w'.cell? ⟨pf,2,none⟩ = some (.slice sf' xf'.length xf'.length) ∧ w'.cell? ⟨pf,3,none⟩ = some (.bool bf') ∧ w'.cell? ⟨aw8,0,none⟩ = some (.slice sc xc.length xc.length) ∧ w'.cell? ⟨aw8,1,none⟩ = some (.bool bc) ∧ w'.cell? ⟨aw8,2,none⟩ = some (.slice sc' xc'.length xc'.length) ∧ w'.cell? ⟨aw8,3,none⟩ = some (.bool bc') ∧ w'.cell? ⟨aw12,0,none⟩ = some (.slice sd xd.length xd.length) ∧ w'.cell? ⟨aw12,1,none⟩ = some (.bool bd) ∧ w'.cell? ⟨aw12,2,none⟩ = some (.slice sd' xd'.length xd'.length) ∧ w'.cell? ⟨aw12,3,none⟩ = some (.bool bd') ∧ w'.cell? ⟨aw10,0,none⟩ = some (.slice sh xh.length xh.length) ∧ w'.cell? ⟨aw10,1,none⟩ = some (.bool bh) ∧ w'.cell? ⟨aw10,2,none⟩ = some (.slice sh' xh'.length xh'.length) ∧ w'.cell? ⟨aw10,3,none⟩ = some (.bool bh') ∧ w'.cell? ⟨pn,0,none⟩ = some (.slice sn xn.length xn.length) ∧ w'.cell? ⟨pn,1,none⟩ = some (.bool bn) ∧ w'.cell? ⟨pn,2,none⟩ = some (.slice sn' xn'.length xn'.length) ∧ w'.cell? ⟨pn,3,none⟩ = some (.bool bn'))
     (first | assumption | exact ⟨Cb0,Cb1,Cb2,Cb3,Ca10,Ca11,Ca12,Ca13,Cf0,Cf1,Cf2,Cf3,Cc0,Cc1,Cc2,Cc3,Cd0,Cd1,Cd2,Cd3,Ch0,Ch1,Ch2,Ch3,Cn0,Cn1,Cn2,Cn3⟩ | go_keep)
     (first
       | (go_at_call 28; (with_reducible refine (D_ e0w14.drew _ _ A1 A1 5 (qb.kept (k_ (h_ _ _))) (qa1.kept (k_ (h_ _ _))) (by omega) L1.out.1 L1.out.2 L1.out.1 L1.out.2).mono ?_); rintro e e0w15_1 ⟨rfl,ge0w15_1⟩; rw [bG_ A1]; have hGe0w15_1:=o_ e0w14 ge0w15_1 rfl rfl rfl rfl; have hSe0w15_1:=(n_ (hGe0w15_1.cell Cb0 (by simp)) (n_ (hGe0w15_1.cell Cb1 (by simp)) (n_ (hGe0w15_1.cell Cb2 (by simp)) (n_ (hGe0w15_1.cell Cb3 (by simp)) (n_ (hGe0w15_1.cell Ca10 (by simp)) (n_ (hGe0w15_1.cell Ca11 (by simp)) (n_ (hGe0w15_1.cell Ca12 (by simp)) (n_ (hGe0w15_1.cell Ca13 (by simp)) (n_ (hGe0w15_1.cell Cf0 (by simp)) (n_ (hGe0w15_1.cell Cf1 (by simp)) (n_ (hGe0w15_1.cell Cf2 (by simp)) (n_ (hGe0w15_1.cell Cf3 (by simp)) (n_ (hGe0w15_1.cell Cc0 (by simp)) (n_ (hGe0w15_1.cell Cc1 (by simp)) (n_ (hGe0w15_1.cell Cc2 (by simp)) (n_ (hGe0w15_1.cell Cc3 (by simp)) (n_ (hGe0w15_1.cell Cd0 (by simp)) (n_ (hGe0w15_1.cell Cd1 (by simp)) (n_ (hGe0w15_1.cell Cd2 (by simp)) (n_ (hGe0w15_1.cell Cd3 (by simp)) (n_ (hGe0w15_1.cell Ch0 (by simp)) (n_ (hGe0w15_1.cell Ch1 (by simp)) (n_ (hGe0w15_1.cell Ch2 (by simp)) (n_ (hGe0w15_1.cell Ch3 (by simp)) (n_ (hGe0w15_1.cell Cn0 (by simp)) (n_ (hGe0w15_1.cell Cn1 (by simp)) (n_ (hGe0w15_1.cell Cn2 (by simp)) (hGe0w15_1.cell Cn3 (by simp))))))))))))))))))))))))))))); clear ge0w15_1)
       | (go_at_call 28; (with_reducible refine (D_ e0w15_1 _ _ (F9 : Rat) A1 5 (qf.kept hGe0w15_1) (qa1.kept hGe0w15_1) (by omega) HFB.out.1 HFB.out.2 L1.out.1 L1.out.2).mono ?_); rintro e e0w15_2 ⟨rfl,ge0w15_2⟩; rw [HC1.out]; have hGe0w15_2:=d_ hGe0w15_1 ge0w15_2; have hSe0w15_2:=(n_ (hGe0w15_2.cell Cb0 (by simp)) (n_ (hGe0w15_2.cell Cb1 (by simp)) (n_ (hGe0w15_2.cell Cb2 (by simp)) (n_ (hGe0w15_2.cell Cb3 (by simp)) (n_ (hGe0w15_2.cell Ca10 (by simp)) (n_ (hGe0w15_2.cell Ca11 (by simp)) (n_ (hGe0w15_2.cell Ca12 (by simp)) (n_ (hGe0w15_2.cell Ca13 (by simp)) (n_ (hGe0w15_2.cell Cf0 (by simp)) (n_ (hGe0w15_2.cell Cf1 (by simp)) (n_ (hGe0w15_2.cell Cf2 (by simp)) (n_ (hGe0w15_2.cell Cf3 (by simp)) (n_ (hGe0w15_2.cell Cc0 (by simp)) (n_ (hGe0w15_2.cell Cc1 (by simp)) (n_ (hGe0w15_2.cell Cc2 (by simp)) (n_ (hGe0w15_2.cell Cc3 (by simp)) (n_ (hGe0w15_2.cell Cd0 (by simp)) (n_ (hGe0w15_2.cell Cd1 (by simp)) (n_ (hGe0w15_2.cell Cd2 (by simp)) (n_ (hGe0w15_2.cell Cd3 (by simp)) (n_ (hGe0w15_2.cell Ch0 (by simp)) (n_ (hGe0w15_2.cell Ch1 (by simp)) (n_ (hGe0w15_2.cell Ch2 (by simp)) (n_ (hGe0w15_2.cell Ch3 (by simp)) (n_ (hGe0w15_2.cell Cn0 (by simp)) (n_ (hGe0w15_2.cell Cn1 (by simp)) (n_ (hGe0w15_2.cell Cn2 (by simp)) (hGe0w15_2.cell Cn3 (by simp))))))))))))))))))))))))))))); clear ge0w15_2)
       | (go_at_call 33; (with_reducible refine (ah_ e0w15_2 _ _ (F9 : Rat) ((1 : Int) : Rat) 5 (qf.kept hGe0w15_2) (qc.kept hGe0w15_2) (by omega) HFB.out.1 HFB.out.2 (bw H1B.out.1 (by omega)) (bw H1B.out.2.1 (by omega)) (HTr.out _ hGe0w15_2)).mono ?_); rintro e e0w15_3 ⟨vz2_,rfl,z2_,ge0w15_3⟩; have hGe0w15_3:=d_ hGe0w15_2 ge0w15_3; have hSe0w15_3:=(n_ (hGe0w15_3.cell Cb0 (by simp)) (n_ (hGe0w15_3.cell Cb1 (by simp)) (n_ (hGe0w15_3.cell Cb2 (by simp)) (n_ (hGe0w15_3.cell Cb3 (by simp)) (n_ (hGe0w15_3.cell Ca10 (by simp)) (n_ (hGe0w15_3.cell Ca11 (by simp)) (n_ (hGe0w15_3.cell Ca12 (by simp)) (n_ (hGe0w15_3.cell Ca13 (by simp)) (n_ (hGe0w15_3.cell Cf0 (by simp)) (n_ (hGe0w15_3.cell Cf1 (by simp)) (n_ (hGe0w15_3.cell Cf2 (by simp)) (n_ (hGe0w15_3.cell Cf3 (by simp)) (n_ (hGe0w15_3.cell Cc0 (by simp)) (n_ (hGe0w15_3.cell Cc1 (by simp)) (n_ (hGe0w15_3.cell Cc2 (by simp)) (n_ (hGe0w15_3.cell Cc3 (by simp)) (n_ (hGe0w15_3.cell Cd0 (by simp)) (n_ (hGe0w15_3.cell Cd1 (by simp)) (n_ (hGe0w15_3.cell Cd2 (by simp)) (n_ (hGe0w15_3.cell Cd3 (by simp)) (n_ (hGe0w15_3.cell Ch0 (by simp)) (n_ (hGe0w15_3.cell Ch1 (by simp)) (n_ (hGe0w15_3.cell Ch2 (by simp)) (n_ (hGe0w15_3.cell Ch3 (by simp)) (n_ (hGe0w15_3.cell Cn0 (by simp)) (n_ (hGe0w15_3.cell Cn1 (by simp)) (n_ (hGe0w15_3.cell Cn2 (by simp)) (hGe0w15_3.cell Cn3 (by simp))))))))))))))))))))))))))))); clear ge0w15_3)
       | (go_at_call 28; (with_reducible refine (D_ e0w15_3 _ _ ((F9 : Rat) + ((1 : Int) : Rat)) A1 11 z2_ (qa1.kept hGe0w15_3) (by omega) (aj_ (k:=5) (m:=5) HFB.out.1 HFB.out.2 (bw H1B.out.1 (by omega)) (bw H1B.out.2.1 (by omega))) (ad_ (k:=5) (m:=5) HFB.out.2 (bw H1B.out.2.1 (by omega))) (bw L1.out.1 (by omega)) (bw L1.out.2 (by omega))).mono ?_); rintro e e0w15_4 ⟨rfl,ge0w15_4⟩; rw [HC2.out]; have hGe0w15_4:=d_ hGe0w15_3 ge0w15_4; replace z2_:=z2_.kept ge0w15_4; have hSe0w15_4:=(n_ (hGe0w15_4.cell Cb0 (by simp)) (n_ (hGe0w15_4.cell Cb1 (by simp)) (n_ (hGe0w15_4.cell Cb2 (by simp)) (n_ (hGe0w15_4.cell Cb3 (by simp)) (n_ (hGe0w15_4.cell Ca10 (by simp)) (n_ (hGe0w15_4.cell Ca11 (by simp)) (n_ (hGe0w15_4.cell Ca12 (by simp)) (n_ (hGe0w15_4.cell Ca13 (by simp)) (n_ (hGe0w15_4.cell Cf0 (by simp)) (n_ (hGe0w15_4.cell Cf1 (by simp)) (n_ (hGe0w15_4.cell Cf2 (by simp)) (n_ (hGe0w15_4.cell Cf3 (by simp)) (n_ (hGe0w15_4.cell Cc0 (by simp)) (n_ (hGe0w15_4.cell Cc1 (by simp)) (n_ (hGe0w15_4.cell Cc2 (by simp)) (n_ (hGe0w15_4.cell Cc3 (by simp)) (n_ (hGe0w15_4.cell Cd0 (by simp)) (n_ (hGe0w15_4.cell Cd1 (by simp)) (n_ (hGe0w15_4.cell Cd2 (by simp)) (n_ (hGe0w15_4.cell Cd3 (by simp)) (n_ (hGe0w15_4.cell Ch0 (by simp)) (n_ (hGe0w15_4.cell Ch1 (by simp)) (n_ (hGe0w15_4.cell Ch2 (by simp)) (n_ (hGe0w15_4.cell Ch3 (by simp)) (n_ (hGe0w15_4.cell Cn0 (by simp)) (n_ (hGe0w15_4.cell Cn1 (by simp)) (n_ (hGe0w15_4.cell Cn2 (by simp)) (hGe0w15_4.cell Cn3 (by simp))))))))))))))))))))))))))))); clear ge0w15_4)
       | (go_at_call 28; (with_reducible refine (D_ e0w15_4 _ _ E9 H9 13 (qe.kept hGe0w15_4) (qh.kept hGe0w15_4) (by omega) HEB.out.1 HEB.out.2 (bw HHB.out.1 (by omega)) (bw HHB.out.2 (by omega))).mono ?_); rintro e e0w15_5 ⟨rfl,ge0w15_5⟩; rw [HC3.out]; have hGe0w15_5:=d_ hGe0w15_4 ge0w15_5; replace z2_:=z2_.kept ge0w15_5; have hSe0w15_5:=(n_ (hGe0w15_5.cell Cb0 (by simp)) (n_ (hGe0w15_5.cell Cb1 (by simp)) (n_ (hGe0w15_5.cell Cb2 (by simp)) (n_ (hGe0w15_5.cell Cb3 (by simp)) (n_ (hGe0w15_5.cell Ca10 (by simp)) (n_ (hGe0w15_5.cell Ca11 (by simp)) (n_ (hGe0w15_5.cell Ca12 (by simp)) (n_ (hGe0w15_5.cell Ca13 (by simp)) (n_ (hGe0w15_5.cell Cf0 (by simp)) (n_ (hGe0w15_5.cell Cf1 (by simp)) (n_ (hGe0w15_5.cell Cf2 (by simp)) (n_ (hGe0w15_5.cell Cf3 (by simp)) (n_ (hGe0w15_5.cell Cc0 (by simp)) (n_ (hGe0w15_5.cell Cc1 (by simp)) (n_ (hGe0w15_5.cell Cc2 (by simp)) (n_ (hGe0w15_5.cell Cc3 (by simp)) (n_ (hGe0w15_5.cell Cd0 (by simp)) (n_ (hGe0w15_5.cell Cd1 (by simp)) (n_ (hGe0w15_5.cell Cd2 (by simp)) (n_ (hGe0w15_5.cell Cd3 (by simp)) (n_ (hGe0w15_5.cell Ch0 (by simp)) (n_ (hGe0w15_5.cell Ch1 (by simp)) (n_ (hGe0w15_5.cell Ch2 (by simp)) (n_ (hGe0w15_5.cell Ch3 (by simp)) (n_ (hGe0w15_5.cell Cn0 (by simp)) (n_ (hGe0w15_5.cell Cn1 (by simp)) (n_ (hGe0w15_5.cell Cn2 (by simp)) (hGe0w15_5.cell Cn3 (by simp))))))))))))))))))))))))))))); clear ge0w15_5)
       | (go_at_call 17; (with_reducible refine (bh_ e0w15_5 _ (F9 : Rat) 5 (qf.kept hGe0w15_5) (by omega) HFB.out.1).mono ?_); rintro e e0w15_6 ⟨v1,rfl,n1,ge0w15_6⟩; rw [HN2.out.2.1] at n1; have hGe0w15_6:=d_ hGe0w15_5 ge0w15_6; replace z2_:=z2_.kept ge0w15_6; have hSe0w15_6:=(n_ (hGe0w15_6.cell Cb0 (by simp)) (n_ (hGe0w15_6.cell Cb1 (by simp)) (n_ (hGe0w15_6.cell Cb2 (by simp)) (n_ (hGe0w15_6.cell Cb3 (by simp)) (n_ (hGe0w15_6.cell Ca10 (by simp)) (n_ (hGe0w15_6.cell Ca11 (by simp)) (n_ (hGe0w15_6.cell Ca12 (by simp)) (n_ (hGe0w15_6.cell Ca13 (by simp)) (n_ (hGe0w15_6.cell Cf0 (by simp)) (n_ (hGe0w15_6.cell Cf1 (by simp)) (n_ (hGe0w15_6.cell Cf2 (by simp)) (n_ (hGe0w15_6.cell Cf3 (by simp)) (n_ (hGe0w15_6.cell Cc0 (by simp)) (n_ (hGe0w15_6.cell Cc1 (by simp)) (n_ (hGe0w15_6.cell Cc2 (by simp)) (n_ (hGe0w15_6.cell Cc3 (by simp)) (n_ (hGe0w15_6.cell Cd0 (by simp)) (n_ (hGe0w15_6.cell Cd1 (by simp)) (n_ (hGe0w15_6.cell Cd2 (by simp)) (n_ (hGe0w15_6.cell Cd3 (by simp)) (n_ (hGe0w15_6.cell Ch0 (by simp)) (n_ (hGe0w15_6.cell Ch1 (by simp)) (n_ (hGe0w15_6.cell Ch2 (by simp)) (n_ (hGe0w15_6.cell Ch3 (by simp)) (n_ (hGe0w15_6.cell Cn0 (by simp)) (n_ (hGe0w15_6.cell Cn1 (by simp)) (n_ (hGe0w15_6.cell Cn2 (by simp)) (hGe0w15_6.cell Cn3 (by simp))))))))))))))))))))))))))))); clear ge0w15_6)
       | (go_at_call 25; (with_reducible refine (p_ e0w15_6 _ F9 5 n1 (by omega) HF.out.2.2.1).mono ?_); rintro e e0w15_7 ⟨v2,rfl,n2,ge0w15_7⟩; have hGe0w15_7:=d_ hGe0w15_6 ge0w15_7; replace z2_:=z2_.kept ge0w15_7; replace n1:=n1.kept ge0w15_7; have hSe0w15_7:=(n_ (hGe0w15_7.cell Cb0 (by simp)) (n_ (hGe0w15_7.cell Cb1 (by simp)) (n_ (hGe0w15_7.cell Cb2 (by simp)) (n_ (hGe0w15_7.cell Cb3 (by simp)) (n_ (hGe0w15_7.cell Ca10 (by simp)) (n_ (hGe0w15_7.cell Ca11 (by simp)) (n_ (hGe0w15_7.cell Ca12 (by simp)) (n_ (hGe0w15_7.cell Ca13 (by simp)) (n_ (hGe0w15_7.cell Cf0 (by simp)) (n_ (hGe0w15_7.cell Cf1 (by simp)) (n_ (hGe0w15_7.cell Cf2 (by simp)) (n_ (hGe0w15_7.cell Cf3 (by simp)) (n_ (hGe0w15_7.cell Cc0 (by simp)) (n_ (hGe0w15_7.cell Cc1 (by simp)) (n_ (hGe0w15_7.cell Cc2 (by simp)) (n_ (hGe0w15_7.cell Cc3 (by simp)) (n_ (hGe0w15_7.cell Cd0 (by simp)) (n_ (hGe0w15_7.cell Cd1 (by simp)) (n_ (hGe0w15_7.cell Cd2 (by simp)) (n_ (hGe0w15_7.cell Cd3 (by simp)) (n_ (hGe0w15_7.cell Ch0 (by simp)) (n_ (hGe0w15_7.cell Ch1 (by simp)) (n_ (hGe0w15_7.cell Ch2 (by simp)) (n_ (hGe0w15_7.cell Ch3 (by simp)) (n_ (hGe0w15_7.cell Cn0 (by simp)) (n_ (hGe0w15_7.cell Cn1 (by simp)) (n_ (hGe0w15_7.cell Cn2 (by simp)) (hGe0w15_7.cell Cn3 (by simp))))))))))))))))))))))))))))); clear ge0w15_7)
       | (go_at_call 28; (with_reducible refine (D_ e0w15_7 _ _ (F9 : Rat) (F9 : Rat) 5 n2 (qf.kept hGe0w15_7) (by omega) HFB.out.1 HFB.out.2 HFB.out.1 HFB.out.2).mono ?_); rintro e e0w15_8 ⟨rfl,ge0w15_8⟩; rw [bG_ (F9 : Rat)]; have hGe0w15_8:=d_ hGe0w15_7 ge0w15_8; replace z2_:=z2_.kept ge0w15_8; replace n1:=n1.kept ge0w15_8; replace n2:=n2.kept ge0w15_8; have hSe0w15_8:=(n_ (hGe0w15_8.cell Cb0 (by simp)) (n_ (hGe0w15_8.cell Cb1 (by simp)) (n_ (hGe0w15_8.cell Cb2 (by simp)) (n_ (hGe0w15_8.cell Cb3 (by simp)) (n_ (hGe0w15_8.cell Ca10 (by simp)) (n_ (hGe0w15_8.cell Ca11 (by simp)) (n_ (hGe0w15_8.cell Ca12 (by simp)) (n_ (hGe0w15_8.cell Ca13 (by simp)) (n_ (hGe0w15_8.cell Cf0 (by simp)) (n_ (hGe0w15_8.cell Cf1 (by simp)) (n_ (hGe0w15_8.cell Cf2 (by simp)) (n_ (hGe0w15_8.cell Cf3 (by simp)) (n_ (hGe0w15_8.cell Cc0 (by simp)) (n_ (hGe0w15_8.cell Cc1 (by simp)) (n_ (hGe0w15_8.cell Cc2 (by simp)) (n_ (hGe0w15_8.cell Cc3 (by simp)) (n_ (hGe0w15_8.cell Cd0 (by simp)) (n_ (hGe0w15_8.cell Cd1 (by simp)) (n_ (hGe0w15_8.cell Cd2 (by simp)) (n_ (hGe0w15_8.cell Cd3 (by simp)) (n_ (hGe0w15_8.cell Ch0 (by simp)) (n_ (hGe0w15_8.cell Ch1 (by simp)) (n_ (hGe0w15_8.cell Ch2 (by simp)) (n_ (hGe0w15_8.cell Ch3 (by simp)) (n_ (hGe0w15_8.cell Cn0 (by simp)) (n_ (hGe0w15_8.cell Cn1 (by simp)) (n_ (hGe0w15_8.cell Cn2 (by simp)) (hGe0w15_8.cell Cn3 (by simp))))))))))))))))))))))))))))); clear ge0w15_8)
       | (go_at_call 42; (with_reducible refine (ax_ e0w15_8 _ (F9 : Rat) 5 (qf.kept hGe0w15_8) (by omega) HFB.out.1 HFB.out.2).mono ?_); rintro e e0w15_9 ⟨v3,rfl,n3,ge0w15_9⟩; rw [HN2.out.1] at n3; have hGe0w15_9:=d_ hGe0w15_8 ge0w15_9; replace z2_:=z2_.kept ge0w15_9; replace n1:=n1.kept ge0w15_9; replace n2:=n2.kept ge0w15_9; have hSe0w15_9:=(n_ (hGe0w15_9.cell Cb0 (by simp)) (n_ (hGe0w15_9.cell Cb1 (by simp)) (n_ (hGe0w15_9.cell Cb2 (by simp)) (n_ (hGe0w15_9.cell Cb3 (by simp)) (n_ (hGe0w15_9.cell Ca10 (by simp)) (n_ (hGe0w15_9.cell Ca11 (by simp)) (n_ (hGe0w15_9.cell Ca12 (by simp)) (n_ (hGe0w15_9.cell Ca13 (by simp)) (n_ (hGe0w15_9.cell Cf0 (by simp)) (n_ (hGe0w15_9.cell Cf1 (by simp)) (n_ (hGe0w15_9.cell Cf2 (by simp)) (n_ (hGe0w15_9.cell Cf3 (by simp)) (n_ (hGe0w15_9.cell Cc0 (by simp)) (n_ (hGe0w15_9.cell Cc1 (by simp)) (n_ (hGe0w15_9.cell Cc2 (by simp)) (n_ (hGe0w15_9.cell Cc3 (by simp)) (n_ (hGe0w15_9.cell Cd0 (by simp)) (n_ (hGe0w15_9.cell Cd1 (by simp)) (n_ (hGe0w15_9.cell Cd2 (by simp)) (n_ (hGe0w15_9.cell Cd3 (by simp)) (n_ (hGe0w15_9.cell Ch0 (by simp)) (n_ (hGe0w15_9.cell Ch1 (by simp)) (n_ (hGe0w15_9.cell Ch2 (by simp)) (n_ (hGe0w15_9.cell Ch3 (by simp)) (n_ (hGe0w15_9.cell Cn0 (by simp)) (n_ (hGe0w15_9.cell Cn1 (by simp)) (n_ (hGe0w15_9.cell Cn2 (by simp)) (hGe0w15_9.cell Cn3 (by simp))))))))))))))))))))))))))))); clear ge0w15_9)
       | (go_at_call 17; (with_reducible refine (bh_ e0w15_9 _ (F9 : Rat) 5 (qf.kept hGe0w15_9) (by omega) HFB.out.1).mono ?_); rintro e e0w15_10 ⟨v4,rfl,n4,ge0w15_10⟩; rw [HN2.out.2.1] at n4; have hGe0w15_10:=d_ hGe0w15_9 ge0w15_10; replace z2_:=z2_.kept ge0w15_10; replace n1:=n1.kept ge0w15_10; replace n2:=n2.kept ge0w15_10; replace n3:=n3.kept ge0w15_10; have hSe0w15_10:=(n_ (hGe0w15_10.cell Cb0 (by simp)) (n_ (hGe0w15_10.cell Cb1 (by simp)) (n_ (hGe0w15_10.cell Cb2 (by simp)) (n_ (hGe0w15_10.cell Cb3 (by simp)) (n_ (hGe0w15_10.cell Ca10 (by simp)) (n_ (hGe0w15_10.cell Ca11 (by simp)) (n_ (hGe0w15_10.cell Ca12 (by simp)) (n_ (hGe0w15_10.cell Ca13 (by simp)) (n_ (hGe0w15_10.cell Cf0 (by simp)) (n_ (hGe0w15_10.cell Cf1 (by simp)) (n_ (hGe0w15_10.cell Cf2 (by simp)) (n_ (hGe0w15_10.cell Cf3 (by simp)) (n_ (hGe0w15_10.cell Cc0 (by simp)) (n_ (hGe0w15_10.cell Cc1 (by simp)) (n_ (hGe0w15_10.cell Cc2 (by simp)) (n_ (hGe0w15_10.cell Cc3 (by simp)) (n_ (hGe0w15_10.cell Cd0 (by simp)) (n_ (hGe0w15_10.cell Cd1 (by simp)) (n_ (hGe0w15_10.cell Cd2 (by simp)) (n_ (hGe0w15_10.cell Cd3 (by simp)) (n_ (hGe0w15_10.cell Ch0 (by simp)) (n_ (hGe0w15_10.cell Ch1 (by simp)) (n_ (hGe0w15_10.cell Ch2 (by simp)) (n_ (hGe0w15_10.cell Ch3 (by simp)) (n_ (hGe0w15_10.cell Cn0 (by simp)) (n_ (hGe0w15_10.cell Cn1 (by simp)) (n_ (hGe0w15_10.cell Cn2 (by simp)) (hGe0w15_10.cell Cn3 (by simp))))))))))))))))))))))))))))); clear ge0w15_10)
       | (go_at_call 48; (with_reducible refine (bw_ e0w15_10 _ _ F9 F9 5 n3 n4 (by omega) HF.out.2.2.1 HF.out.2.2.1).mono ?_); rintro e e0w15_11 ⟨rfl,ge0w15_11⟩; rw [eX_ (rfl : F9 = F9)]; have hGe0w15_11:=d_ hGe0w15_10 ge0w15_11; replace z2_:=z2_.kept ge0w15_11; replace n1:=n1.kept ge0w15_11; replace n2:=n2.kept ge0w15_11; replace n3:=n3.kept ge0w15_11; replace n4:=n4.kept ge0w15_11; have hSe0w15_11:=(n_ (hGe0w15_11.cell Cb0 (by simp)) (n_ (hGe0w15_11.cell Cb1 (by simp)) (n_ (hGe0w15_11.cell Cb2 (by simp)) (n_ (hGe0w15_11.cell Cb3 (by simp)) (n_ (hGe0w15_11.cell Ca10 (by simp)) (n_ (hGe0w15_11.cell Ca11 (by simp)) (n_ (hGe0w15_11.cell Ca12 (by simp)) (n_ (hGe0w15_11.cell Ca13 (by simp)) (n_ (hGe0w15_11.cell Cf0 (by simp)) (n_ (hGe0w15_11.cell Cf1 (by simp)) (n_ (hGe0w15_11.cell Cf2 (by simp)) (n_ (hGe0w15_11.cell Cf3 (by simp)) (n_ (hGe0w15_11.cell Cc0 (by simp)) (n_ (hGe0w15_11.cell Cc1 (by simp)) (n_ (hGe0w15_11.cell Cc2 (by simp)) (n_ (hGe0w15_11.cell Cc3 (by simp)) (n_ (hGe0w15_11.cell Cd0 (by simp)) (n_ (hGe0w15_11.cell Cd1 (by simp)) (n_ (hGe0w15_11.cell Cd2 (by simp)) (n_ (hGe0w15_11.cell Cd3 (by simp)) (n_ (hGe0w15_11.cell Ch0 (by simp)) (n_ (hGe0w15_11.cell Ch1 (by simp)) (n_ (hGe0w15_11.cell Ch2 (by simp)) (n_ (hGe0w15_11.cell Ch3 (by simp)) (n_ (hGe0w15_11.cell Cn0 (by simp)) (n_ (hGe0w15_11.cell Cn1 (by simp)) (n_ (hGe0w15_11.cell Cn2 (by simp)) (hGe0w15_11.cell Cn3 (by simp))))))))))))))))))))))))))))); clear ge0w15_11)
       | (go_at_call 44; (with_reducible refine (E_ e0w15_11 _ (N9 : Rat) 6 (qn.kept hGe0w15_11) (by omega) HNB.out.1 HNB.out.2).mono ?_); rintro e e0w15_12 ⟨v5,rfl,n5,ge0w15_12⟩; rw [HN1.out] at n5; have hGe0w15_12:=d_ hGe0w15_11 ge0w15_12; replace z2_:=z2_.kept ge0w15_12; replace n1:=n1.kept ge0w15_12; replace n2:=n2.kept ge0w15_12; replace n3:=n3.kept ge0w15_12; replace n4:=n4.kept ge0w15_12; have hSe0w15_12:=(n_ (hGe0w15_12.cell Cb0 (by simp)) (n_ (hGe0w15_12.cell Cb1 (by simp)) (n_ (hGe0w15_12.cell Cb2 (by simp)) (n_ (hGe0w15_12.cell Cb3 (by simp)) (n_ (hGe0w15_12.cell Ca10 (by simp)) (n_ (hGe0w15_12.cell Ca11 (by simp)) (n_ (hGe0w15_12.cell Ca12 (by simp)) (n_ (hGe0w15_12.cell Ca13 (by simp)) (n_ (hGe0w15_12.cell Cf0 (by simp)) (n_ (hGe0w15_12.cell Cf1 (by simp)) (n_ (hGe0w15_12.cell Cf2 (by simp)) (n_ (hGe0w15_12.cell Cf3 (by simp)) (n_ (hGe0w15_12.cell Cc0 (by simp)) (n_ (hGe0w15_12.cell Cc1 (by simp)) (n_ (hGe0w15_12.cell Cc2 (by simp)) (n_ (hGe0w15_12.cell Cc3 (by simp)) (n_ (hGe0w15_12.cell Cd0 (by simp)) (n_ (hGe0w15_12.cell Cd1 (by simp)) (n_ (hGe0w15_12.cell Cd2 (by simp)) (n_ (hGe0w15_12.cell Cd3 (by simp)) (n_ (hGe0w15_12.cell Ch0 (by simp)) (n_ (hGe0w15_12.cell Ch1 (by simp)) (n_ (hGe0w15_12.cell Ch2 (by simp)) (n_ (hGe0w15_12.cell Ch3 (by simp)) (n_ (hGe0w15_12.cell Cn0 (by simp)) (n_ (hGe0w15_12.cell Cn1 (by simp)) (n_ (hGe0w15_12.cell Cn2 (by simp)) (hGe0w15_12.cell Cn3 (by simp))))))))))))))))))))))))))))); clear ge0w15_12)
       | (go_at_call 17; (with_reducible refine (bh_ e0w15_12 _ (N9 : Rat) 6 (qn.kept hGe0w15_12) (by omega) HNB.out.1).mono ?_); rintro e e0w15_13 ⟨v6,rfl,n6,ge0w15_13⟩; rw [HN2.out.2.2] at n6; have hGe0w15_13:=d_ hGe0w15_12 ge0w15_13; replace z2_:=z2_.kept ge0w15_13; replace n1:=n1.kept ge0w15_13; replace n2:=n2.kept ge0w15_13; replace n3:=n3.kept ge0w15_13; replace n4:=n4.kept ge0w15_13; replace n5:=n5.kept ge0w15_13; have hSe0w15_13:=(n_ (hGe0w15_13.cell Cb0 (by simp)) (n_ (hGe0w15_13.cell Cb1 (by simp)) (n_ (hGe0w15_13.cell Cb2 (by simp)) (n_ (hGe0w15_13.cell Cb3 (by simp)) (n_ (hGe0w15_13.cell Ca10 (by simp)) (n_ (hGe0w15_13.cell Ca11 (by simp)) (n_ (hGe0w15_13.cell Ca12 (by simp)) (n_ (hGe0w15_13.cell Ca13 (by simp)) (n_ (hGe0w15_13.cell Cf0 (by simp)) (n_ (hGe0w15_13.cell Cf1 (by simp)) (n_ (hGe0w15_13.cell Cf2 (by simp)) (n_ (hGe0w15_13.cell Cf3 (by simp)) (n_ (hGe0w15_13.cell Cc0 (by simp)) (n_ (hGe0w15_13.cell Cc1 (by simp)) (n_ (hGe0w15_13.cell Cc2 (by simp)) (n_ (hGe0w15_13.cell Cc3 (by simp)) (n_ (hGe0w15_13.cell Cd0 (by simp)) (n_ (hGe0w15_13.cell Cd1 (by simp)) (n_ (hGe0w15_13.cell Cd2 (by simp)) (n_ (hGe0w15_13.cell Cd3 (by simp)) (n_ (hGe0w15_13.cell Ch0 (by simp)) (n_ (hGe0w15_13.cell Ch1 (by simp)) (n_ (hGe0w15_13.cell Ch2 (by simp)) (n_ (hGe0w15_13.cell Ch3 (by simp)) (n_ (hGe0w15_13.cell Cn0 (by simp)) (n_ (hGe0w15_13.cell Cn1 (by simp)) (n_ (hGe0w15_13.cell Cn2 (by simp)) (hGe0w15_13.cell Cn3 (by simp))))))))))))))))))))))))))))); clear ge0w15_13)
       | (go_at_call 48; (with_reducible refine (bw_ e0w15_13 _ _ N9 N9 6 n5 n6 (by omega) HF.out.2.2.2 HF.out.2.2.2).mono ?_); rintro e e0w15_14 ⟨rfl,ge0w15_14⟩; rw [eX_ (rfl : N9 = N9)]; have hGe0w15_14:=d_ hGe0w15_13 ge0w15_14; replace z2_:=z2_.kept ge0w15_14; replace n1:=n1.kept ge0w15_14; replace n2:=n2.kept ge0w15_14; replace n3:=n3.kept ge0w15_14; replace n4:=n4.kept ge0w15_14; replace n5:=n5.kept ge0w15_14; replace n6:=n6.kept ge0w15_14; have hSe0w15_14:=(n_ (hGe0w15_14.cell Cb0 (by simp)) (n_ (hGe0w15_14.cell Cb1 (by simp)) (n_ (hGe0w15_14.cell Cb2 (by simp)) (n_ (hGe0w15_14.cell Cb3 (by simp)) (n_ (hGe0w15_14.cell Ca10 (by simp)) (n_ (hGe0w15_14.cell Ca11 (by simp)) (n_ (hGe0w15_14.cell Ca12 (by simp)) (n_ (hGe0w15_14.cell Ca13 (by simp)) (n_ (hGe0w15_14.cell Cf0 (by simp)) (n_ (hGe0w15_14.cell Cf1 (by simp)) (n_ (hGe0w15_14.cell Cf2 (by simp)) (n_ (hGe0w15_14.cell Cf3 (by simp)) (n_ (hGe0w15_14.cell Cc0 (by simp)) (n_ (hGe0w15_14.cell Cc1 (by simp)) (n_ (hGe0w15_14.cell Cc2 (by simp)) (n_ (hGe0w15_14.cell Cc3 (by simp)) (n_ (hGe0w15_14.cell Cd0 (by simp)) (n_ (hGe0w15_14.cell Cd1 (by simp)) (n_ (hGe0w15_14.cell Cd2 (by simp)) (n_ (hGe0w15_14.cell Cd3 (by simp)) (n_ (hGe0w15_14.cell Ch0 (by simp)) (n_ (hGe0w15_14.cell Ch1 (by simp)) (n_ (hGe0w15_14.cell Ch2 (by simp)) (n_ (hGe0w15_14.cell Ch3 (by simp)) (n_ (hGe0w15_14.cell Cn0 (by simp)) (n_ (hGe0w15_14.cell Cn1 (by simp)) (n_ (hGe0w15_14.cell Cn2 (by simp)) (hGe0w15_14.cell Cn3 (by simp))))))))))))))))))))))))))))); clear ge0w15_14))
    replace Ba1:=a_ hGe0w15_14 Ba1
    replace Bx1:=a_ hGe0w15_14 Bx1
    replace Bb:=a_ hGe0w15_14 Bb
    replace Bf:=a_ hGe0w15_14 Bf
    replace Bn:=a_ hGe0w15_14 Bn
    replace Bc:=a_ hGe0w15_14 Bc
    replace Bh:=a_ hGe0w15_14 Bh
    replace Bd:=a_ hGe0w15_14 Bd
    replace hG:=d_ hG hGe0w15_14
    clear Ca10 Fa10 Ca11 Fa11 Ca12 Fa12 Ca13 Fa13 Cx10 Fx10 Cx11 Fx11 Cx12 Fx12 Cx13 Fx13 Cb0 Fb0 Cb1 Fb1 Cb2 Fb2 Cb3 Fb3 Cf0 Ff0 Cf1 Ff1 Cf2 Ff2 Cf3 Ff3 Cn0 Fn0 Cn1 Fn1 Cn2 Fn2 Cn3 Fn3 Cc0 Fc0 Cc1 Fc1 Cc2 Fc2 Cc3 Fc3 Ch0 Fh0 Ch1 Fh1 Ch2 Fh2 Ch3 Fh3 Cd0 Fd0 Cd1 Fd1 Cd2 Fd2 Cd3 Fd3
    obtain ⟨Ca10,Ca11,Ca12,Ca13,Fa10,Fa11,Fa12,Fa13⟩:=b_ Ba1
    obtain ⟨Cx10,Cx11,Cx12,Cx13,Fx10,Fx11,Fx12,Fx13⟩:=b_ Bx1
    obtain ⟨Cb0,Cb1,Cb2,Cb3,Fb0,Fb1,Fb2,Fb3⟩:=b_ Bb
    obtain ⟨Cf0,Cf1,Cf2,Cf3,Ff0,Ff1,Ff2,Ff3⟩:=b_ Bf
    obtain ⟨Cn0,Cn1,Cn2,Cn3,Fn0,Fn1,Fn2,Fn3⟩:=b_ Bn
    obtain ⟨Cc0,Cc1,Cc2,Cc3,Fc0,Fc1,Fc2,Fc3⟩:=b_ Bc
    obtain ⟨Ch0,Ch1,Ch2,Ch3,Fh0,Fh1,Fh2,Fh3⟩:=b_ Bh
    obtain ⟨Cd0,Cd1,Cd2,Cd3,Fd0,Fd1,Fd2,Fd3⟩:=b_ Bd
    go_wp2_with fail
    go_ret
    exact ⟨by first | rfl | simp,hG⟩
end Go.Proofs.YtgbbdgioohaknaaGreatDoor
