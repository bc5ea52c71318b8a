/- What the laws lean on, part 58. -/
import Derived.Deep.RegionHeld3
import Derived.Test.YtgbbdgioohaknaaGreatDoorPb17
import Derived.Test.YtgbbdgioohaknaaGreatDoorPb26
import Derived.Test.YtgbbdgioohaknaaGreatDoorPb28
import Derived.Test.YtgbbdgioohaknaaGreatDoorPb37
import Derived.Test.YtgbbdgioohaknaaGreatDoorPb38
import Derived.Test.YtgbbdgioohaknaaGreatDoorPb50
namespace Go.Proofs.YtgbbdgioohaknaaGreatDoor
open Go.RowKit Mat
set_option maxRecDepth 100000
set_option linter.unusedVariables false
set_option linter.unusedSimpArgs false
set_option maxHeartbeats 16000000 in
theorem ey_ (w : World) (s : ByteArray) (hTab : Tab w) :
    Calls Tryz.prog 3 #[.string s] w (fun e w'=>e = .returned (.bool true) ∧ w.grownBy w' none):=by
 have HTB : Hid (∀ W,w.grownBy W none → Tab W):=fun W hW=>hTab.kept hW (by simp)
 clear hTab
 have hG : w.grownBy w none:=h_ _ _
 have hcut : ∃ t : ByteArray,t.size ≤ 300 ∧ ((300 < s.size ∧ t = s.extract 0 300) ∨ (¬ 300 < s.size ∧ t = s)):=by
  by_cases h : 300 < s.size
  · exact ⟨_,by rw [ByteArray.size_extract]; omega,Or.inl ⟨h,rfl⟩⟩
  · exact ⟨s,by omega,Or.inr ⟨h,rfl⟩⟩
 obtain ⟨t,ht,hcut⟩:=hcut
 obtain ⟨c,hc⟩ : ∃ c,dc_ t = c:=⟨_,rfl⟩
 obtain ⟨A1,hA⟩ : ∃ r,cG_ t = r:=⟨_,rfl⟩
 have L1 : Hid (A1.num.natAbs < B ^ 16 ∧ A1.den < B ^ 16):=⟨hA ▸ iQ_ t ht (by omega),hA ▸ iR_ t ht (by omega) (by omega)⟩
 have LD : Hid (((A1.den : Nat) : Int).natAbs < B ^ 16):=by show _ < _; rw [Int.natAbs_natCast]; exact L1.out.2
 have P1 : Hid (∀ W,Tab W → Calls Tryz.prog 11 #[.string t] W (V_ W A1 c)):=fun W hT=>by rw [← hc,← hA]; exact aV_ W t (by omega) hT
 have P2 : Hid (∀ W,Calls Tryz.prog 12 #[.string t] W (cf_ W A1 75 c)):=fun W=>by rw [← hc,← hA]; exact cC_ W t 75 (by omega) (by omega) (by omega)
 have hcc : ((c == 0) = true ∧ c = 0) ∨ ((c == 0) = false ∧ Hid (A1 = 0)):=by
  by_cases h : c = 0
  · left; exact ⟨by rw [h]; rfl,h⟩
  · right; refine ⟨beq_eq_false_iff_ne.2 h,?_⟩
    show A1 = 0
    rw [← hA]; unfold cG_; rw [if_neg (by rw [hc]; exact h)]
 have T0 : Hid (ch_ { data:=#[48] } 0):=Or.inl ⟨rfl,[48],cc_ (by decide +kernel),by decide +kernel,by decide +kernel⟩
 clear hc hA ht
 rcases hcut with ⟨hl,htx⟩ | ⟨hl,htx⟩
 · skip
   have fl : decide ((300 : Int) < (s.size : Int)) = true:=decide_eq_true (by omega)
   rw [htx] at P1 P2
   have hl2 : (300 : Int) ≤ (s.size : Int):=by omega
   clear htx
   rcases hcc with ⟨f0,hcc⟩ | ⟨f0,hcc⟩
   · skip
     subst hcc
     clear f0
     go_enter Tryz.func3,Tryz.ntmps3
     go_wp2_with fail
     refine (P1.out w (HTB.out _ hG)).mono ?_
     rintro e l1z1w1 ⟨_,rfl,⟨sa1,xa1,ba1,sa1',xa1',ba1',rfl,ha1,ha1'⟩,gl1z1w1⟩
     have qa1 : RatV l1z1w1 (.agg #[.slice sa1 xa1.length xa1.length,.bool ba1,.slice sa1' xa1'.length xa1'.length,.bool ba1']) (A1):=⟨sa1,xa1,ba1,sa1',xa1',ba1',rfl,ha1,ha1'⟩
     replace hG:=d_ hG gl1z1w1
     clear gl1z1w1
     clear ha1 ha1'
     have gbl1z1w1:=(wg_ l1z1w1 (.cells #[.slice sa1 xa1.length xa1.length,.bool ba1,.slice sa1' xa1'.length xa1'.length,.bool ba1'] 28) none)
     have Ba1:=(f_ l1z1w1 (.cells #[.slice sa1 xa1.length xa1.length,.bool ba1,.slice sa1' xa1'.length xa1'.length,.bool ba1'] 28) (l1z1w1.heap.size) rfl)
     have hzl1z1w1 : Hid (w.heap.size ≤ l1z1w1.heap.size):=H_ hG.size
     replace qa1:=qa1.kept gbl1z1w1
     replace hG:=d_ hG gbl1z1w1
     clear gbl1z1w1
     obtain ⟨Ca10,Ca11,Ca12,Ca13,Fa10,Fa11,Fa12,Fa13⟩:=b_ Ba1
     go_wp2_with fail
     generalize (l1z1w1.alloc (.cells #[.slice sa1 xa1.length xa1.length,.bool ba1,.slice sa1' xa1'.length xa1'.length,.bool ba1'] 28)) = l1z1w2 at *
     generalize l1z1w1.heap.size = al1z1w1 at *
     replace hzl1z1w1:=hzl1z1w1.out
     clear Ca10 Fa10 Ca11 Fa11 Ca12 Fa12 Ca13 Fa13
     refine (P2.out l1z1w2).mono ?_
     rintro e l1z1w3 ⟨_,rfl,⟨gx1,sx1,lx1,cx1,gx1',sx1',lx1',cx1',nx1,dx1,rfl,hx1,hx1',ux1⟩,gl1z1w3⟩
     have yx1 : RQ l1z1w3 (.agg #[.int .i64 gx1,.slice sx1 lx1 cx1,.int .i64 gx1',.slice sx1' lx1' cx1']) A1 75:=⟨gx1,sx1,lx1,cx1,gx1',sx1',lx1',cx1',nx1,dx1,rfl,hx1,hx1',ux1⟩
     replace Ba1:=a_ gl1z1w3 Ba1
     replace qa1:=qa1.kept gl1z1w3
     replace hG:=d_ hG gl1z1w3
     clear gl1z1w3
     clear hx1 hx1'
     obtain ⟨Ca10,Ca11,Ca12,Ca13,Fa10,Fa11,Fa12,Fa13⟩:=b_ Ba1
     have gbl1z1w3:=(wg_ l1z1w3 (.cells #[.int .i64 gx1,.slice sx1 lx1 cx1,.int .i64 gx1',.slice sx1' lx1' cx1'] 38) none)
     have Bx1:=(f_ l1z1w3 (.cells #[.int .i64 gx1,.slice sx1 lx1 cx1,.int .i64 gx1',.slice sx1' lx1' cx1'] 38) (l1z1w3.heap.size) rfl)
     have hzl1z1w3 : Hid (w.heap.size ≤ l1z1w3.heap.size):=H_ hG.size
     have hla1l1z1w3 : Hid (al1z1w1 < l1z1w3.heap.size):=H_ (Array.getElem?_eq_some_iff.1 Ba1).1
     clear Ca10 Fa10 Ca11 Fa11 Ca12 Fa12 Ca13 Fa13
     replace Ba1:=a_ gbl1z1w3 Ba1
     replace qa1:=qa1.kept gbl1z1w3
     replace yx1:=yx1.kept gbl1z1w3
     replace hG:=d_ hG gbl1z1w3
     clear gbl1z1w3
     obtain ⟨Ca10,Ca11,Ca12,Ca13,Fa10,Fa11,Fa12,Fa13⟩:=b_ Ba1
     obtain ⟨Cx10,Cx11,Cx12,Cx13,Fx10,Fx11,Fx12,Fx13⟩:=b_ Bx1
     go_wp2_with fail
     generalize (l1z1w3.alloc (.cells #[.int .i64 gx1,.slice sx1 lx1 cx1,.int .i64 gx1',.slice sx1' lx1' cx1'] 38)) = l1z1w4 at *
     generalize l1z1w3.heap.size = al1z1w3 at *
     replace hzl1z1w3:=hzl1z1w3.out
     replace hla1l1z1w3:=hla1l1z1w3.out
     clear Ca10 Fa10 Ca11 Fa11 Ca12 Fa12 Ca13 Fa13 Cx10 Fx10 Cx11 Fx11 Cx12 Fx12 Cx13 Fx13
     refine (A_ l1z1w4 (HTB.out _ hG)).mono ?_
     rintro e l1z1w5 ⟨rfl,gl1z1w5⟩
     replace Ba1:=a_ gl1z1w5 Ba1
     replace Bx1:=a_ gl1z1w5 Bx1
     replace qa1:=qa1.kept gl1z1w5
     replace yx1:=yx1.kept gl1z1w5
     replace hG:=d_ hG gl1z1w5
     clear gl1z1w5
     obtain ⟨Ca10,Ca11,Ca12,Ca13,Fa10,Fa11,Fa12,Fa13⟩:=b_ Ba1
     obtain ⟨Cx10,Cx11,Cx12,Cx13,Fx10,Fx11,Fx12,Fx13⟩:=b_ Bx1
     go_wp2_with fail
     have hgx:=yx1.sign.out
     have HGX:=H_ hgx
     clear hgx
     clear Ca10 Fa10 Ca11 Fa11 Ca12 Fa12 Ca13 Fa13 Cx10 Fx10 Cx11 Fx11 Cx12 Fx12 Cx13 Fx13
     refine (cQ_ l1z1w5 _ A1 75 yx1 (by omega)).mono ?_
     rintro e l1z1w6 ⟨_,_,rfl,⟨gd,sd,ld,cd,rfl,hd,md⟩,⟨ge,se,le,ce,rfl,he,me⟩,gl1z1w6⟩
     have rd : RIntV l1z1w6 (.agg #[.int .i64 gd,.slice sd ld cd]) (A1.num):=⟨gd,sd,ld,cd,rfl,hd,md⟩
     have re : RIntV l1z1w6 (.agg #[.int .i64 ge,.slice se le ce]) ((A1.den : Int)):=⟨ge,se,le,ce,rfl,he,me⟩
     replace Ba1:=a_ gl1z1w6 Ba1
     replace Bx1:=a_ gl1z1w6 Bx1
     replace qa1:=qa1.kept gl1z1w6
     replace yx1:=yx1.kept gl1z1w6
     replace hG:=d_ hG gl1z1w6
     clear gl1z1w6
     clear md
     clear me
     obtain ⟨Ca10,Ca11,Ca12,Ca13,Fa10,Fa11,Fa12,Fa13⟩:=b_ Ba1
     obtain ⟨Cx10,Cx11,Cx12,Cx13,Fx10,Fx11,Fx12,Fx13⟩:=b_ Bx1
     have gbl1z1w6:=(l_ (wg_ l1z1w6 (.cells #[.int .i64 gd,.slice sd ld cd] 36) none) (.cells #[.int .i64 ge,.slice se le ce] 36))
     have Bd:=a_ (wg_ _ (.cells #[.int .i64 ge,.slice se le ce] 36) none) (f_ l1z1w6 (.cells #[.int .i64 gd,.slice sd ld cd] 36) (l1z1w6.heap.size) rfl)
     have Be:=(f_ (l1z1w6.alloc (.cells #[.int .i64 gd,.slice sd ld cd] 36)) (.cells #[.int .i64 ge,.slice se le ce] 36) (l1z1w6.heap.size + 1) (by simp))
     have hzl1z1w6 : Hid (w.heap.size ≤ l1z1w6.heap.size):=H_ hG.size
     have hla1l1z1w6 : Hid (al1z1w1 < l1z1w6.heap.size):=H_ (Array.getElem?_eq_some_iff.1 Ba1).1
     have hlx1l1z1w6 : Hid (al1z1w3 < l1z1w6.heap.size):=H_ (Array.getElem?_eq_some_iff.1 Bx1).1
     clear Ca10 Fa10 Ca11 Fa11 Ca12 Fa12 Ca13 Fa13 Cx10 Fx10 Cx11 Fx11 Cx12 Fx12 Cx13 Fx13
     replace Ba1:=a_ gbl1z1w6 Ba1
     replace Bx1:=a_ gbl1z1w6 Bx1
     replace qa1:=qa1.kept gbl1z1w6
     replace yx1:=yx1.kept gbl1z1w6
     replace rd:=rd.kept gbl1z1w6
     replace re:=re.kept gbl1z1w6
     replace hG:=d_ hG gbl1z1w6
     clear gbl1z1w6
     obtain ⟨Ca10,Ca11,Ca12,Ca13,Fa10,Fa11,Fa12,Fa13⟩:=b_ Ba1
     obtain ⟨Cx10,Cx11,Cx12,Cx13,Fx10,Fx11,Fx12,Fx13⟩:=b_ Bx1
     obtain ⟨Cd0,Cd1,Fd0,Fd1⟩:=c_ Bd
     obtain ⟨Ce0,Ce1,Fe0,Fe1⟩:=c_ Be
     go_wp2_with fail
     generalize ((l1z1w6.alloc (.cells #[.int .i64 gd,.slice sd ld cd] 36)).alloc (.cells #[.int .i64 ge,.slice se le ce] 36)) = l1z1w7 at *
     generalize l1z1w6.heap.size = al1z1w6 at *
     replace hzl1z1w6:=hzl1z1w6.out
     replace hla1l1z1w6:=hla1l1z1w6.out
     replace hlx1l1z1w6:=hlx1l1z1w6.out
     go_region_held3 (fun w'=>w'.cell? ⟨al1z1w1,0,none⟩ = some (.slice sa1 xa1.length xa1.length) ∧ w'.cell? ⟨al1z1w1,1,none⟩ = some (.bool ba1) ∧ w'.cell? ⟨al1z1w1,2,none⟩ = some (.slice sa1' xa1'.length xa1'.length) ∧ w'.cell? ⟨al1z1w1,3,none⟩ = some (.bool ba1') ∧ w'.cell? ⟨al1z1w3,0,none⟩ = some (.int .i64 gx1) ∧ w'.cell? ⟨al1z1w3,1,none⟩ = some (.slice sx1 lx1 cx1) ∧ w'.cell? ⟨al1z1w3,2,none⟩ = some (.int .i64 gx1') ∧ w'.cell? ⟨al1z1w3,3,none⟩ = some (.slice sx1' lx1' cx1') ∧ w'.cell? ⟨al1z1w6,0,none⟩ = some (.int .i64 gd) ∧ w'.cell? ⟨al1z1w6,1,none⟩ = some (.slice sd ld cd) ∧ w'.cell? ⟨al1z1w6 + 1,0,none⟩ = some (.int .i64 ge) ∧ w'.cell? ⟨al1z1w6 + 1,1,none⟩ = some (.slice se le ce))
      (first | assumption | exact ⟨Ca10,Ca11,Ca12,Ca13,Cx10,Cx11,Cx12,Cx13,Cd0,Cd1,Ce0,Ce1⟩ | go_keep)
      (first
        | (go_at_call 16; (with_reducible refine (az_ l1z1w7.drew _ _ A1 16 75 (qa1.kept (k_ (h_ _ _))) (yx1.kept (k_ (h_ _ _))) (by omega) (by omega) L1.out.1 L1.out.2).mono ?_); rintro e l1z1w8_1 ⟨rfl,gl1z1w8_1⟩; have hGl1z1w8_1:=o_ l1z1w7 gl1z1w8_1 rfl rfl rfl rfl; have hSl1z1w8_1:=(n_ (hGl1z1w8_1.cell Ca10 (by simp)) (n_ (hGl1z1w8_1.cell Ca11 (by simp)) (n_ (hGl1z1w8_1.cell Ca12 (by simp)) (n_ (hGl1z1w8_1.cell Ca13 (by simp)) (n_ (hGl1z1w8_1.cell Cx10 (by simp)) (n_ (hGl1z1w8_1.cell Cx11 (by simp)) (n_ (hGl1z1w8_1.cell Cx12 (by simp)) (n_ (hGl1z1w8_1.cell Cx13 (by simp)) (n_ (hGl1z1w8_1.cell Cd0 (by simp)) (n_ (hGl1z1w8_1.cell Cd1 (by simp)) (n_ (hGl1z1w8_1.cell Ce0 (by simp)) (hGl1z1w8_1.cell Ce1 (by simp))))))))))))); clear gl1z1w8_1)
        | (go_at_call 17; (with_reducible refine (bh_ l1z1w8_1 _ A1 16 (qa1.kept hGl1z1w8_1) (by omega) L1.out.1).mono ?_); rintro e l1z1w8_2 ⟨v1,rfl,n1,gl1z1w8_2⟩; have hGl1z1w8_2:=d_ hGl1z1w8_1 gl1z1w8_2; have hSl1z1w8_2:=(n_ (hGl1z1w8_2.cell Ca10 (by simp)) (n_ (hGl1z1w8_2.cell Ca11 (by simp)) (n_ (hGl1z1w8_2.cell Ca12 (by simp)) (n_ (hGl1z1w8_2.cell Ca13 (by simp)) (n_ (hGl1z1w8_2.cell Cx10 (by simp)) (n_ (hGl1z1w8_2.cell Cx11 (by simp)) (n_ (hGl1z1w8_2.cell Cx12 (by simp)) (n_ (hGl1z1w8_2.cell Cx13 (by simp)) (n_ (hGl1z1w8_2.cell Cd0 (by simp)) (n_ (hGl1z1w8_2.cell Cd1 (by simp)) (n_ (hGl1z1w8_2.cell Ce0 (by simp)) (hGl1z1w8_2.cell Ce1 (by simp))))))))))))); clear gl1z1w8_2)
        | (go_at_call 18; (with_reducible refine (ab_ l1z1w8_2 _ A1.num 16 n1 (by omega) L1.out.1).mono ?_); rintro e l1z1w8_3 ⟨s1,rfl,hs1,gl1z1w8_3⟩; have HS1:=H_ hs1; clear hs1; have hGl1z1w8_3:=d_ hGl1z1w8_2 gl1z1w8_3; replace n1:=n1.kept gl1z1w8_3; have hSl1z1w8_3:=(n_ (hGl1z1w8_3.cell Ca10 (by simp)) (n_ (hGl1z1w8_3.cell Ca11 (by simp)) (n_ (hGl1z1w8_3.cell Ca12 (by simp)) (n_ (hGl1z1w8_3.cell Ca13 (by simp)) (n_ (hGl1z1w8_3.cell Cx10 (by simp)) (n_ (hGl1z1w8_3.cell Cx11 (by simp)) (n_ (hGl1z1w8_3.cell Cx12 (by simp)) (n_ (hGl1z1w8_3.cell Cx13 (by simp)) (n_ (hGl1z1w8_3.cell Cd0 (by simp)) (n_ (hGl1z1w8_3.cell Cd1 (by simp)) (n_ (hGl1z1w8_3.cell Ce0 (by simp)) (hGl1z1w8_3.cell Ce1 (by simp))))))))))))); clear gl1z1w8_3)
        | (go_at_call 19; (with_reducible refine (aD_ l1z1w8_3 _ A1.num (rd.kept hGl1z1w8_3) (toD L1.out.1 (by omega))).mono ?_); rintro e l1z1w8_4 ⟨s2,rfl,hs2,gl1z1w8_4⟩; obtain rfl : s2 = s1:=al_ hs2 HS1.out; clear hs2; have hGl1z1w8_4:=d_ hGl1z1w8_3 gl1z1w8_4; replace n1:=n1.kept gl1z1w8_4; have hSl1z1w8_4:=(n_ (hGl1z1w8_4.cell Ca10 (by simp)) (n_ (hGl1z1w8_4.cell Ca11 (by simp)) (n_ (hGl1z1w8_4.cell Ca12 (by simp)) (n_ (hGl1z1w8_4.cell Ca13 (by simp)) (n_ (hGl1z1w8_4.cell Cx10 (by simp)) (n_ (hGl1z1w8_4.cell Cx11 (by simp)) (n_ (hGl1z1w8_4.cell Cx12 (by simp)) (n_ (hGl1z1w8_4.cell Cx13 (by simp)) (n_ (hGl1z1w8_4.cell Cd0 (by simp)) (n_ (hGl1z1w8_4.cell Cd1 (by simp)) (n_ (hGl1z1w8_4.cell Ce0 (by simp)) (hGl1z1w8_4.cell Ce1 (by simp))))))))))))); clear gl1z1w8_4)
        | (go_at_call 20; (with_reducible refine (fC_ l1z1w8_4 _ A1 16 (qa1.kept hGl1z1w8_4) (by omega) L1.out.2).mono ?_); rintro e l1z1w8_5 ⟨v2,rfl,n2,gl1z1w8_5⟩; have hGl1z1w8_5:=d_ hGl1z1w8_4 gl1z1w8_5; replace n1:=n1.kept gl1z1w8_5; have hSl1z1w8_5:=(n_ (hGl1z1w8_5.cell Ca10 (by simp)) (n_ (hGl1z1w8_5.cell Ca11 (by simp)) (n_ (hGl1z1w8_5.cell Ca12 (by simp)) (n_ (hGl1z1w8_5.cell Ca13 (by simp)) (n_ (hGl1z1w8_5.cell Cx10 (by simp)) (n_ (hGl1z1w8_5.cell Cx11 (by simp)) (n_ (hGl1z1w8_5.cell Cx12 (by simp)) (n_ (hGl1z1w8_5.cell Cx13 (by simp)) (n_ (hGl1z1w8_5.cell Cd0 (by simp)) (n_ (hGl1z1w8_5.cell Cd1 (by simp)) (n_ (hGl1z1w8_5.cell Ce0 (by simp)) (hGl1z1w8_5.cell Ce1 (by simp))))))))))))); clear gl1z1w8_5)
        | (go_at_call 18; (with_reducible refine (ab_ l1z1w8_5 _ (A1.den : Int) 16 n2 (by omega) LD.out).mono ?_); rintro e l1z1w8_6 ⟨s3,rfl,hs3,gl1z1w8_6⟩; have HS3:=H_ hs3; clear hs3; have hGl1z1w8_6:=d_ hGl1z1w8_5 gl1z1w8_6; replace n1:=n1.kept gl1z1w8_6; replace n2:=n2.kept gl1z1w8_6; have hSl1z1w8_6:=(n_ (hGl1z1w8_6.cell Ca10 (by simp)) (n_ (hGl1z1w8_6.cell Ca11 (by simp)) (n_ (hGl1z1w8_6.cell Ca12 (by simp)) (n_ (hGl1z1w8_6.cell Ca13 (by simp)) (n_ (hGl1z1w8_6.cell Cx10 (by simp)) (n_ (hGl1z1w8_6.cell Cx11 (by simp)) (n_ (hGl1z1w8_6.cell Cx12 (by simp)) (n_ (hGl1z1w8_6.cell Cx13 (by simp)) (n_ (hGl1z1w8_6.cell Cd0 (by simp)) (n_ (hGl1z1w8_6.cell Cd1 (by simp)) (n_ (hGl1z1w8_6.cell Ce0 (by simp)) (hGl1z1w8_6.cell Ce1 (by simp))))))))))))); clear gl1z1w8_6)
        | (go_at_call 19; (with_reducible refine (aD_ l1z1w8_6 _ (A1.den : Int) (re.kept hGl1z1w8_6) (toD LD.out (by omega))).mono ?_); rintro e l1z1w8_7 ⟨s4,rfl,hs4,gl1z1w8_7⟩; obtain rfl : s4 = s3:=al_ hs4 HS3.out; clear hs4; have hGl1z1w8_7:=d_ hGl1z1w8_6 gl1z1w8_7; replace n1:=n1.kept gl1z1w8_7; replace n2:=n2.kept gl1z1w8_7; have hSl1z1w8_7:=(n_ (hGl1z1w8_7.cell Ca10 (by simp)) (n_ (hGl1z1w8_7.cell Ca11 (by simp)) (n_ (hGl1z1w8_7.cell Ca12 (by simp)) (n_ (hGl1z1w8_7.cell Ca13 (by simp)) (n_ (hGl1z1w8_7.cell Cx10 (by simp)) (n_ (hGl1z1w8_7.cell Cx11 (by simp)) (n_ (hGl1z1w8_7.cell Cx12 (by simp)) (n_ (hGl1z1w8_7.cell Cx13 (by simp)) (n_ (hGl1z1w8_7.cell Cd0 (by simp)) (n_ (hGl1z1w8_7.cell Cd1 (by simp)) (n_ (hGl1z1w8_7.cell Ce0 (by simp)) (hGl1z1w8_7.cell Ce1 (by simp))))))))))))); clear gl1z1w8_7)
        | (go_at_call 21; (with_reducible refine (S_ l1z1w8_7 _ A1 16 (qa1.kept hGl1z1w8_7) (by omega) L1.out.1).mono ?_); rintro e l1z1w8_8 ⟨rfl,gl1z1w8_8⟩; rw [← HGX.out]; have hGl1z1w8_8:=d_ hGl1z1w8_7 gl1z1w8_8; replace n1:=n1.kept gl1z1w8_8; replace n2:=n2.kept gl1z1w8_8; have hSl1z1w8_8:=(n_ (hGl1z1w8_8.cell Ca10 (by simp)) (n_ (hGl1z1w8_8.cell Ca11 (by simp)) (n_ (hGl1z1w8_8.cell Ca12 (by simp)) (n_ (hGl1z1w8_8.cell Ca13 (by simp)) (n_ (hGl1z1w8_8.cell Cx10 (by simp)) (n_ (hGl1z1w8_8.cell Cx11 (by simp)) (n_ (hGl1z1w8_8.cell Cx12 (by simp)) (n_ (hGl1z1w8_8.cell Cx13 (by simp)) (n_ (hGl1z1w8_8.cell Cd0 (by simp)) (n_ (hGl1z1w8_8.cell Cd1 (by simp)) (n_ (hGl1z1w8_8.cell Ce0 (by simp)) (hGl1z1w8_8.cell Ce1 (by simp))))))))))))); clear gl1z1w8_8))
     replace Ba1:=a_ hGl1z1w8_8 Ba1
     replace Bx1:=a_ hGl1z1w8_8 Bx1
     replace Bd:=a_ hGl1z1w8_8 Bd
     replace Be:=a_ hGl1z1w8_8 Be
     replace hG:=d_ hG hGl1z1w8_8
     clear Ca10 Fa10 Ca11 Fa11 Ca12 Fa12 Ca13 Fa13 Cx10 Fx10 Cx11 Fx11 Cx12 Fx12 Cx13 Fx13 Cd0 Fd0 Cd1 Fd1 Ce0 Fe0 Ce1 Fe1
     obtain ⟨Ca10,Ca11,Ca12,Ca13,Fa10,Fa11,Fa12,Fa13⟩:=b_ Ba1
     obtain ⟨Cx10,Cx11,Cx12,Cx13,Fx10,Fx11,Fx12,Fx13⟩:=b_ Bx1
     obtain ⟨Cd0,Cd1,Fd0,Fd1⟩:=c_ Bd
     obtain ⟨Ce0,Ce1,Fe0,Fe1⟩:=c_ Be
     go_wp2_with fail
     go_ret
     exact ⟨by first | rfl | simp,hG⟩
   · skip
     have fcc : (c == c) = true:=by simp
     go_enter Tryz.func3,Tryz.ntmps3
     go_wp2_with fail
     refine (P1.out w (HTB.out _ hG)).mono ?_
     rintro e l1z0w1 ⟨_,rfl,⟨sa1,xa1,ba1,sa1',xa1',ba1',rfl,ha1,ha1'⟩,gl1z0w1⟩
     have qa1 : RatV l1z0w1 (.agg #[.slice sa1 xa1.length xa1.length,.bool ba1,.slice sa1' xa1'.length xa1'.length,.bool ba1']) (A1):=⟨sa1,xa1,ba1,sa1',xa1',ba1',rfl,ha1,ha1'⟩
     replace hG:=d_ hG gl1z0w1
     clear gl1z0w1
     clear ha1 ha1'
     have gbl1z0w1:=(wg_ l1z0w1 (.cells #[.slice sa1 xa1.length xa1.length,.bool ba1,.slice sa1' xa1'.length xa1'.length,.bool ba1'] 28) none)
     have Ba1:=(f_ l1z0w1 (.cells #[.slice sa1 xa1.length xa1.length,.bool ba1,.slice sa1' xa1'.length xa1'.length,.bool ba1'] 28) (l1z0w1.heap.size) rfl)
     have hzl1z0w1 : Hid (w.heap.size ≤ l1z0w1.heap.size):=H_ hG.size
     replace qa1:=qa1.kept gbl1z0w1
     replace hG:=d_ hG gbl1z0w1
     clear gbl1z0w1
     obtain ⟨Ca10,Ca11,Ca12,Ca13,Fa10,Fa11,Fa12,Fa13⟩:=b_ Ba1
     go_wp2_with fail
     generalize (l1z0w1.alloc (.cells #[.slice sa1 xa1.length xa1.length,.bool ba1,.slice sa1' xa1'.length xa1'.length,.bool ba1'] 28)) = l1z0w2 at *
     generalize l1z0w1.heap.size = al1z0w1 at *
     replace hzl1z0w1:=hzl1z0w1.out
     clear Ca10 Fa10 Ca11 Fa11 Ca12 Fa12 Ca13 Fa13
     refine (P2.out l1z0w2).mono ?_
     rintro e l1z0w3 ⟨_,rfl,⟨gx1,sx1,lx1,cx1,gx1',sx1',lx1',cx1',nx1,dx1,rfl,hx1,hx1',ux1⟩,gl1z0w3⟩
     have yx1 : RQ l1z0w3 (.agg #[.int .i64 gx1,.slice sx1 lx1 cx1,.int .i64 gx1',.slice sx1' lx1' cx1']) A1 75:=⟨gx1,sx1,lx1,cx1,gx1',sx1',lx1',cx1',nx1,dx1,rfl,hx1,hx1',ux1⟩
     replace Ba1:=a_ gl1z0w3 Ba1
     replace qa1:=qa1.kept gl1z0w3
     replace hG:=d_ hG gl1z0w3
     clear gl1z0w3
     clear hx1 hx1'
     obtain ⟨Ca10,Ca11,Ca12,Ca13,Fa10,Fa11,Fa12,Fa13⟩:=b_ Ba1
     have gbl1z0w3:=(wg_ l1z0w3 (.cells #[.int .i64 gx1,.slice sx1 lx1 cx1,.int .i64 gx1',.slice sx1' lx1' cx1'] 38) none)
     have Bx1:=(f_ l1z0w3 (.cells #[.int .i64 gx1,.slice sx1 lx1 cx1,.int .i64 gx1',.slice sx1' lx1' cx1'] 38) (l1z0w3.heap.size) rfl)
     have hzl1z0w3 : Hid (w.heap.size ≤ l1z0w3.heap.size):=H_ hG.size
     have hla1l1z0w3 : Hid (al1z0w1 < l1z0w3.heap.size):=H_ (Array.getElem?_eq_some_iff.1 Ba1).1
     clear Ca10 Fa10 Ca11 Fa11 Ca12 Fa12 Ca13 Fa13
     replace Ba1:=a_ gbl1z0w3 Ba1
     replace qa1:=qa1.kept gbl1z0w3
     replace hG:=d_ hG gbl1z0w3
     clear gbl1z0w3
     obtain ⟨Ca10,Ca11,Ca12,Ca13,Fa10,Fa11,Fa12,Fa13⟩:=b_ Ba1
     obtain ⟨Cx10,Cx11,Cx12,Cx13,Fx10,Fx11,Fx12,Fx13⟩:=b_ Bx1
     go_wp2_with fail
     generalize (l1z0w3.alloc (.cells #[.int .i64 gx1,.slice sx1 lx1 cx1,.int .i64 gx1',.slice sx1' lx1' cx1'] 38)) = l1z0w4 at *
     generalize l1z0w3.heap.size = al1z0w3 at *
     replace hzl1z0w3:=hzl1z0w3.out
     replace hla1l1z0w3:=hla1l1z0w3.out
     clear Ca10 Fa10 Ca11 Fa11 Ca12 Fa12 Ca13 Fa13 Cx10 Fx10 Cx11 Fx11 Cx12 Fx12 Cx13 Fx13
     refine (A_ l1z0w4 (HTB.out _ hG)).mono ?_
     rintro e l1z0w5 ⟨rfl,gl1z0w5⟩
     replace Ba1:=a_ gl1z0w5 Ba1
     replace Bx1:=a_ gl1z0w5 Bx1
     replace qa1:=qa1.kept gl1z0w5
     replace hG:=d_ hG gl1z0w5
     clear gl1z0w5
     obtain ⟨Ca10,Ca11,Ca12,Ca13,Fa10,Fa11,Fa12,Fa13⟩:=b_ Ba1
     obtain ⟨Cx10,Cx11,Cx12,Cx13,Fx10,Fx11,Fx12,Fx13⟩:=b_ Bx1
     go_wp2_with fail
     clear Ca10 Fa10 Ca11 Fa11 Ca12 Fa12 Ca13 Fa13 Cx10 Fx10 Cx11 Fx11 Cx12 Fx12 Cx13 Fx13
     refine (aH_ l1z0w5 _ A1 16 qa1 (by omega) L1.out.1 L1.out.2).mono ?_
     rintro e l1z0w6 ⟨s1,rfl,hs1,gl1z0w6⟩
     obtain rfl:=aK_ hs1 (hcc.out ▸ T0.out)
     clear hs1
     replace Ba1:=a_ gl1z0w6 Ba1
     replace Bx1:=a_ gl1z0w6 Bx1
     replace hG:=d_ hG gl1z0w6
     clear gl1z0w6
     obtain ⟨Ca10,Ca11,Ca12,Ca13,Fa10,Fa11,Fa12,Fa13⟩:=b_ Ba1
     obtain ⟨Cx10,Cx11,Cx12,Cx13,Fx10,Fx11,Fx12,Fx13⟩:=b_ Bx1
     go_wp2_with fail
     go_ret
     exact ⟨by first | rfl | simp,hG⟩
 · skip
   have fl : decide ((300 : Int) < (s.size : Int)) = false:=decide_eq_false (by omega)
   rw [htx] at P1 P2
   clear htx
   rcases hcc with ⟨f0,hcc⟩ | ⟨f0,hcc⟩
   · skip
     subst hcc
     clear f0
     go_enter Tryz.func3,Tryz.ntmps3
     go_wp2_with fail
     refine (P1.out w (HTB.out _ hG)).mono ?_
     rintro e l0z1w1 ⟨_,rfl,⟨sa1,xa1,ba1,sa1',xa1',ba1',rfl,ha1,ha1'⟩,gl0z1w1⟩
     have qa1 : RatV l0z1w1 (.agg #[.slice sa1 xa1.length xa1.length,.bool ba1,.slice sa1' xa1'.length xa1'.length,.bool ba1']) (A1):=⟨sa1,xa1,ba1,sa1',xa1',ba1',rfl,ha1,ha1'⟩
     replace hG:=d_ hG gl0z1w1
     clear gl0z1w1
     clear ha1 ha1'
     have gbl0z1w1:=(wg_ l0z1w1 (.cells #[.slice sa1 xa1.length xa1.length,.bool ba1,.slice sa1' xa1'.length xa1'.length,.bool ba1'] 28) none)
     have Ba1:=(f_ l0z1w1 (.cells #[.slice sa1 xa1.length xa1.length,.bool ba1,.slice sa1' xa1'.length xa1'.length,.bool ba1'] 28) (l0z1w1.heap.size) rfl)
     have hzl0z1w1 : Hid (w.heap.size ≤ l0z1w1.heap.size):=H_ hG.size
     replace qa1:=qa1.kept gbl0z1w1
     replace hG:=d_ hG gbl0z1w1
     clear gbl0z1w1
     obtain ⟨Ca10,Ca11,Ca12,Ca13,Fa10,Fa11,Fa12,Fa13⟩:=b_ Ba1
     go_wp2_with fail
     generalize (l0z1w1.alloc (.cells #[.slice sa1 xa1.length xa1.length,.bool ba1,.slice sa1' xa1'.length xa1'.length,.bool ba1'] 28)) = l0z1w2 at *
     generalize l0z1w1.heap.size = al0z1w1 at *
     replace hzl0z1w1:=hzl0z1w1.out
     clear Ca10 Fa10 Ca11 Fa11 Ca12 Fa12 Ca13 Fa13
     refine (P2.out l0z1w2).mono ?_
     rintro e l0z1w3 ⟨_,rfl,⟨gx1,sx1,lx1,cx1,gx1',sx1',lx1',cx1',nx1,dx1,rfl,hx1,hx1',ux1⟩,gl0z1w3⟩
     have yx1 : RQ l0z1w3 (.agg #[.int .i64 gx1,.slice sx1 lx1 cx1,.int .i64 gx1',.slice sx1' lx1' cx1']) A1 75:=⟨gx1,sx1,lx1,cx1,gx1',sx1',lx1',cx1',nx1,dx1,rfl,hx1,hx1',ux1⟩
     replace Ba1:=a_ gl0z1w3 Ba1
     replace qa1:=qa1.kept gl0z1w3
     replace hG:=d_ hG gl0z1w3
     clear gl0z1w3
     clear hx1 hx1'
     obtain ⟨Ca10,Ca11,Ca12,Ca13,Fa10,Fa11,Fa12,Fa13⟩:=b_ Ba1
     have gbl0z1w3:=(wg_ l0z1w3 (.cells #[.int .i64 gx1,.slice sx1 lx1 cx1,.int .i64 gx1',.slice sx1' lx1' cx1'] 38) none)
     have Bx1:=(f_ l0z1w3 (.cells #[.int .i64 gx1,.slice sx1 lx1 cx1,.int .i64 gx1',.slice sx1' lx1' cx1'] 38) (l0z1w3.heap.size) rfl)
     have hzl0z1w3 : Hid (w.heap.size ≤ l0z1w3.heap.size):=H_ hG.size
     have hla1l0z1w3 : Hid (al0z1w1 < l0z1w3.heap.size):=H_ (Array.getElem?_eq_some_iff.1 Ba1).1
     clear Ca10 Fa10 Ca11 Fa11 Ca12 Fa12 Ca13 Fa13
     replace Ba1:=a_ gbl0z1w3 Ba1
     replace qa1:=qa1.kept gbl0z1w3
     replace yx1:=yx1.kept gbl0z1w3
     replace hG:=d_ hG gbl0z1w3
     clear gbl0z1w3
     obtain ⟨Ca10,Ca11,Ca12,Ca13,Fa10,Fa11,Fa12,Fa13⟩:=b_ Ba1
     obtain ⟨Cx10,Cx11,Cx12,Cx13,Fx10,Fx11,Fx12,Fx13⟩:=b_ Bx1
     go_wp2_with fail
     generalize (l0z1w3.alloc (.cells #[.int .i64 gx1,.slice sx1 lx1 cx1,.int .i64 gx1',.slice sx1' lx1' cx1'] 38)) = l0z1w4 at *
     generalize l0z1w3.heap.size = al0z1w3 at *
     replace hzl0z1w3:=hzl0z1w3.out
     replace hla1l0z1w3:=hla1l0z1w3.out
     clear Ca10 Fa10 Ca11 Fa11 Ca12 Fa12 Ca13 Fa13 Cx10 Fx10 Cx11 Fx11 Cx12 Fx12 Cx13 Fx13
     refine (A_ l0z1w4 (HTB.out _ hG)).mono ?_
     rintro e l0z1w5 ⟨rfl,gl0z1w5⟩
     replace Ba1:=a_ gl0z1w5 Ba1
     replace Bx1:=a_ gl0z1w5 Bx1
     replace qa1:=qa1.kept gl0z1w5
     replace yx1:=yx1.kept gl0z1w5
     replace hG:=d_ hG gl0z1w5
     clear gl0z1w5
     obtain ⟨Ca10,Ca11,Ca12,Ca13,Fa10,Fa11,Fa12,Fa13⟩:=b_ Ba1
     obtain ⟨Cx10,Cx11,Cx12,Cx13,Fx10,Fx11,Fx12,Fx13⟩:=b_ Bx1
     go_wp2_with fail
     have hgx:=yx1.sign.out
     have HGX:=H_ hgx
     clear hgx
     clear Ca10 Fa10 Ca11 Fa11 Ca12 Fa12 Ca13 Fa13 Cx10 Fx10 Cx11 Fx11 Cx12 Fx12 Cx13 Fx13
     refine (cQ_ l0z1w5 _ A1 75 yx1 (by omega)).mono ?_
     rintro e l0z1w6 ⟨_,_,rfl,⟨gd,sd,ld,cd,rfl,hd,md⟩,⟨ge,se,le,ce,rfl,he,me⟩,gl0z1w6⟩
     have rd : RIntV l0z1w6 (.agg #[.int .i64 gd,.slice sd ld cd]) (A1.num):=⟨gd,sd,ld,cd,rfl,hd,md⟩
     have re : RIntV l0z1w6 (.agg #[.int .i64 ge,.slice se le ce]) ((A1.den : Int)):=⟨ge,se,le,ce,rfl,he,me⟩
     replace Ba1:=a_ gl0z1w6 Ba1
     replace Bx1:=a_ gl0z1w6 Bx1
     replace qa1:=qa1.kept gl0z1w6
     replace yx1:=yx1.kept gl0z1w6
     replace hG:=d_ hG gl0z1w6
     clear gl0z1w6
     clear md
     clear me
     obtain ⟨Ca10,Ca11,Ca12,Ca13,Fa10,Fa11,Fa12,Fa13⟩:=b_ Ba1
     obtain ⟨Cx10,Cx11,Cx12,Cx13,Fx10,Fx11,Fx12,Fx13⟩:=b_ Bx1
     have gbl0z1w6:=(l_ (wg_ l0z1w6 (.cells #[.int .i64 gd,.slice sd ld cd] 36) none) (.cells #[.int .i64 ge,.slice se le ce] 36))
     have Bd:=a_ (wg_ _ (.cells #[.int .i64 ge,.slice se le ce] 36) none) (f_ l0z1w6 (.cells #[.int .i64 gd,.slice sd ld cd] 36) (l0z1w6.heap.size) rfl)
     have Be:=(f_ (l0z1w6.alloc (.cells #[.int .i64 gd,.slice sd ld cd] 36)) (.cells #[.int .i64 ge,.slice se le ce] 36) (l0z1w6.heap.size + 1) (by simp))
     have hzl0z1w6 : Hid (w.heap.size ≤ l0z1w6.heap.size):=H_ hG.size
     have hla1l0z1w6 : Hid (al0z1w1 < l0z1w6.heap.size):=H_ (Array.getElem?_eq_some_iff.1 Ba1).1
     have hlx1l0z1w6 : Hid (al0z1w3 < l0z1w6.heap.size):=H_ (Array.getElem?_eq_some_iff.1 Bx1).1
     clear Ca10 Fa10 Ca11 Fa11 Ca12 Fa12 Ca13 Fa13 Cx10 Fx10 Cx11 Fx11 Cx12 Fx12 Cx13 Fx13
     replace Ba1:=a_ gbl0z1w6 Ba1
     replace Bx1:=a_ gbl0z1w6 Bx1
     replace qa1:=qa1.kept gbl0z1w6
     replace yx1:=yx1.kept gbl0z1w6
     replace rd:=rd.kept gbl0z1w6
     replace re:=re.kept gbl0z1w6
     replace hG:=d_ hG gbl0z1w6
     clear gbl0z1w6
     obtain ⟨Ca10,Ca11,Ca12,Ca13,Fa10,Fa11,Fa12,Fa13⟩:=b_ Ba1
     obtain ⟨Cx10,Cx11,Cx12,Cx13,Fx10,Fx11,Fx12,Fx13⟩:=b_ Bx1
     obtain ⟨Cd0,Cd1,Fd0,Fd1⟩:=c_ Bd
     obtain ⟨Ce0,Ce1,Fe0,Fe1⟩:=c_ Be
     go_wp2_with fail
     generalize ((l0z1w6.alloc (.cells #[.int .i64 gd,.slice sd ld cd] 36)).alloc (.cells #[.int .i64 ge,.slice se le ce] 36)) = l0z1w7 at *
     generalize l0z1w6.heap.size = al0z1w6 at *
     replace hzl0z1w6:=hzl0z1w6.out
     replace hla1l0z1w6:=hla1l0z1w6.out
     replace hlx1l0z1w6:=hlx1l0z1w6.out
     go_region_held3 (fun w'=>w'.cell? ⟨al0z1w1,0,none⟩ = some (.slice sa1 xa1.length xa1.length) ∧ w'.cell? ⟨al0z1w1,1,none⟩ = some (.bool ba1) ∧ w'.cell? ⟨al0z1w1,2,none⟩ = some (.slice sa1' xa1'.length xa1'.length) ∧ w'.cell? ⟨al0z1w1,3,none⟩ = some (.bool ba1') ∧ w'.cell? ⟨al0z1w3,0,none⟩ = some (.int .i64 gx1) ∧ w'.cell? ⟨al0z1w3,1,none⟩ = some (.slice sx1 lx1 cx1) ∧ w'.cell? ⟨al0z1w3,2,none⟩ = some (.int .i64 gx1') ∧ w'.cell? ⟨al0z1w3,3,none⟩ = some (.slice sx1' lx1' cx1') ∧ w'.cell? ⟨al0z1w6,0,none⟩ = some (.int .i64 gd) ∧ w'.cell? ⟨al0z1w6,1,none⟩ = some (.slice sd ld cd) ∧ w'.cell? ⟨al0z1w6 + 1,0,none⟩ = some (.int .i64 ge) ∧ w'.cell? ⟨al0z1w6 + 1,1,none⟩ = some (.slice se le ce))
      (first | assumption | exact ⟨Ca10,Ca11,Ca12,Ca13,Cx10,Cx11,Cx12,Cx13,Cd0,Cd1,Ce0,Ce1⟩ | go_keep)
      (first
        | (go_at_call 16; (with_reducible refine (az_ l0z1w7.drew _ _ A1 16 75 (qa1.kept (k_ (h_ _ _))) (yx1.kept (k_ (h_ _ _))) (by omega) (by omega) L1.out.1 L1.out.2).mono ?_); rintro e l0z1w8_1 ⟨rfl,gl0z1w8_1⟩; have hGl0z1w8_1:=o_ l0z1w7 gl0z1w8_1 rfl rfl rfl rfl; have hSl0z1w8_1:=(n_ (hGl0z1w8_1.cell Ca10 (by simp)) (n_ (hGl0z1w8_1.cell Ca11 (by simp)) (n_ (hGl0z1w8_1.cell Ca12 (by simp)) (n_ (hGl0z1w8_1.cell Ca13 (by simp)) (n_ (hGl0z1w8_1.cell Cx10 (by simp)) (n_ (hGl0z1w8_1.cell Cx11 (by simp)) (n_ (hGl0z1w8_1.cell Cx12 (by simp)) (n_ (hGl0z1w8_1.cell Cx13 (by simp)) (n_ (hGl0z1w8_1.cell Cd0 (by simp)) (n_ (hGl0z1w8_1.cell Cd1 (by simp)) (n_ (hGl0z1w8_1.cell Ce0 (by simp)) (hGl0z1w8_1.cell Ce1 (by simp))))))))))))); clear gl0z1w8_1)
        | (go_at_call 17; (with_reducible refine (bh_ l0z1w8_1 _ A1 16 (qa1.kept hGl0z1w8_1) (by omega) L1.out.1).mono ?_); rintro e l0z1w8_2 ⟨v1,rfl,n1,gl0z1w8_2⟩; have hGl0z1w8_2:=d_ hGl0z1w8_1 gl0z1w8_2; have hSl0z1w8_2:=(n_ (hGl0z1w8_2.cell Ca10 (by simp)) (n_ (hGl0z1w8_2.cell Ca11 (by simp)) (n_ (hGl0z1w8_2.cell Ca12 (by simp)) (n_ (hGl0z1w8_2.cell Ca13 (by simp)) (n_ (hGl0z1w8_2.cell Cx10 (by simp)) (n_ (hGl0z1w8_2.cell Cx11 (by simp)) (n_ (hGl0z1w8_2.cell Cx12 (by simp)) (n_ (hGl0z1w8_2.cell Cx13 (by simp)) (n_ (hGl0z1w8_2.cell Cd0 (by simp)) (n_ (hGl0z1w8_2.cell Cd1 (by simp)) (n_ (hGl0z1w8_2.cell Ce0 (by simp)) (hGl0z1w8_2.cell Ce1 (by simp))))))))))))); clear gl0z1w8_2)
        | (go_at_call 18; (with_reducible refine (ab_ l0z1w8_2 _ A1.num 16 n1 (by omega) L1.out.1).mono ?_); rintro e l0z1w8_3 ⟨s1,rfl,hs1,gl0z1w8_3⟩; have HS1:=H_ hs1; clear hs1; have hGl0z1w8_3:=d_ hGl0z1w8_2 gl0z1w8_3; replace n1:=n1.kept gl0z1w8_3; have hSl0z1w8_3:=(n_ (hGl0z1w8_3.cell Ca10 (by simp)) (n_ (hGl0z1w8_3.cell Ca11 (by simp)) (n_ (hGl0z1w8_3.cell Ca12 (by simp)) (n_ (hGl0z1w8_3.cell Ca13 (by simp)) (n_ (hGl0z1w8_3.cell Cx10 (by simp)) (n_ (hGl0z1w8_3.cell Cx11 (by simp)) (n_ (hGl0z1w8_3.cell Cx12 (by simp)) (n_ (hGl0z1w8_3.cell Cx13 (by simp)) (n_ (hGl0z1w8_3.cell Cd0 (by simp)) (n_ (hGl0z1w8_3.cell Cd1 (by simp)) (n_ (hGl0z1w8_3.cell Ce0 (by simp)) (hGl0z1w8_3.cell Ce1 (by simp))))))))))))); clear gl0z1w8_3)
        | (go_at_call 19; (with_reducible refine (aD_ l0z1w8_3 _ A1.num (rd.kept hGl0z1w8_3) (toD L1.out.1 (by omega))).mono ?_); rintro e l0z1w8_4 ⟨s2,rfl,hs2,gl0z1w8_4⟩; obtain rfl : s2 = s1:=al_ hs2 HS1.out; clear hs2; have hGl0z1w8_4:=d_ hGl0z1w8_3 gl0z1w8_4; replace n1:=n1.kept gl0z1w8_4; have hSl0z1w8_4:=(n_ (hGl0z1w8_4.cell Ca10 (by simp)) (n_ (hGl0z1w8_4.cell Ca11 (by simp)) (n_ (hGl0z1w8_4.cell Ca12 (by simp)) (n_ (hGl0z1w8_4.cell Ca13 (by simp)) (n_ (hGl0z1w8_4.cell Cx10 (by simp)) (n_ (hGl0z1w8_4.cell Cx11 (by simp)) (n_ (hGl0z1w8_4.cell Cx12 (by simp)) (n_ (hGl0z1w8_4.cell Cx13 (by simp)) (n_ (hGl0z1w8_4.cell Cd0 (by simp)) (n_ (hGl0z1w8_4.cell Cd1 (by simp)) (n_ (hGl0z1w8_4.cell Ce0 (by simp)) (hGl0z1w8_4.cell Ce1 (by simp))))))))))))); clear gl0z1w8_4)
        | (go_at_call 20; (with_reducible refine (fC_ l0z1w8_4 _ A1 16 (qa1.kept hGl0z1w8_4) (by omega) L1.out.2).mono ?_); rintro e l0z1w8_5 ⟨v2,rfl,n2,gl0z1w8_5⟩; have hGl0z1w8_5:=d_ hGl0z1w8_4 gl0z1w8_5; replace n1:=n1.kept gl0z1w8_5; have hSl0z1w8_5:=(n_ (hGl0z1w8_5.cell Ca10 (by simp)) (n_ (hGl0z1w8_5.cell Ca11 (by simp)) (n_ (hGl0z1w8_5.cell Ca12 (by simp)) (n_ (hGl0z1w8_5.cell Ca13 (by simp)) (n_ (hGl0z1w8_5.cell Cx10 (by simp)) (n_ (hGl0z1w8_5.cell Cx11 (by simp)) (n_ (hGl0z1w8_5.cell Cx12 (by simp)) (n_ (hGl0z1w8_5.cell Cx13 (by simp)) (n_ (hGl0z1w8_5.cell Cd0 (by simp)) (n_ (hGl0z1w8_5.cell Cd1 (by simp)) (n_ (hGl0z1w8_5.cell Ce0 (by simp)) (hGl0z1w8_5.cell Ce1 (by simp))))))))))))); clear gl0z1w8_5)
        | (go_at_call 18; (with_reducible refine (ab_ l0z1w8_5 _ (A1.den : Int) 16 n2 (by omega) LD.out).mono ?_); rintro e l0z1w8_6 ⟨s3,rfl,hs3,gl0z1w8_6⟩; have HS3:=H_ hs3; clear hs3; have hGl0z1w8_6:=d_ hGl0z1w8_5 gl0z1w8_6; replace n1:=n1.kept gl0z1w8_6; replace n2:=n2.kept gl0z1w8_6; have hSl0z1w8_6:=(n_ (hGl0z1w8_6.cell Ca10 (by simp)) (n_ (hGl0z1w8_6.cell Ca11 (by simp)) (n_ (hGl0z1w8_6.cell Ca12 (by simp)) (n_ (hGl0z1w8_6.cell Ca13 (by simp)) (n_ (hGl0z1w8_6.cell Cx10 (by simp)) (n_ (hGl0z1w8_6.cell Cx11 (by simp)) (n_ (hGl0z1w8_6.cell Cx12 (by simp)) (n_ (hGl0z1w8_6.cell Cx13 (by simp)) (n_ (hGl0z1w8_6.cell Cd0 (by simp)) (n_ (hGl0z1w8_6.cell Cd1 (by simp)) (n_ (hGl0z1w8_6.cell Ce0 (by simp)) (hGl0z1w8_6.cell Ce1 (by simp))))))))))))); clear gl0z1w8_6)
        | (go_at_call 19; (with_reducible refine (aD_ l0z1w8_6 _ (A1.den : Int) (re.kept hGl0z1w8_6) (toD LD.out (by omega))).mono ?_); rintro e l0z1w8_7 ⟨s4,rfl,hs4,gl0z1w8_7⟩; obtain rfl : s4 = s3:=al_ hs4 HS3.out; clear hs4; have hGl0z1w8_7:=d_ hGl0z1w8_6 gl0z1w8_7; replace n1:=n1.kept gl0z1w8_7; replace n2:=n2.kept gl0z1w8_7; have hSl0z1w8_7:=(n_ (hGl0z1w8_7.cell Ca10 (by simp)) (n_ (hGl0z1w8_7.cell Ca11 (by simp)) (n_ (hGl0z1w8_7.cell Ca12 (by simp)) (n_ (hGl0z1w8_7.cell Ca13 (by simp)) (n_ (hGl0z1w8_7.cell Cx10 (by simp)) (n_ (hGl0z1w8_7.cell Cx11 (by simp)) (n_ (hGl0z1w8_7.cell Cx12 (by simp)) (n_ (hGl0z1w8_7.cell Cx13 (by simp)) (n_ (hGl0z1w8_7.cell Cd0 (by simp)) (n_ (hGl0z1w8_7.cell Cd1 (by simp)) (n_ (hGl0z1w8_7.cell Ce0 (by simp)) (hGl0z1w8_7.cell Ce1 (by simp))))))))))))); clear gl0z1w8_7)
        | (go_at_call 21; (with_reducible refine (S_ l0z1w8_7 _ A1 16 (qa1.kept hGl0z1w8_7) (by omega) L1.out.1).mono ?_); rintro e l0z1w8_8 ⟨rfl,gl0z1w8_8⟩; rw [← HGX.out]; have hGl0z1w8_8:=d_ hGl0z1w8_7 gl0z1w8_8; replace n1:=n1.kept gl0z1w8_8; replace n2:=n2.kept gl0z1w8_8; have hSl0z1w8_8:=(n_ (hGl0z1w8_8.cell Ca10 (by simp)) (n_ (hGl0z1w8_8.cell Ca11 (by simp)) (n_ (hGl0z1w8_8.cell Ca12 (by simp)) (n_ (hGl0z1w8_8.cell Ca13 (by simp)) (n_ (hGl0z1w8_8.cell Cx10 (by simp)) (n_ (hGl0z1w8_8.cell Cx11 (by simp)) (n_ (hGl0z1w8_8.cell Cx12 (by simp)) (n_ (hGl0z1w8_8.cell Cx13 (by simp)) (n_ (hGl0z1w8_8.cell Cd0 (by simp)) (n_ (hGl0z1w8_8.cell Cd1 (by simp)) (n_ (hGl0z1w8_8.cell Ce0 (by simp)) (hGl0z1w8_8.cell Ce1 (by simp))))))))))))); clear gl0z1w8_8))
     replace Ba1:=a_ hGl0z1w8_8 Ba1
     replace Bx1:=a_ hGl0z1w8_8 Bx1
     replace Bd:=a_ hGl0z1w8_8 Bd
     replace Be:=a_ hGl0z1w8_8 Be
     replace hG:=d_ hG hGl0z1w8_8
     clear Ca10 Fa10 Ca11 Fa11 Ca12 Fa12 Ca13 Fa13 Cx10 Fx10 Cx11 Fx11 Cx12 Fx12 Cx13 Fx13 Cd0 Fd0 Cd1 Fd1 Ce0 Fe0 Ce1 Fe1
     obtain ⟨Ca10,Ca11,Ca12,Ca13,Fa10,Fa11,Fa12,Fa13⟩:=b_ Ba1
     obtain ⟨Cx10,Cx11,Cx12,Cx13,Fx10,Fx11,Fx12,Fx13⟩:=b_ Bx1
     obtain ⟨Cd0,Cd1,Fd0,Fd1⟩:=c_ Bd
     obtain ⟨Ce0,Ce1,Fe0,Fe1⟩:=c_ Be
     go_wp2_with fail
     go_ret
     exact ⟨by first | rfl | simp,hG⟩
   · skip
     have fcc : (c == c) = true:=by simp
     go_enter Tryz.func3,Tryz.ntmps3
     go_wp2_with fail
     refine (P1.out w (HTB.out _ hG)).mono ?_
     rintro e l0z0w1 ⟨_,rfl,⟨sa1,xa1,ba1,sa1',xa1',ba1',rfl,ha1,ha1'⟩,gl0z0w1⟩
     have qa1 : RatV l0z0w1 (.agg #[.slice sa1 xa1.length xa1.length,.bool ba1,.slice sa1' xa1'.length xa1'.length,.bool ba1']) (A1):=⟨sa1,xa1,ba1,sa1',xa1',ba1',rfl,ha1,ha1'⟩
     replace hG:=d_ hG gl0z0w1
     clear gl0z0w1
     clear ha1 ha1'
     have gbl0z0w1:=(wg_ l0z0w1 (.cells #[.slice sa1 xa1.length xa1.length,.bool ba1,.slice sa1' xa1'.length xa1'.length,.bool ba1'] 28) none)
     have Ba1:=(f_ l0z0w1 (.cells #[.slice sa1 xa1.length xa1.length,.bool ba1,.slice sa1' xa1'.length xa1'.length,.bool ba1'] 28) (l0z0w1.heap.size) rfl)
     have hzl0z0w1 : Hid (w.heap.size ≤ l0z0w1.heap.size):=H_ hG.size
     replace qa1:=qa1.kept gbl0z0w1
     replace hG:=d_ hG gbl0z0w1
     clear gbl0z0w1
     obtain ⟨Ca10,Ca11,Ca12,Ca13,Fa10,Fa11,Fa12,Fa13⟩:=b_ Ba1
     go_wp2_with fail
     generalize (l0z0w1.alloc (.cells #[.slice sa1 xa1.length xa1.length,.bool ba1,.slice sa1' xa1'.length xa1'.length,.bool ba1'] 28)) = l0z0w2 at *
     generalize l0z0w1.heap.size = al0z0w1 at *
     replace hzl0z0w1:=hzl0z0w1.out
     clear Ca10 Fa10 Ca11 Fa11 Ca12 Fa12 Ca13 Fa13
     refine (P2.out l0z0w2).mono ?_
     rintro e l0z0w3 ⟨_,rfl,⟨gx1,sx1,lx1,cx1,gx1',sx1',lx1',cx1',nx1,dx1,rfl,hx1,hx1',ux1⟩,gl0z0w3⟩
     have yx1 : RQ l0z0w3 (.agg #[.int .i64 gx1,.slice sx1 lx1 cx1,.int .i64 gx1',.slice sx1' lx1' cx1']) A1 75:=⟨gx1,sx1,lx1,cx1,gx1',sx1',lx1',cx1',nx1,dx1,rfl,hx1,hx1',ux1⟩
     replace Ba1:=a_ gl0z0w3 Ba1
     replace qa1:=qa1.kept gl0z0w3
     replace hG:=d_ hG gl0z0w3
     clear gl0z0w3
     clear hx1 hx1'
     obtain ⟨Ca10,Ca11,Ca12,Ca13,Fa10,Fa11,Fa12,Fa13⟩:=b_ Ba1
     have gbl0z0w3:=(wg_ l0z0w3 (.cells #[.int .i64 gx1,.slice sx1 lx1 cx1,.int .i64 gx1',.slice sx1' lx1' cx1'] 38) none)
     have Bx1:=(f_ l0z0w3 (.cells #[.int .i64 gx1,.slice sx1 lx1 cx1,.int .i64 gx1',.slice sx1' lx1' cx1'] 38) (l0z0w3.heap.size) rfl)
     have hzl0z0w3 : Hid (w.heap.size ≤ l0z0w3.heap.size):=H_ hG.size
     have hla1l0z0w3 : Hid (al0z0w1 < l0z0w3.heap.size):=H_ (Array.getElem?_eq_some_iff.1 Ba1).1
     clear Ca10 Fa10 Ca11 Fa11 Ca12 Fa12 Ca13 Fa13
     replace Ba1:=a_ gbl0z0w3 Ba1
     replace qa1:=qa1.kept gbl0z0w3
     replace hG:=d_ hG gbl0z0w3
     clear gbl0z0w3
     obtain ⟨Ca10,Ca11,Ca12,Ca13,Fa10,Fa11,Fa12,Fa13⟩:=b_ Ba1
     obtain ⟨Cx10,Cx11,Cx12,Cx13,Fx10,Fx11,Fx12,Fx13⟩:=b_ Bx1
     go_wp2_with fail
     generalize (l0z0w3.alloc (.cells #[.int .i64 gx1,.slice sx1 lx1 cx1,.int .i64 gx1',.slice sx1' lx1' cx1'] 38)) = l0z0w4 at *
     generalize l0z0w3.heap.size = al0z0w3 at *
     replace hzl0z0w3:=hzl0z0w3.out
     replace hla1l0z0w3:=hla1l0z0w3.out
     clear Ca10 Fa10 Ca11 Fa11 Ca12 Fa12 Ca13 Fa13 Cx10 Fx10 Cx11 Fx11 Cx12 Fx12 Cx13 Fx13
     refine (A_ l0z0w4 (HTB.out _ hG)).mono ?_
     rintro e l0z0w5 ⟨rfl,gl0z0w5⟩
     replace Ba1:=a_ gl0z0w5 Ba1
     replace Bx1:=a_ gl0z0w5 Bx1
     replace qa1:=qa1.kept gl0z0w5
     replace hG:=d_ hG gl0z0w5
     clear gl0z0w5
     obtain ⟨Ca10,Ca11,Ca12,Ca13,Fa10,Fa11,Fa12,Fa13⟩:=b_ Ba1
     obtain ⟨Cx10,Cx11,Cx12,Cx13,Fx10,Fx11,Fx12,Fx13⟩:=b_ Bx1
     go_wp2_with fail
     clear Ca10 Fa10 Ca11 Fa11 Ca12 Fa12 Ca13 Fa13 Cx10 Fx10 Cx11 Fx11 Cx12 Fx12 Cx13 Fx13
     refine (aH_ l0z0w5 _ A1 16 qa1 (by omega) L1.out.1 L1.out.2).mono ?_
     rintro e l0z0w6 ⟨s1,rfl,hs1,gl0z0w6⟩
     obtain rfl:=aK_ hs1 (hcc.out ▸ T0.out)
     clear hs1
     replace Ba1:=a_ gl0z0w6 Ba1
     replace Bx1:=a_ gl0z0w6 Bx1
     replace hG:=d_ hG gl0z0w6
     clear gl0z0w6
     obtain ⟨Ca10,Ca11,Ca12,Ca13,Fa10,Fa11,Fa12,Fa13⟩:=b_ Ba1
     obtain ⟨Cx10,Cx11,Cx12,Cx13,Fx10,Fx11,Fx12,Fx13⟩:=b_ Bx1
     go_wp2_with fail
     go_ret
     exact ⟨by first | rfl | simp,hG⟩
end Go.Proofs.YtgbbdgioohaknaaGreatDoor
