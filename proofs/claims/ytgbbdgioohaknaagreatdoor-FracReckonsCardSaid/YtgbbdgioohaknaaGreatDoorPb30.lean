/- What the laws lean on, part 30. -/
import Derived.Deep.RegionHeld3
import Derived.BigRegion
import Derived.Test.YtgbbdgioohaknaaGreatDoorPb51
namespace Go.Proofs.YtgbbdgioohaknaaGreatDoor
open Go.RowKit Mat
set_option maxRecDepth 100000
set_option linter.unusedVariables false
set_option linter.unusedSimpArgs false
set_option maxHeartbeats 8000000 in
theorem ce_ (w : World) (s : ByteArray) (hTab : Tab w) :
    Calls Tryz.prog 30 #[.string s] w (fun e w'=>e = .returned (.bool false) ∧ w.grownBy w' none):=by
 have HTB : Hid (∀ W,w.grownBy W none → Tab W):=fun W hW=>hTab.kept hW (by simp)
 clear hTab
 obtain ⟨p,hp⟩ : ∃ p,hJ_ s 80 = p:=⟨_,rfl⟩
 have F1 : Hid (∀ W,Calls Tryz.prog 76 #[.string s] W (fun e w'=>e = .returned (.string p) ∧ W = w')):=fun W=>by rw [← hp]; exact iS_ W s
 have hps : p.size ≤ 80:=by rw [← hp]; exact cV_ s 80
 clear hp
 obtain ⟨c,hc⟩ : ∃ c,dc_ p = c:=⟨_,rfl⟩
 obtain ⟨z,hz⟩ : ∃ z,cG_ p = z:=⟨_,rfl⟩
 have P1 : Hid (∀ W,Tab W → Calls Tryz.prog 11 #[.string p] W (V_ W z c)):=fun W hT=>by rw [← hc,← hz]; exact aV_ W p (by omega) hT
 have P2 : Hid (∀ W,Calls Tryz.prog 12 #[.string p] W (cf_ W z 20 c)):=fun W=>by rw [← hc,← hz]; exact cC_ W p 20 (by omega) (by omega) (by omega)
 clear hc hz hps
 have hG : w.grownBy w none:=h_ _ _
 go_enter Tryz.func30,Tryz.ntmps30
 go_wp2_with fail
 refine (F1.out w).mono ?_
 rintro e w1 ⟨rfl,rfl⟩
 go_wp2_with fail
 refine (P1.out w (HTB.out _ hG)).mono ?_
 rintro e w2 ⟨_,rfl,⟨sa,xa,ba,sa',xa',ba',rfl,ha,ha'⟩,gw2⟩
 have qa : RatV w2 (.agg #[.slice sa xa.length xa.length,.bool ba,.slice sa' xa'.length xa'.length,.bool ba']) (z):=⟨sa,xa,ba,sa',xa',ba',rfl,ha,ha'⟩
 replace hG:=d_ hG gw2
 clear gw2
 clear ha ha'
 have gbw2:=(wg_ w2 (.cells #[.slice sa xa.length xa.length,.bool ba,.slice sa' xa'.length xa'.length,.bool ba'] 28) none)
 have Ba:=(f_ w2 (.cells #[.slice sa xa.length xa.length,.bool ba,.slice sa' xa'.length xa'.length,.bool ba'] 28) (w2.heap.size) rfl)
 have hzw2 : Hid (w.heap.size ≤ w2.heap.size):=H_ hG.size
 replace hG:=d_ hG gbw2
 clear gbw2
 obtain ⟨Ca0,Ca1,Ca2,Ca3,Fa0,Fa1,Fa2,Fa3⟩:=b_ Ba
 go_wp2_with fail
 generalize (w2.alloc (.cells #[.slice sa xa.length xa.length,.bool ba,.slice sa' xa'.length xa'.length,.bool ba'] 28)) = w3 at *
 generalize w2.heap.size = aw2 at *
 replace hzw2:=hzw2.out
 refine (F1.out w3).mono ?_
 rintro e w4 ⟨rfl,rfl⟩
 go_wp2_with fail
 clear Ca0 Fa0 Ca1 Fa1 Ca2 Fa2 Ca3 Fa3
 refine (P2.out w3).mono ?_
 rintro e w5 ⟨_,rfl,⟨gx,sx,lx,cx,gx',sx',lx',cx',nx,dx,rfl,hx,hx',ux⟩,gw5⟩
 have yx : RQ w5 (.agg #[.int .i64 gx,.slice sx lx cx,.int .i64 gx',.slice sx' lx' cx']) z 20:=⟨gx,sx,lx,cx,gx',sx',lx',cx',nx,dx,rfl,hx,hx',ux⟩
 replace Ba:=a_ gw5 Ba
 replace hG:=d_ hG gw5
 clear gw5
 clear hx hx'
 obtain ⟨Ca0,Ca1,Ca2,Ca3,Fa0,Fa1,Fa2,Fa3⟩:=b_ Ba
 have gbw5:=(wg_ w5 (.cells #[.int .i64 gx,.slice sx lx cx,.int .i64 gx',.slice sx' lx' cx'] 38) none)
 have Bx:=(f_ w5 (.cells #[.int .i64 gx,.slice sx lx cx,.int .i64 gx',.slice sx' lx' cx'] 38) (w5.heap.size) rfl)
 have hzw5 : Hid (w.heap.size ≤ w5.heap.size):=H_ hG.size
 have hlaw5 : Hid (aw2 < w5.heap.size):=H_ (Array.getElem?_eq_some_iff.1 Ba).1
 clear Ca0 Fa0 Ca1 Fa1 Ca2 Fa2 Ca3 Fa3
 replace Ba:=a_ gbw5 Ba
 replace hG:=d_ hG gbw5
 clear gbw5
 obtain ⟨Ca0,Ca1,Ca2,Ca3,Fa0,Fa1,Fa2,Fa3⟩:=b_ Ba
 obtain ⟨Cx0,Cx1,Cx2,Cx3,Fx0,Fx1,Fx2,Fx3⟩:=b_ Bx
 go_wp2_with fail
 go_ret
 exact ⟨by simp,hG⟩
end Go.Proofs.YtgbbdgioohaknaaGreatDoor
