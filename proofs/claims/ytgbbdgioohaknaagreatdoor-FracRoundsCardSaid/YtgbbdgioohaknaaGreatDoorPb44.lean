/- What the laws lean on, part 44. -/
import Derived.Deep.RegionHeld3
import Derived.Deep.CutRange
import Derived.Test.YtgbbdgioohaknaaGreatDoorPb16
import Derived.Test.YtgbbdgioohaknaaGreatDoorPb29
import Derived.Test.YtgbbdgioohaknaaGreatDoorPb42
import Derived.Test.YtgbbdgioohaknaaGreatDoorPb43
import Derived.Test.YtgbbdgioohaknaaGreatDoorPb46
namespace Go.Proofs.YtgbbdgioohaknaaGreatDoor
open Go.RowKit Mat
set_option maxRecDepth 100000
set_option linter.unusedVariables false
set_option linter.unusedSimpArgs false
set_option maxHeartbeats 16000000 in
theorem dX_ (w : World) (va : Value) (r : Rat) (E : Nat) (Ha : RQ w va r E) (hE : 1 ≤ E ∧ E ≤ 200000) :
    Calls Tryz.prog 43 #[va] w (Z_ w r.floor):=by
 have HE : Hid (1 ≤ E ∧ E ≤ 200000):=hE
 clear hE
 obtain ⟨ga,sa,la,ca,ga',sa',la',ca',na,da,rfl,ha,ha',ua⟩:=Ha
 obtain ⟨hG,Ba,Bq⟩:=en2_ w (.cells #[.int .i64 ga,.slice sa la ca,.int .i64 ga',.slice sa' la' ca'] 38) (.cells #[.int .i64 0,.slice none 0 0] 36)
 have oa : RQ w (.agg #[.int .i64 ga,.slice sa la ca,.int .i64 ga',.slice sa' la' ca']) r E:=⟨ga,sa,la,ca,ga',sa',la',ca',na,da,rfl,ha,ha',ua⟩
 have ya:=oa.kept hG
 have ra:=(show RIntV w (.agg #[.int .i64 ga,.slice sa la ca]) na from ha).kept hG
 have ra':=(show RIntV w (.agg #[.int .i64 ga',.slice sa' la' ca']) da from ha').kept hG
 clear ha ha'
 go_enter Tryz.func43,Tryz.ntmps43
 have HF : Hid (na / da = r.floor ∧ da ≠ 0 ∧ na.natAbs < D ^ 400000 ∧ da.natAbs < D ^ 400000):=⟨by rw [← ua.out.2.1,dy_ ua.out.1],Int.ne_of_gt ua.out.1,dp4 ua.out.2.2.1 (by have:=HE.out; omega),dp4 ua.out.2.2.2 (by have:=HE.out; omega)⟩
 obtain ⟨Ca0,Ca1,Ca2,Ca3,Fa0,Fa1,Fa2,Fa3⟩:=b_ Ba
 obtain ⟨Cq0,Cq1,Fq0,Fq1⟩:=c_ Bq
 go_wp2_with fail
 generalize ((w.alloc (.cells #[.int .i64 ga,.slice sa la ca,.int .i64 ga',.slice sa' la' ca'] 38)).alloc (.cells #[.int .i64 0,.slice none 0 0] 36)) = w0 at *
 clear Ca0 Fa0 Ca1 Fa1 Ca2 Fa2 Ca3 Fa3 Cq0 Fq0 Cq1 Fq1
 refine (U_ w0 _ _ na da ra ra' HF.out.2.1 HF.out.2.2.1 HF.out.2.2.2).mono ?_
 rintro e w1 ⟨_,_,rfl,⟨gd,sd,ld,cd,rfl,hd,md⟩,⟨ge,se,le,ce,rfl,he,me⟩,gw1⟩
 rw [HF.out.1] at hd md
 have rd : RIntV w1 (.agg #[.int .i64 gd,.slice sd ld cd]) (r.floor):=⟨gd,sd,ld,cd,rfl,hd,md⟩
 have re : RIntV w1 (.agg #[.int .i64 ge,.slice se le ce]) (na % da):=⟨ge,se,le,ce,rfl,he,me⟩
 replace Ba:=a_ gw1 Ba
 replace Bq:=a_ gw1 Bq
 replace hG:=d_ hG gw1
 clear gw1
 clear md
 clear me
 obtain ⟨Ca0,Ca1,Ca2,Ca3,Fa0,Fa1,Fa2,Fa3⟩:=b_ Ba
 obtain ⟨Cq0,Cq1,Fq0,Fq1⟩:=c_ Bq
 have gbw1:=(l_ (wg_ w1 (.cells #[.int .i64 gd,.slice sd ld cd] 36) none) (.cells #[.int .i64 ge,.slice se le ce] 36))
 have Bd:=a_ (wg_ _ (.cells #[.int .i64 ge,.slice se le ce] 36) none) (f_ w1 (.cells #[.int .i64 gd,.slice sd ld cd] 36) (w1.heap.size) rfl)
 have Be:=(f_ (w1.alloc (.cells #[.int .i64 gd,.slice sd ld cd] 36)) (.cells #[.int .i64 ge,.slice se le ce] 36) (w1.heap.size + 1) (by simp))
 have hzw1 : Hid (w.heap.size ≤ w1.heap.size):=H_ hG.size
 have hlaw1 : Hid (w.heap.size < w1.heap.size):=H_ (Array.getElem?_eq_some_iff.1 Ba).1
 have hlqw1 : Hid (w.heap.size + 1 < w1.heap.size):=H_ (Array.getElem?_eq_some_iff.1 Bq).1
 clear Ca0 Fa0 Ca1 Fa1 Ca2 Fa2 Ca3 Fa3 Cq0 Fq0 Cq1 Fq1
 replace Ba:=a_ gbw1 Ba
 replace Bq:=a_ gbw1 Bq
 replace rd:=rd.kept gbw1
 replace hG:=d_ hG gbw1
 clear gbw1
 obtain ⟨Ca0,Ca1,Ca2,Ca3,Fa0,Fa1,Fa2,Fa3⟩:=b_ Ba
 obtain ⟨Cq0,Cq1,Fq0,Fq1⟩:=c_ Bq
 obtain ⟨Cd0,Cd1,Fd0,Fd1⟩:=c_ Bd
 obtain ⟨Ce0,Ce1,Fe0,Fe1⟩:=c_ Be
 clear Ca0 Fa0 Ca1 Fa1 Ca2 Fa2 Ca3 Fa3 Cq0 Fq0 Cq1 Fq1 Cd0 Fd0 Cd1 Fd1 Ce0 Fe0 Ce1 Fe1
 obtain ⟨k90,k91,k92,k93⟩:=c_ Bq
 obtain ⟨q90,q91,q92,q93⟩:=c_ (m_ Bq (.int .i64 gd) (.slice sd ld cd))
 have hF : Hid (Z_ w (r.floor) (.returned (.agg #[.int .i64 gd,.slice sd ld cd])) ((((w1.alloc (.cells #[.int .i64 gd,.slice sd ld cd] 36)).alloc (.cells #[.int .i64 ge,.slice se le ce] 36)).setCell ⟨w.heap.size + 1,0,none⟩ (.int .i64 gd)).setCell ⟨w.heap.size + 1,1,none⟩ (.slice sd ld cd))):=au_ hG Bq (by omega) rd
 clear ya ra ra' rd re
 obtain ⟨Cd0,Cd1,Fd0,Fd1⟩:=c_ Bd
 go_wp2_with fail
 exact bodyPost_ret (v:=.agg #[.int .i64 gd,.slice sd ld cd]) (by simp [results,Tryz.results43,go_sem,q90,q91]) rfl hF.out
def lR_ (W : World) (p : Nat) (z : Int) : Prop:=∃ g s l c,W.heap[p]? = some (.cells #[.int .i64 g,.slice s l c] 36 (0,0)) ∧ RIntV W (.agg #[.int .i64 g,.slice s l c]) z
theorem ky_ (n : Int) : Rat.divInt n 1 = (n : Rat):=by
 rw [show (1 : Int) = ((1 : Nat) : Int) from rfl,Rat.divInt_ofNat]; exact Rat.mkRat_self (n : Rat)
theorem fh_ {E : Nat} (h : 1 ≤ E) : (1 : Int).natAbs < D ^ E:=Nat.lt_of_lt_of_le (show 1 < D ^ 1 by unfold D; omega) (Nat.pow_le_pow_right bi_ h)
set_option maxHeartbeats 16000000 in
theorem hC_ (w : World) (va : Value) (r : Rat) (E : Nat) (Ha : RQ w va r E) (hE : 1 ≤ E ∧ E ≤ 50000) :
    Calls Tryz.prog 45 #[va] w (Z_ w (bE_ r)):=by
 have HE : Hid (1 ≤ E ∧ E ≤ 50000):=hE
 obtain ⟨n0,d0,hnd⟩ : ∃ n d : Int,0 < d ∧ Rat.divInt n d = r ∧ n.natAbs < D ^ E ∧ d.natAbs < D ^ E:=by
  obtain ⟨_,_,_,_,_,_,_,_,n,d,_,_,_,h⟩:=Ha
  exact ⟨n,d,h.out⟩
 have hfl : r.floor.natAbs < D ^ E:=by
  rw [← hnd.2.1,dy_ hnd.1]; exact Nat.lt_of_le_of_lt (Int.natAbs_ediv_le_natAbs _ _) hnd.2.2.1
 have hcmp:=fM_ r
 have hrn : bE_ r = (if bT_ (r - (r.floor : Int)) (((r.floor + 1 : Int) : Rat) - r) = -1 then r.floor else if bT_ (r - (r.floor : Int)) (((r.floor + 1 : Int) : Rat) - r) = 1 then r.floor + 1 else if r.floor % 2 = 0 then r.floor else r.floor + 1):=by
  rw [hcmp,Rat.floor_def]; rfl
 have hor:=dh_ (r - (r.floor : Int)) (((r.floor + 1 : Int) : Rat) - r)
 obtain ⟨q9,hq9⟩ : ∃ q,r.floor = q:=⟨_,rfl⟩
 have HQ:=H_ hq9
 rw [hq9] at hfl hrn hor
 obtain ⟨c9,hc9⟩ : ∃ c,bT_ (r - (q9 : Rat)) (((q9 + 1 : Int) : Rat) - r) = c:=⟨_,rfl⟩
 rw [hc9] at hrn hor
 have HC:=H_ hc9
 have HB : Hid (q9.natAbs < D ^ 400000 ∧ q9.natAbs < D ^ 1000000 ∧ (1 : Int).natAbs < D ^ 1000000 ∧ (2 : Int).natAbs < D ^ 400000 ∧ q9.natAbs < D ^ (E + 1) ∧ (q9 + 1).natAbs < D ^ (E + 1) ∧ (1 : Int).natAbs < D ^ (E + 1)) :=
  ⟨dp4 hfl (by omega),dp6 hfl (by omega),dp6 (fh_ (Nat.le_refl 1)) (by omega),dp4 (show (2 : Int).natAbs < D ^ 1 by unfold D; omega) (by omega),dpw hfl (by omega),gB_ hfl (fh_ hE.1),fh_ (by omega)⟩
 have HI : Hid (Rat.divInt q9 1 = (q9 : Rat) ∧ Rat.divInt (q9 + 1) 1 = ((q9 + 1 : Int) : Rat)):=⟨ky_ _,ky_ _⟩
 have hod : ((q9 % 2).sign = 0 ∧ q9 % 2 = 0) ∨ ((q9 % 2).sign = 1 ∧ ¬ q9 % 2 = 0):=by
  rcases (show q9 % 2 = 0 ∨ q9 % 2 = 1 by omega) with h | h
  · left; rw [h]; exact ⟨rfl,rfl⟩
  · right; rw [h]; exact ⟨rfl,by decide⟩
 obtain ⟨N9,hN9⟩ : ∃ z,bE_ r = z:=⟨_,rfl⟩
 rw [hN9] at hrn ⊢
 have key : (c9 = -1 ∧ Hid (N9 = q9)) ∨ (c9 = 1 ∧ Hid (N9 = q9 + 1)) ∨ (c9 = 0 ∧ Hid ((q9 % 2).sign = 0) ∧ Hid (N9 = q9)) ∨ (c9 = 0 ∧ Hid ((q9 % 2).sign = 1) ∧ Hid (N9 = q9 + 1)):=by
  rcases hor with h | h | h
  · left; rw [if_pos h] at hrn; exact ⟨h,hrn⟩
  · right; right
    rw [if_neg (by omega),if_neg (by omega)] at hrn
    rcases hod with ⟨h1,h2⟩ | ⟨h1,h2⟩
    · left; rw [if_pos h2] at hrn; exact ⟨h,h1,hrn⟩
    · right; rw [if_neg h2] at hrn; exact ⟨h,h1,hrn⟩
  · right; left; rw [if_neg (by omega),if_pos h] at hrn; exact ⟨h,hrn⟩
 have KEY:=H_ key
 clear hcmp hnd hfl hq9 hc9 hE hrn hN9 hor hod key
 obtain ⟨ga,sa,la,ca,ga',sa',la',ca',na,da,rfl,ha,ha',ua⟩:=Ha
 obtain ⟨hG,Ba,Bq⟩:=en2_ w (.cells #[.int .i64 ga,.slice sa la ca,.int .i64 ga',.slice sa' la' ca'] 38) (.cells #[.int .i64 0,.slice none 0 0] 36)
 have oa : RQ w (.agg #[.int .i64 ga,.slice sa la ca,.int .i64 ga',.slice sa' la' ca']) r E:=⟨ga,sa,la,ca,ga',sa',la',ca',na,da,rfl,ha,ha',ua⟩
 have ya:=oa.kept hG
 clear ha ha'
 go_enter Tryz.func45,Tryz.ntmps45
 obtain ⟨Ca0,Ca1,Ca2,Ca3,Fa0,Fa1,Fa2,Fa3⟩:=b_ Ba
 obtain ⟨Cq0,Cq1,Fq0,Fq1⟩:=c_ Bq
 go_wp2_with fail
 generalize ((w.alloc (.cells #[.int .i64 ga,.slice sa la ca,.int .i64 ga',.slice sa' la' ca'] 38)).alloc (.cells #[.int .i64 0,.slice none 0 0] 36)) = w0 at *
 clear Ca0 Fa0 Ca1 Fa1 Ca2 Fa2 Ca3 Fa3 Cq0 Fq0 Cq1 Fq1
 refine (dX_ w0 _ r E ya (by have:=HE.out; omega)).mono ?_
 rintro e w1 ⟨_,rfl,⟨gd,sd,ld,cd,rfl,hd,md⟩,gw1⟩
 rw [HQ.out] at hd md
 have rd : RIntV w1 (.agg #[.int .i64 gd,.slice sd ld cd]) (q9):=⟨gd,sd,ld,cd,rfl,hd,md⟩
 replace Ba:=a_ gw1 Ba
 replace Bq:=a_ gw1 Bq
 replace ya:=ya.kept gw1
 replace hG:=d_ hG gw1
 clear gw1
 clear md
 obtain ⟨Ca0,Ca1,Ca2,Ca3,Fa0,Fa1,Fa2,Fa3⟩:=b_ Ba
 obtain ⟨Cq0,Cq1,Fq0,Fq1⟩:=c_ Bq
 have gbw1:=(wg_ w1 (.cells #[.int .i64 gd,.slice sd ld cd] 36) none)
 have Bd:=(f_ w1 (.cells #[.int .i64 gd,.slice sd ld cd] 36) (w1.heap.size) rfl)
 have hzw1 : Hid (w.heap.size ≤ w1.heap.size):=H_ hG.size
 have hlaw1 : Hid (w.heap.size < w1.heap.size):=H_ (Array.getElem?_eq_some_iff.1 Ba).1
 have hlqw1 : Hid (w.heap.size + 1 < w1.heap.size):=H_ (Array.getElem?_eq_some_iff.1 Bq).1
 clear Ca0 Fa0 Ca1 Fa1 Ca2 Fa2 Ca3 Fa3 Cq0 Fq0 Cq1 Fq1
 replace Ba:=a_ gbw1 Ba
 replace Bq:=a_ gbw1 Bq
 replace ya:=ya.kept gbw1
 replace rd:=rd.kept gbw1
 replace hG:=d_ hG gbw1
 clear gbw1
 obtain ⟨Ca0,Ca1,Ca2,Ca3,Fa0,Fa1,Fa2,Fa3⟩:=b_ Ba
 obtain ⟨Cq0,Cq1,Fq0,Fq1⟩:=c_ Bq
 obtain ⟨Cd0,Cd1,Fd0,Fd1⟩:=c_ Bd
 go_wp2_with fail
 generalize (w1.alloc (.cells #[.int .i64 gd,.slice sd ld cd] 36)) = w2 at *
 generalize w1.heap.size = aw1 at *
 replace hzw1:=hzw1.out
 replace hlaw1:=hlaw1.out
 replace hlqw1:=hlqw1.out
 have HG0:=H_ hG
 have Ha9:=H_ Ba
 have Hq9:=H_ Bq
 have Hd9:=H_ Bd
 have Jya9:=H_ ya
 have Jrd9:=H_ rd
 have hX : w2.grownBy w2 none:=h_ _ _
 have hs0 : w.heap.size + 1 < w2.heap.size:=(Array.getElem?_eq_some_iff.1 Bq).1
 go_cut [4] (fun p wx=>∃ ph,p = .pointer (some ⟨ph,0,none⟩) ∧ lR_ wx ph (q9 + 1) ∧ w.heap.size ≤ ph ∧ w2.grownBy wx none)
 case first =>
  clear Ca0 Fa0 Ca1 Fa1 Ca2 Fa2 Ca3 Fa3 Cq0 Fq0 Cq1 Fq1 Cd0 Fd0 Cd1 Fd1
  clear Ba Bq
  clear ya
  obtain ⟨Cd0,Cd1,Fd0,Fd1⟩:=c_ Bd
  refine wp_region_held_drew (S:=fun w'=>w'.cell? ⟨aw1,0,none⟩ = some (.int .i64 gd) ∧ w'.cell? ⟨aw1,1,none⟩ = some (.slice sd ld cd)) (by kernel_rfl) (by exact ⟨Cd0,Cd1⟩) (fun hHeld=>?_)
  have gd : w2.grownBy w2.drew none:=k_ (h_ _ _)
  clear Cd0 Fd0 Cd1 Fd1
  replace Bd:=a_ gd Bd
  replace rd:=rd.kept gd
  replace hG:=d_ hG gd
  replace hX:=d_ hX gd
  clear gd
  generalize w2.drew = tw3 at *
  refine tk_ 0 ?_ rfl ?_ ?_
  rotate_left
  · (intro w hSw; (try dsimp only at hSw); go_simp; (try with_reducible rfl))
  try simp only [ly_]
  refine wpAnyH_ready (rs:=[1,3]) (by kernel_rfl) (by simp) ?_
  refine AllReadyH.cons rfl (fun KQ hKQ=>?_) (AllReadyH.cons rfl (fun KQ hKQ=>?_) AllReadyH.nil)
  focus
   go_simp
   go_at_call 27
   refine (aq_ tw3 1 (by omega) (by omega)).mono ?_
   rintro e tw4 ⟨v1,rfl,k1,gtw4⟩
   replace Bd:=a_ gtw4 Bd
   replace rd:=rd.kept gtw4
   replace hG:=d_ hG gtw4
   replace hX:=d_ hX gtw4
   clear gtw4
   (try go_wp2_with fail)
   refine hKQ.out _ _ (by exact ⟨(c_ Bd).1,(c_ Bd).2.1⟩) (fun hHeld=>?_)
   clear hKQ KQ
   try simp only [ly_]
   refine wpAnyH_ready (rs:=[2,3]) (by kernel_rfl) (by simp) ?_
   refine AllReadyH.cons rfl (fun KQ hKQ=>?_) (AllReadyH.cons rfl (fun KQ hKQ=>?_) AllReadyH.nil)
   focus
    go_simp
    go_at_call 81
    refine (bX_ tw4 _ _ q9 1 rd k1 HB.out.2.1 HB.out.2.2.1).mono ?_
    rintro e tw5 ⟨_,rfl,⟨gh,sh,lh,ch,rfl,hh,mh⟩,gtw5⟩
    have rh : RIntV tw5 (.agg #[.int .i64 gh,.slice sh lh ch]) (q9 + 1):=⟨gh,sh,lh,ch,rfl,hh,mh⟩
    replace Bd:=a_ gtw5 Bd
    replace rd:=rd.kept gtw5
    replace k1:=k1.kept gtw5
    replace hG:=d_ hG gtw5
    replace hX:=d_ hX gtw5
    clear gtw5
    clear mh
    (try go_wp2_with fail)
    refine hKQ.out _ _ (by exact ⟨(c_ Bd).1,(c_ Bd).2.1⟩) (fun hHeld=>?_)
    clear hKQ KQ
    try simp only [ly_]
    refine o1_ 3 rfl (fun KQ hKQ=>?_)
    have gA:=wg_ tw5 (.cells #[.int .i64 0,.slice none 0 0] 36) none
    have lohGk : w.heap.size ≤ tw5.heap.size:=hG.size
    have lohXk : w2.heap.size ≤ tw5.heap.size:=hX.size
    have ltdk : aw1 < tw5.heap.size:=g_ Bd
    have Bk_:=f_ tw5 (.cells #[.int .i64 0,.slice none 0 0] 36) tw5.heap.size rfl
    replace Bd:=a_ gA Bd
    replace rd:=rd.kept gA
    replace k1:=k1.kept gA
    replace rh:=rh.kept gA
    replace hG:=d_ hG gA
    replace hX:=d_ hX gA
    clear gA
    go_simp
    generalize (tw5.alloc (.cells #[.int .i64 0,.slice none 0 0] 36)) = tw6 at *
    generalize tw5.heap.size = pk at *
    have Bk:=Bk_
    clear Bk_
    refine hKQ.out _ _ (by exact ⟨(c_ Bd).1,(c_ Bd).2.1⟩) (fun hHeld=>?_)
    clear hKQ KQ
    try simp only [ly_]
   rotate_left 1
   focus
    have gA:=wg_ tw4 (.cells #[.int .i64 0,.slice none 0 0] 36) none
    have lohGk : w.heap.size ≤ tw4.heap.size:=hG.size
    have lohXk : w2.heap.size ≤ tw4.heap.size:=hX.size
    have ltdk : aw1 < tw4.heap.size:=g_ Bd
    have Bk_:=f_ tw4 (.cells #[.int .i64 0,.slice none 0 0] 36) tw4.heap.size rfl
    replace Bd:=a_ gA Bd
    replace rd:=rd.kept gA
    replace k1:=k1.kept gA
    replace hG:=d_ hG gA
    replace hX:=d_ hX gA
    clear gA
    go_simp
    generalize (tw4.alloc (.cells #[.int .i64 0,.slice none 0 0] 36)) = tw5 at *
    generalize tw4.heap.size = pk at *
    have Bk:=Bk_
    clear Bk_
    refine hKQ.out _ _ (by exact ⟨(c_ Bd).1,(c_ Bd).2.1⟩) (fun hHeld=>?_)
    clear hKQ KQ
    try simp only [ly_]
    refine o1_ 2 rfl (fun KQ hKQ=>?_)
    go_simp
    go_at_call 81
    refine (bX_ tw5 _ _ q9 1 rd k1 HB.out.2.1 HB.out.2.2.1).mono ?_
    rintro e tw6 ⟨_,rfl,⟨gh,sh,lh,ch,rfl,hh,mh⟩,gtw6⟩
    have rh : RIntV tw6 (.agg #[.int .i64 gh,.slice sh lh ch]) (q9 + 1):=⟨gh,sh,lh,ch,rfl,hh,mh⟩
    replace Bd:=a_ gtw6 Bd
    replace Bk:=a_ gtw6 Bk
    replace rd:=rd.kept gtw6
    replace k1:=k1.kept gtw6
    replace hG:=d_ hG gtw6
    replace hX:=d_ hX gtw6
    clear gtw6
    clear mh
    (try go_wp2_with fail)
    refine hKQ.out _ _ (by exact ⟨(c_ Bd).1,(c_ Bd).2.1⟩) (fun hHeld=>?_)
    clear hKQ KQ
    try simp only [ly_]
   rotate_left 1
  rotate_left 2
  focus
   have gA:=wg_ tw3 (.cells #[.int .i64 0,.slice none 0 0] 36) none
   have lohGk : w.heap.size ≤ tw3.heap.size:=hG.size
   have lohXk : w2.heap.size ≤ tw3.heap.size:=hX.size
   have ltdk : aw1 < tw3.heap.size:=g_ Bd
   have Bk_:=f_ tw3 (.cells #[.int .i64 0,.slice none 0 0] 36) tw3.heap.size rfl
   replace Bd:=a_ gA Bd
   replace rd:=rd.kept gA
   replace hG:=d_ hG gA
   replace hX:=d_ hX gA
   clear gA
   go_simp
   generalize (tw3.alloc (.cells #[.int .i64 0,.slice none 0 0] 36)) = tw4 at *
   generalize tw3.heap.size = pk at *
   have Bk:=Bk_
   clear Bk_
   refine hKQ.out _ _ (by exact ⟨(c_ Bd).1,(c_ Bd).2.1⟩) (fun hHeld=>?_)
   clear hKQ KQ
   try simp only [ly_]
   refine o1_ 1 rfl (fun KQ hKQ=>?_)
   go_simp
   go_at_call 27
   refine (aq_ tw4 1 (by omega) (by omega)).mono ?_
   rintro e tw5 ⟨v1,rfl,k1,gtw5⟩
   replace Bd:=a_ gtw5 Bd
   replace Bk:=a_ gtw5 Bk
   replace rd:=rd.kept gtw5
   replace hG:=d_ hG gtw5
   replace hX:=d_ hX gtw5
   clear gtw5
   (try go_wp2_with fail)
   refine hKQ.out _ _ (by exact ⟨(c_ Bd).1,(c_ Bd).2.1⟩) (fun hHeld=>?_)
   clear hKQ KQ
   try simp only [ly_]
   refine o1_ 2 rfl (fun KQ hKQ=>?_)
   go_simp
   go_at_call 81
   refine (bX_ tw5 _ _ q9 1 rd k1 HB.out.2.1 HB.out.2.2.1).mono ?_
   rintro e tw6 ⟨_,rfl,⟨gh,sh,lh,ch,rfl,hh,mh⟩,gtw6⟩
   have rh : RIntV tw6 (.agg #[.int .i64 gh,.slice sh lh ch]) (q9 + 1):=⟨gh,sh,lh,ch,rfl,hh,mh⟩
   replace Bd:=a_ gtw6 Bd
   replace Bk:=a_ gtw6 Bk
   replace rd:=rd.kept gtw6
   replace k1:=k1.kept gtw6
   replace hG:=d_ hG gtw6
   replace hX:=d_ hX gtw6
   clear gtw6
   clear mh
   (try go_wp2_with fail)
   refine hKQ.out _ _ (by exact ⟨(c_ Bd).1,(c_ Bd).2.1⟩) (fun hHeld=>?_)
   clear hKQ KQ
   try simp only [ly_]
  rotate_left 1
  all_goals (
   refine o1_ 4 rfl (fun KQ hKQ=>?_)
   obtain ⟨c0',c1',c2',c3'⟩:=c_ Bk
   go_simp
   clear c0' c1' c2' c3'
   replace rd:=rd.set2 Bk (.int .i64 gh) (.slice sh lh ch)
   replace k1:=k1.set2 Bk (.int .i64 gh) (.slice sh lh ch)
   replace rh:=rh.set2 Bk (.int .i64 gh) (.slice sh lh ch)
   replace hG:=t_ (g:=pk) hG (by omega) (.int .i64 gh) (.slice sh lh ch)
   replace hX:=t_ (g:=pk) hX (by omega) (.int .i64 gh) (.slice sh lh ch)
   replace Bd:=e_ Bd (show aw1 ≠ pk by omega) (.int .i64 gh) (.slice sh lh ch)
   replace Bk:=m_ Bk (.int .i64 gh) (.slice sh lh ch)
   generalize ((tw6.setCell ⟨pk,0,none⟩ (.int .i64 gh)).setCell ⟨pk,1,none⟩ (.slice sh lh ch)) = tw7 at *
   refine hKQ.out _ _ (by exact ⟨(c_ Bd).1,(c_ Bd).2.1⟩) (fun hHeld=>?_)
   clear hKQ KQ
   try simp only [ly_]
   refine wpAnyH_done (by kernel_rfl) ?_ _
   go_wp2_with fail
   go_meet
   exact ⟨pk,rfl,⟨_,_,_,_,Bk,rh⟩,by omega,hX⟩)
 case rest =>
  clear hG hX hs0 ya rd Ba Bq Bd
  obtain ⟨ph,rfl,Kh,lh',hX⟩:=hcut
  obtain ⟨gh,sh,lh,ch,Bh,rh⟩:=Kh
  have hG:=d_ HG0.out hX
  have Ba:=a_ hX Ha9.out
  have Bq:=a_ hX Hq9.out
  have Bd:=a_ hX Hd9.out
  have ya:=Jya9.out.kept hX
  have rd:=Jrd9.out.kept hX
  clear hX HG0 Ha9 Hq9 Hd9 Jya9 Jrd9
  obtain ⟨Ca0,Ca1,Ca2,Ca3,Fa0,Fa1,Fa2,Fa3⟩:=b_ Ba
  obtain ⟨Cq0,Cq1,Fq0,Fq1⟩:=c_ Bq
  obtain ⟨Cd0,Cd1,Fd0,Fd1⟩:=c_ Bd
  obtain ⟨Ch0,Ch1,Fh0,Fh1⟩:=c_ Bh
  go_wp2_with fail
  clear Ca0 Fa0 Ca1 Fa1 Ca2 Fa2 Ca3 Fa3 Cq0 Fq0 Cq1 Fq1 Cd0 Fd0 Cd1 Fd1 Ch0 Fh0 Ch1 Fh1
  refine (aq_ wc 1 (by omega) (by omega)).mono ?_
  rintro e w3 ⟨_,rfl,⟨gn,sn,ln,cn,rfl,hn,mn⟩,gw3⟩
  have rn : RIntV w3 (.agg #[.int .i64 gn,.slice sn ln cn]) (1):=⟨gn,sn,ln,cn,rfl,hn,mn⟩
  replace Ba:=a_ gw3 Ba
  replace Bq:=a_ gw3 Bq
  replace Bd:=a_ gw3 Bd
  replace Bh:=a_ gw3 Bh
  replace ya:=ya.kept gw3
  replace rd:=rd.kept gw3
  replace rh:=rh.kept gw3
  replace hG:=d_ hG gw3
  clear gw3
  clear mn
  obtain ⟨Ca0,Ca1,Ca2,Ca3,Fa0,Fa1,Fa2,Fa3⟩:=b_ Ba
  obtain ⟨Cq0,Cq1,Fq0,Fq1⟩:=c_ Bq
  obtain ⟨Cd0,Cd1,Fd0,Fd1⟩:=c_ Bd
  obtain ⟨Ch0,Ch1,Fh0,Fh1⟩:=c_ Bh
  have gbw3:=(wg_ w3 (.cells #[.int .i64 gn,.slice sn ln cn] 36) none)
  have Bn:=(f_ w3 (.cells #[.int .i64 gn,.slice sn ln cn] 36) (w3.heap.size) rfl)
  have hzw3 : Hid (w.heap.size ≤ w3.heap.size):=H_ hG.size
  have hlaw3 : Hid (w.heap.size < w3.heap.size):=H_ (Array.getElem?_eq_some_iff.1 Ba).1
  have hlqw3 : Hid (w.heap.size + 1 < w3.heap.size):=H_ (Array.getElem?_eq_some_iff.1 Bq).1
  have hldw3 : Hid (aw1 < w3.heap.size):=H_ (Array.getElem?_eq_some_iff.1 Bd).1
  have hlhw3 : Hid (ph < w3.heap.size):=H_ (Array.getElem?_eq_some_iff.1 Bh).1
  clear Ca0 Fa0 Ca1 Fa1 Ca2 Fa2 Ca3 Fa3 Cq0 Fq0 Cq1 Fq1 Cd0 Fd0 Cd1 Fd1 Ch0 Fh0 Ch1 Fh1
  replace Ba:=a_ gbw3 Ba
  replace Bq:=a_ gbw3 Bq
  replace Bd:=a_ gbw3 Bd
  replace Bh:=a_ gbw3 Bh
  replace ya:=ya.kept gbw3
  replace rd:=rd.kept gbw3
  replace rh:=rh.kept gbw3
  replace rn:=rn.kept gbw3
  replace hG:=d_ hG gbw3
  clear gbw3
  obtain ⟨Ca0,Ca1,Ca2,Ca3,Fa0,Fa1,Fa2,Fa3⟩:=b_ Ba
  obtain ⟨Cq0,Cq1,Fq0,Fq1⟩:=c_ Bq
  obtain ⟨Cd0,Cd1,Fd0,Fd1⟩:=c_ Bd
  obtain ⟨Ch0,Ch1,Fh0,Fh1⟩:=c_ Bh
  obtain ⟨Cn0,Cn1,Fn0,Fn1⟩:=c_ Bn
  go_wp2_with fail
  generalize (w3.alloc (.cells #[.int .i64 gn,.slice sn ln cn] 36)) = w4 at *
  generalize w3.heap.size = aw3 at *
  replace hzw3:=hzw3.out
  replace hlaw3:=hlaw3.out
  replace hlqw3:=hlqw3.out
  replace hldw3:=hldw3.out
  replace hlhw3:=hlhw3.out
  have y1 : RQ w4 (.agg #[.int .i64 gh,.slice sh lh ch,.int .i64 gn,.slice sn ln cn]) ((q9 + 1 : Int) : Rat) (E + 1):=RQ.of rh rn (by decide) HI.out.2 HB.out.2.2.2.2.2.1 HB.out.2.2.2.2.2.2
  have y2 : RQ w4 (.agg #[.int .i64 gd,.slice sd ld cd,.int .i64 gn,.slice sn ln cn]) (q9 : Rat) (E + 1):=RQ.of rd rn (by decide) HI.out.1 HB.out.2.2.2.2.1 HB.out.2.2.2.2.2.2
  clear Ca0 Fa0 Ca1 Fa1 Ca2 Fa2 Ca3 Fa3 Cq0 Fq0 Cq1 Fq1 Cd0 Fd0 Cd1 Fd1 Ch0 Fh0 Ch1 Fh1 Cn0 Fn0 Cn1 Fn1
  refine (cP_ w4 _ _ ((q9 + 1 : Int) : Rat) r (E + 1) E y1 ya (by have:=HE.out; omega)).mono ?_
  rintro e w5 ⟨_,rfl,⟨gu,su,lu,cu,gu',su',lu',cu',nu,du,rfl,hu,hu',uu⟩,gw5⟩
  have yu : RQ w5 (.agg #[.int .i64 gu,.slice su lu cu,.int .i64 gu',.slice su' lu' cu']) (((q9 + 1 : Int) : Rat) - r) (E + 1 + E + 1):=⟨gu,su,lu,cu,gu',su',lu',cu',nu,du,rfl,hu,hu',uu⟩
  replace Ba:=a_ gw5 Ba
  replace Bq:=a_ gw5 Bq
  replace Bd:=a_ gw5 Bd
  replace Bh:=a_ gw5 Bh
  replace Bn:=a_ gw5 Bn
  replace ya:=ya.kept gw5
  replace rd:=rd.kept gw5
  replace rh:=rh.kept gw5
  replace rn:=rn.kept gw5
  replace y2:=y2.kept gw5
  replace hG:=d_ hG gw5
  clear gw5
  clear hu hu'
  obtain ⟨Ca0,Ca1,Ca2,Ca3,Fa0,Fa1,Fa2,Fa3⟩:=b_ Ba
  obtain ⟨Cq0,Cq1,Fq0,Fq1⟩:=c_ Bq
  obtain ⟨Cd0,Cd1,Fd0,Fd1⟩:=c_ Bd
  obtain ⟨Ch0,Ch1,Fh0,Fh1⟩:=c_ Bh
  obtain ⟨Cn0,Cn1,Fn0,Fn1⟩:=c_ Bn
  have gbw5:=(wg_ w5 (.cells #[.int .i64 gu,.slice su lu cu,.int .i64 gu',.slice su' lu' cu'] 38) none)
  have Bu:=(f_ w5 (.cells #[.int .i64 gu,.slice su lu cu,.int .i64 gu',.slice su' lu' cu'] 38) (w5.heap.size) rfl)
  have hzw5 : Hid (w.heap.size ≤ w5.heap.size):=H_ hG.size
  have hlaw5 : Hid (w.heap.size < w5.heap.size):=H_ (Array.getElem?_eq_some_iff.1 Ba).1
  have hlqw5 : Hid (w.heap.size + 1 < w5.heap.size):=H_ (Array.getElem?_eq_some_iff.1 Bq).1
  have hldw5 : Hid (aw1 < w5.heap.size):=H_ (Array.getElem?_eq_some_iff.1 Bd).1
  have hlhw5 : Hid (ph < w5.heap.size):=H_ (Array.getElem?_eq_some_iff.1 Bh).1
  have hlnw5 : Hid (aw3 < w5.heap.size):=H_ (Array.getElem?_eq_some_iff.1 Bn).1
  clear Ca0 Fa0 Ca1 Fa1 Ca2 Fa2 Ca3 Fa3 Cq0 Fq0 Cq1 Fq1 Cd0 Fd0 Cd1 Fd1 Ch0 Fh0 Ch1 Fh1 Cn0 Fn0 Cn1 Fn1
  replace Ba:=a_ gbw5 Ba
  replace Bq:=a_ gbw5 Bq
  replace Bd:=a_ gbw5 Bd
  replace Bh:=a_ gbw5 Bh
  replace Bn:=a_ gbw5 Bn
  replace ya:=ya.kept gbw5
  replace rd:=rd.kept gbw5
  replace rh:=rh.kept gbw5
  replace rn:=rn.kept gbw5
  replace y2:=y2.kept gbw5
  replace yu:=yu.kept gbw5
  replace hG:=d_ hG gbw5
  clear gbw5
  obtain ⟨Ca0,Ca1,Ca2,Ca3,Fa0,Fa1,Fa2,Fa3⟩:=b_ Ba
  obtain ⟨Cq0,Cq1,Fq0,Fq1⟩:=c_ Bq
  obtain ⟨Cd0,Cd1,Fd0,Fd1⟩:=c_ Bd
  obtain ⟨Ch0,Ch1,Fh0,Fh1⟩:=c_ Bh
  obtain ⟨Cn0,Cn1,Fn0,Fn1⟩:=c_ Bn
  obtain ⟨Cu0,Cu1,Cu2,Cu3,Fu0,Fu1,Fu2,Fu3⟩:=b_ Bu
  go_wp2_with fail
  generalize (w5.alloc (.cells #[.int .i64 gu,.slice su lu cu,.int .i64 gu',.slice su' lu' cu'] 38)) = w6 at *
  generalize w5.heap.size = aw5 at *
  replace hzw5:=hzw5.out
  replace hlaw5:=hlaw5.out
  replace hlqw5:=hlqw5.out
  replace hldw5:=hldw5.out
  replace hlhw5:=hlhw5.out
  replace hlnw5:=hlnw5.out
  clear Ca0 Fa0 Ca1 Fa1 Ca2 Fa2 Ca3 Fa3 Cq0 Fq0 Cq1 Fq1 Cd0 Fd0 Cd1 Fd1 Ch0 Fh0 Ch1 Fh1 Cn0 Fn0 Cn1 Fn1 Cu0 Fu0 Cu1 Fu1 Cu2 Fu2 Cu3 Fu3
  refine (cP_ w6 _ _ r (q9 : Rat) E (E + 1) ya y2 (by have:=HE.out; omega)).mono ?_
  rintro e w7 ⟨_,rfl,⟨gv,sv,lv,cv,gv',sv',lv',cv',nv,dv,rfl,hv,hv',uv⟩,gw7⟩
  have yv : RQ w7 (.agg #[.int .i64 gv,.slice sv lv cv,.int .i64 gv',.slice sv' lv' cv']) (r - (q9 : Rat)) (E + (E + 1) + 1):=⟨gv,sv,lv,cv,gv',sv',lv',cv',nv,dv,rfl,hv,hv',uv⟩
  replace Ba:=a_ gw7 Ba
  replace Bq:=a_ gw7 Bq
  replace Bd:=a_ gw7 Bd
  replace Bh:=a_ gw7 Bh
  replace Bn:=a_ gw7 Bn
  replace Bu:=a_ gw7 Bu
  replace ya:=ya.kept gw7
  replace rd:=rd.kept gw7
  replace rh:=rh.kept gw7
  replace rn:=rn.kept gw7
  replace yu:=yu.kept gw7
  replace hG:=d_ hG gw7
  clear gw7
  clear hv hv'
  obtain ⟨Ca0,Ca1,Ca2,Ca3,Fa0,Fa1,Fa2,Fa3⟩:=b_ Ba
  obtain ⟨Cq0,Cq1,Fq0,Fq1⟩:=c_ Bq
  obtain ⟨Cd0,Cd1,Fd0,Fd1⟩:=c_ Bd
  obtain ⟨Ch0,Ch1,Fh0,Fh1⟩:=c_ Bh
  obtain ⟨Cn0,Cn1,Fn0,Fn1⟩:=c_ Bn
  obtain ⟨Cu0,Cu1,Cu2,Cu3,Fu0,Fu1,Fu2,Fu3⟩:=b_ Bu
  have gbw7:=(wg_ w7 (.cells #[.int .i64 gv,.slice sv lv cv,.int .i64 gv',.slice sv' lv' cv'] 38) none)
  have Bv:=(f_ w7 (.cells #[.int .i64 gv,.slice sv lv cv,.int .i64 gv',.slice sv' lv' cv'] 38) (w7.heap.size) rfl)
  have hzw7 : Hid (w.heap.size ≤ w7.heap.size):=H_ hG.size
  have hlaw7 : Hid (w.heap.size < w7.heap.size):=H_ (Array.getElem?_eq_some_iff.1 Ba).1
  have hlqw7 : Hid (w.heap.size + 1 < w7.heap.size):=H_ (Array.getElem?_eq_some_iff.1 Bq).1
  have hldw7 : Hid (aw1 < w7.heap.size):=H_ (Array.getElem?_eq_some_iff.1 Bd).1
  have hlhw7 : Hid (ph < w7.heap.size):=H_ (Array.getElem?_eq_some_iff.1 Bh).1
  have hlnw7 : Hid (aw3 < w7.heap.size):=H_ (Array.getElem?_eq_some_iff.1 Bn).1
  have hluw7 : Hid (aw5 < w7.heap.size):=H_ (Array.getElem?_eq_some_iff.1 Bu).1
  clear Ca0 Fa0 Ca1 Fa1 Ca2 Fa2 Ca3 Fa3 Cq0 Fq0 Cq1 Fq1 Cd0 Fd0 Cd1 Fd1 Ch0 Fh0 Ch1 Fh1 Cn0 Fn0 Cn1 Fn1 Cu0 Fu0 Cu1 Fu1 Cu2 Fu2 Cu3 Fu3
  replace Ba:=a_ gbw7 Ba
  replace Bq:=a_ gbw7 Bq
  replace Bd:=a_ gbw7 Bd
  replace Bh:=a_ gbw7 Bh
  replace Bn:=a_ gbw7 Bn
  replace Bu:=a_ gbw7 Bu
  replace ya:=ya.kept gbw7
  replace rd:=rd.kept gbw7
  replace rh:=rh.kept gbw7
  replace rn:=rn.kept gbw7
  replace yu:=yu.kept gbw7
  replace yv:=yv.kept gbw7
  replace hG:=d_ hG gbw7
  clear gbw7
  obtain ⟨Ca0,Ca1,Ca2,Ca3,Fa0,Fa1,Fa2,Fa3⟩:=b_ Ba
  obtain ⟨Cq0,Cq1,Fq0,Fq1⟩:=c_ Bq
  obtain ⟨Cd0,Cd1,Fd0,Fd1⟩:=c_ Bd
  obtain ⟨Ch0,Ch1,Fh0,Fh1⟩:=c_ Bh
  obtain ⟨Cn0,Cn1,Fn0,Fn1⟩:=c_ Bn
  obtain ⟨Cu0,Cu1,Cu2,Cu3,Fu0,Fu1,Fu2,Fu3⟩:=b_ Bu
  obtain ⟨Cv0,Cv1,Cv2,Cv3,Fv0,Fv1,Fv2,Fv3⟩:=b_ Bv
  go_wp2_with fail
  generalize (w7.alloc (.cells #[.int .i64 gv,.slice sv lv cv,.int .i64 gv',.slice sv' lv' cv'] 38)) = w8 at *
  generalize w7.heap.size = aw7 at *
  replace hzw7:=hzw7.out
  replace hlaw7:=hlaw7.out
  replace hlqw7:=hlqw7.out
  replace hldw7:=hldw7.out
  replace hlhw7:=hlhw7.out
  replace hlnw7:=hlnw7.out
  replace hluw7:=hluw7.out
  clear Ca0 Fa0 Ca1 Fa1 Ca2 Fa2 Ca3 Fa3 Cq0 Fq0 Cq1 Fq1 Cd0 Fd0 Cd1 Fd1 Ch0 Fh0 Ch1 Fh1 Cn0 Fn0 Cn1 Fn1 Cu0 Fu0 Cu1 Fu1 Cu2 Fu2 Cu3 Fu3 Cv0 Fv0 Cv1 Fv1 Cv2 Fv2 Cv3 Fv3
  refine (dY_ w8 _ _ (r - (q9 : Rat)) (((q9 + 1 : Int) : Rat) - r) (E + (E + 1) + 1) (E + 1 + E + 1) yv yu (by have:=HE.out; omega)).mono ?_
  rintro e w9 ⟨rfl,gw9⟩
  rw [HC.out]
  replace Ba:=a_ gw9 Ba
  replace Bq:=a_ gw9 Bq
  replace Bd:=a_ gw9 Bd
  replace Bh:=a_ gw9 Bh
  replace Bn:=a_ gw9 Bn
  replace Bu:=a_ gw9 Bu
  replace Bv:=a_ gw9 Bv
  replace ya:=ya.kept gw9
  replace rd:=rd.kept gw9
  replace rh:=rh.kept gw9
  replace rn:=rn.kept gw9
  replace yu:=yu.kept gw9
  replace yv:=yv.kept gw9
  replace hG:=d_ hG gw9
  clear gw9
  obtain ⟨Ca0,Ca1,Ca2,Ca3,Fa0,Fa1,Fa2,Fa3⟩:=b_ Ba
  obtain ⟨Cq0,Cq1,Fq0,Fq1⟩:=c_ Bq
  obtain ⟨Cd0,Cd1,Fd0,Fd1⟩:=c_ Bd
  obtain ⟨Ch0,Ch1,Fh0,Fh1⟩:=c_ Bh
  obtain ⟨Cn0,Cn1,Fn0,Fn1⟩:=c_ Bn
  obtain ⟨Cu0,Cu1,Cu2,Cu3,Fu0,Fu1,Fu2,Fu3⟩:=b_ Bu
  obtain ⟨Cv0,Cv1,Cv2,Cv3,Fv0,Fv1,Fv2,Fv3⟩:=b_ Bv
  go_wp2_with fail
  clear y1
  clear y2
  have HG0:=H_ hG
  have Ha9:=H_ Ba
  have Hq9:=H_ Bq
  have Hd9:=H_ Bd
  have Hh9:=H_ Bh
  have Hn9:=H_ Bn
  have Hu9:=H_ Bu
  have Hv9:=H_ Bv
  have Jya9:=H_ ya
  have Jrd9:=H_ rd
  have Jrh9:=H_ rh
  have Jrn9:=H_ rn
  have Jyu9:=H_ yu
  have Jyv9:=H_ yv
  have hX : w9.grownBy w9 none:=h_ _ _
  have hs0 : w.heap.size + 1 < w9.heap.size:=(Array.getElem?_eq_some_iff.1 Bq).1
  go_cut [10] (fun p wx=>∃ ph,p = .pointer (some ⟨ph,0,none⟩) ∧ lR_ wx ph (q9 % 2) ∧ w.heap.size ≤ ph ∧ w9.grownBy wx none)
  case first =>
   clear Ca0 Fa0 Ca1 Fa1 Ca2 Fa2 Ca3 Fa3 Cq0 Fq0 Cq1 Fq1 Cd0 Fd0 Cd1 Fd1 Ch0 Fh0 Ch1 Fh1 Cn0 Fn0 Cn1 Fn1 Cu0 Fu0 Cu1 Fu1 Cu2 Fu2 Cu3 Fu3 Cv0 Fv0 Cv1 Fv1 Cv2 Fv2 Cv3 Fv3
   clear Ba Bq Bh Bn Bu Bv
   clear ya rh rn yu yv
   obtain ⟨Cd0,Cd1,Fd0,Fd1⟩:=c_ Bd
   refine wp_region_held_drew (S:=fun w'=>w'.cell? ⟨aw1,0,none⟩ = some (.int .i64 gd) ∧ w'.cell? ⟨aw1,1,none⟩ = some (.slice sd ld cd)) (by kernel_rfl) (by exact ⟨Cd0,Cd1⟩) (fun hHeld=>?_)
   have gd : w9.grownBy w9.drew none:=k_ (h_ _ _)
   clear Cd0 Fd0 Cd1 Fd1
   replace Bd:=a_ gd Bd
   replace rd:=rd.kept gd
   replace hG:=d_ hG gd
   replace hX:=d_ hX gd
   clear gd
   generalize w9.drew = uw10 at *
   refine tk_ 0 ?_ rfl ?_ ?_
   rotate_left
   · (intro w hSw; (try dsimp only at hSw); go_simp; (try with_reducible rfl))
   try simp only [ly_]
   refine wpAnyH_ready (rs:=[1,6,7]) (by kernel_rfl) (by simp) ?_
   refine AllReadyH.cons rfl (fun KQ hKQ=>?_) (AllReadyH.cons rfl (fun KQ hKQ=>?_) (AllReadyH.cons rfl (fun KQ hKQ=>?_) AllReadyH.nil))
   focus
    go_simp
    go_at_call 27
    refine (aq_ uw10 2 (by omega) (by omega)).mono ?_
    rintro e uw11 ⟨v1,rfl,k1,guw11⟩
    replace Bd:=a_ guw11 Bd
    replace rd:=rd.kept guw11
    replace hG:=d_ hG guw11
    replace hX:=d_ hX guw11
    clear guw11
    (try go_wp2_with fail)
    refine hKQ.out _ _ (by exact ⟨(c_ Bd).1,(c_ Bd).2.1⟩) (fun hHeld=>?_)
    clear hKQ KQ
    try simp only [ly_]
    refine wpAnyH_ready (rs:=[2,6,7]) (by kernel_rfl) (by simp) ?_
    refine AllReadyH.cons rfl (fun KQ hKQ=>?_) (AllReadyH.cons rfl (fun KQ hKQ=>?_) (AllReadyH.cons rfl (fun KQ hKQ=>?_) AllReadyH.nil))
    focus
     go_simp
     go_at_call 84
     refine (U_ uw11 _ _ q9 2 rd k1 (by decide) HB.out.1 HB.out.2.2.2.1).mono ?_
     rintro e uw12 ⟨_,_,rfl,⟨gi,si,li,ci,rfl,hi,mi⟩,⟨gj,sj,lj,cj,rfl,hj,mj⟩,guw12⟩
     have ri : RIntV uw12 (.agg #[.int .i64 gi,.slice si li ci]) (q9 / 2):=⟨gi,si,li,ci,rfl,hi,mi⟩
     have rj : RIntV uw12 (.agg #[.int .i64 gj,.slice sj lj cj]) (q9 % 2):=⟨gj,sj,lj,cj,rfl,hj,mj⟩
     replace Bd:=a_ guw12 Bd
     replace rd:=rd.kept guw12
     replace k1:=k1.kept guw12
     replace hG:=d_ hG guw12
     replace hX:=d_ hX guw12
     clear guw12
     clear mi
     clear mj
     (try go_wp2_with fail)
     refine hKQ.out _ _ (by exact ⟨(c_ Bd).1,(c_ Bd).2.1⟩) (fun hHeld=>?_)
     clear hKQ KQ
     try simp only [ly_]
     refine tk_ 3 ?_ rfl ?_ ?_
     rotate_left
     · (intro w hSw; (try dsimp only at hSw); go_simp; (try with_reducible rfl))
     try simp only [ly_]
     refine tk_ 4 ?_ rfl ?_ ?_
     rotate_left
     · (intro w hSw; (try dsimp only at hSw); go_simp; (try with_reducible rfl))
     try simp only [ly_]
     refine tk_ 5 ?_ rfl ?_ ?_
     rotate_left
     · (intro w hSw; (try dsimp only at hSw); go_simp; (try with_reducible rfl))
     try simp only [ly_]
     refine wpAnyH_ready (rs:=[6,7]) (by kernel_rfl) (by simp) ?_
     refine AllReadyH.cons rfl (fun KQ hKQ=>?_) (AllReadyH.cons rfl (fun KQ hKQ=>?_) AllReadyH.nil)
     focus
      have gA:=wg_ uw12 (.cells #[.int .i64 0,.slice none 0 0] 36) none
      have lohGk : w.heap.size ≤ uw12.heap.size:=hG.size
      have lohXk : w9.heap.size ≤ uw12.heap.size:=hX.size
      have ltdk : aw1 < uw12.heap.size:=g_ Bd
      have Bk_:=f_ uw12 (.cells #[.int .i64 0,.slice none 0 0] 36) uw12.heap.size rfl
      replace Bd:=a_ gA Bd
      replace rd:=rd.kept gA
      replace k1:=k1.kept gA
      replace ri:=ri.kept gA
      replace rj:=rj.kept gA
      replace hG:=d_ hG gA
      replace hX:=d_ hX gA
      clear gA
      go_simp
      generalize (uw12.alloc (.cells #[.int .i64 0,.slice none 0 0] 36)) = uw13 at *
      generalize uw12.heap.size = pk at *
      have Bk:=Bk_
      clear Bk_
      refine hKQ.out _ _ (by exact ⟨(c_ Bd).1,(c_ Bd).2.1⟩) (fun hHeld=>?_)
      clear hKQ KQ
      try simp only [ly_]
      refine o1_ 7 rfl (fun KQ hKQ=>?_)
      have gA:=wg_ uw13 (.cells #[.int .i64 0,.slice none 0 0] 36) none
      have lohGm : w.heap.size ≤ uw13.heap.size:=hG.size
      have lohXm : w9.heap.size ≤ uw13.heap.size:=hX.size
      have ltdm : aw1 < uw13.heap.size:=g_ Bd
      have ltkm : pk < uw13.heap.size:=g_ Bk
      have Bm_:=f_ uw13 (.cells #[.int .i64 0,.slice none 0 0] 36) uw13.heap.size rfl
      replace Bd:=a_ gA Bd
      replace Bk:=a_ gA Bk
      replace rd:=rd.kept gA
      replace k1:=k1.kept gA
      replace ri:=ri.kept gA
      replace rj:=rj.kept gA
      replace hG:=d_ hG gA
      replace hX:=d_ hX gA
      clear gA
      go_simp
      generalize (uw13.alloc (.cells #[.int .i64 0,.slice none 0 0] 36)) = uw14 at *
      generalize uw13.heap.size = pm at *
      have Bm:=Bm_
      clear Bm_
      refine hKQ.out _ _ (by exact ⟨(c_ Bd).1,(c_ Bd).2.1⟩) (fun hHeld=>?_)
      clear hKQ KQ
      try simp only [ly_]
     rotate_left 1
     focus
      have gA:=wg_ uw12 (.cells #[.int .i64 0,.slice none 0 0] 36) none
      have lohGm : w.heap.size ≤ uw12.heap.size:=hG.size
      have lohXm : w9.heap.size ≤ uw12.heap.size:=hX.size
      have ltdm : aw1 < uw12.heap.size:=g_ Bd
      have Bm_:=f_ uw12 (.cells #[.int .i64 0,.slice none 0 0] 36) uw12.heap.size rfl
      replace Bd:=a_ gA Bd
      replace rd:=rd.kept gA
      replace k1:=k1.kept gA
      replace ri:=ri.kept gA
      replace rj:=rj.kept gA
      replace hG:=d_ hG gA
      replace hX:=d_ hX gA
      clear gA
      go_simp
      generalize (uw12.alloc (.cells #[.int .i64 0,.slice none 0 0] 36)) = uw13 at *
      generalize uw12.heap.size = pm at *
      have Bm:=Bm_
      clear Bm_
      refine hKQ.out _ _ (by exact ⟨(c_ Bd).1,(c_ Bd).2.1⟩) (fun hHeld=>?_)
      clear hKQ KQ
      try simp only [ly_]
      refine o1_ 6 rfl (fun KQ hKQ=>?_)
      have gA:=wg_ uw13 (.cells #[.int .i64 0,.slice none 0 0] 36) none
      have lohGk : w.heap.size ≤ uw13.heap.size:=hG.size
      have lohXk : w9.heap.size ≤ uw13.heap.size:=hX.size
      have ltdk : aw1 < uw13.heap.size:=g_ Bd
      have ltmk : pm < uw13.heap.size:=g_ Bm
      have Bk_:=f_ uw13 (.cells #[.int .i64 0,.slice none 0 0] 36) uw13.heap.size rfl
      replace Bd:=a_ gA Bd
      replace Bm:=a_ gA Bm
      replace rd:=rd.kept gA
      replace k1:=k1.kept gA
      replace ri:=ri.kept gA
      replace rj:=rj.kept gA
      replace hG:=d_ hG gA
      replace hX:=d_ hX gA
      clear gA
      go_simp
      generalize (uw13.alloc (.cells #[.int .i64 0,.slice none 0 0] 36)) = uw14 at *
      generalize uw13.heap.size = pk at *
      have Bk:=Bk_
      clear Bk_
      refine hKQ.out _ _ (by exact ⟨(c_ Bd).1,(c_ Bd).2.1⟩) (fun hHeld=>?_)
      clear hKQ KQ
      try simp only [ly_]
     rotate_left 1
    rotate_left 2
    focus
     have gA:=wg_ uw11 (.cells #[.int .i64 0,.slice none 0 0] 36) none
     have lohGk : w.heap.size ≤ uw11.heap.size:=hG.size
     have lohXk : w9.heap.size ≤ uw11.heap.size:=hX.size
     have ltdk : aw1 < uw11.heap.size:=g_ Bd
     have Bk_:=f_ uw11 (.cells #[.int .i64 0,.slice none 0 0] 36) uw11.heap.size rfl
     replace Bd:=a_ gA Bd
     replace rd:=rd.kept gA
     replace k1:=k1.kept gA
     replace hG:=d_ hG gA
     replace hX:=d_ hX gA
     clear gA
     go_simp
     generalize (uw11.alloc (.cells #[.int .i64 0,.slice none 0 0] 36)) = uw12 at *
     generalize uw11.heap.size = pk at *
     have Bk:=Bk_
     clear Bk_
     refine hKQ.out _ _ (by exact ⟨(c_ Bd).1,(c_ Bd).2.1⟩) (fun hHeld=>?_)
     clear hKQ KQ
     try simp only [ly_]
     refine wpAnyH_ready (rs:=[2,7]) (by kernel_rfl) (by simp) ?_
     refine AllReadyH.cons rfl (fun KQ hKQ=>?_) (AllReadyH.cons rfl (fun KQ hKQ=>?_) AllReadyH.nil)
     focus
      go_simp
      go_at_call 84
      refine (U_ uw12 _ _ q9 2 rd k1 (by decide) HB.out.1 HB.out.2.2.2.1).mono ?_
      rintro e uw13 ⟨_,_,rfl,⟨gi,si,li,ci,rfl,hi,mi⟩,⟨gj,sj,lj,cj,rfl,hj,mj⟩,guw13⟩
      have ri : RIntV uw13 (.agg #[.int .i64 gi,.slice si li ci]) (q9 / 2):=⟨gi,si,li,ci,rfl,hi,mi⟩
      have rj : RIntV uw13 (.agg #[.int .i64 gj,.slice sj lj cj]) (q9 % 2):=⟨gj,sj,lj,cj,rfl,hj,mj⟩
      replace Bd:=a_ guw13 Bd
      replace Bk:=a_ guw13 Bk
      replace rd:=rd.kept guw13
      replace k1:=k1.kept guw13
      replace hG:=d_ hG guw13
      replace hX:=d_ hX guw13
      clear guw13
      clear mi
      clear mj
      (try go_wp2_with fail)
      refine hKQ.out _ _ (by exact ⟨(c_ Bd).1,(c_ Bd).2.1⟩) (fun hHeld=>?_)
      clear hKQ KQ
      try simp only [ly_]
      refine tk_ 3 ?_ rfl ?_ ?_
      rotate_left
      · (intro w hSw; (try dsimp only at hSw); go_simp; (try with_reducible rfl))
      try simp only [ly_]
      refine tk_ 4 ?_ rfl ?_ ?_
      rotate_left
      · (intro w hSw; (try dsimp only at hSw); go_simp; (try with_reducible rfl))
      try simp only [ly_]
      refine tk_ 5 ?_ rfl ?_ ?_
      rotate_left
      · (intro w hSw; (try dsimp only at hSw); go_simp; (try with_reducible rfl))
      try simp only [ly_]
      refine o1_ 7 rfl (fun KQ hKQ=>?_)
      have gA:=wg_ uw13 (.cells #[.int .i64 0,.slice none 0 0] 36) none
      have lohGm : w.heap.size ≤ uw13.heap.size:=hG.size
      have lohXm : w9.heap.size ≤ uw13.heap.size:=hX.size
      have ltdm : aw1 < uw13.heap.size:=g_ Bd
      have ltkm : pk < uw13.heap.size:=g_ Bk
      have Bm_:=f_ uw13 (.cells #[.int .i64 0,.slice none 0 0] 36) uw13.heap.size rfl
      replace Bd:=a_ gA Bd
      replace Bk:=a_ gA Bk
      replace rd:=rd.kept gA
      replace k1:=k1.kept gA
      replace ri:=ri.kept gA
      replace rj:=rj.kept gA
      replace hG:=d_ hG gA
      replace hX:=d_ hX gA
      clear gA
      go_simp
      generalize (uw13.alloc (.cells #[.int .i64 0,.slice none 0 0] 36)) = uw14 at *
      generalize uw13.heap.size = pm at *
      have Bm:=Bm_
      clear Bm_
      refine hKQ.out _ _ (by exact ⟨(c_ Bd).1,(c_ Bd).2.1⟩) (fun hHeld=>?_)
      clear hKQ KQ
      try simp only [ly_]
     rotate_left 1
     focus
      have gA:=wg_ uw12 (.cells #[.int .i64 0,.slice none 0 0] 36) none
      have lohGm : w.heap.size ≤ uw12.heap.size:=hG.size
      have lohXm : w9.heap.size ≤ uw12.heap.size:=hX.size
      have ltdm : aw1 < uw12.heap.size:=g_ Bd
      have ltkm : pk < uw12.heap.size:=g_ Bk
      have Bm_:=f_ uw12 (.cells #[.int .i64 0,.slice none 0 0] 36) uw12.heap.size rfl
      replace Bd:=a_ gA Bd
      replace Bk:=a_ gA Bk
      replace rd:=rd.kept gA
      replace k1:=k1.kept gA
      replace hG:=d_ hG gA
      replace hX:=d_ hX gA
      clear gA
      go_simp
      generalize (uw12.alloc (.cells #[.int .i64 0,.slice none 0 0] 36)) = uw13 at *
      generalize uw12.heap.size = pm at *
      have Bm:=Bm_
      clear Bm_
      refine hKQ.out _ _ (by exact ⟨(c_ Bd).1,(c_ Bd).2.1⟩) (fun hHeld=>?_)
      clear hKQ KQ
      try simp only [ly_]
      refine o1_ 2 rfl (fun KQ hKQ=>?_)
      go_simp
      go_at_call 84
      refine (U_ uw13 _ _ q9 2 rd k1 (by decide) HB.out.1 HB.out.2.2.2.1).mono ?_
      rintro e uw14 ⟨_,_,rfl,⟨gi,si,li,ci,rfl,hi,mi⟩,⟨gj,sj,lj,cj,rfl,hj,mj⟩,guw14⟩
      have ri : RIntV uw14 (.agg #[.int .i64 gi,.slice si li ci]) (q9 / 2):=⟨gi,si,li,ci,rfl,hi,mi⟩
      have rj : RIntV uw14 (.agg #[.int .i64 gj,.slice sj lj cj]) (q9 % 2):=⟨gj,sj,lj,cj,rfl,hj,mj⟩
      replace Bd:=a_ guw14 Bd
      replace Bk:=a_ guw14 Bk
      replace Bm:=a_ guw14 Bm
      replace rd:=rd.kept guw14
      replace k1:=k1.kept guw14
      replace hG:=d_ hG guw14
      replace hX:=d_ hX guw14
      clear guw14
      clear mi
      clear mj
      (try go_wp2_with fail)
      refine hKQ.out _ _ (by exact ⟨(c_ Bd).1,(c_ Bd).2.1⟩) (fun hHeld=>?_)
      clear hKQ KQ
      try simp only [ly_]
      refine tk_ 3 ?_ rfl ?_ ?_
      rotate_left
      · (intro w hSw; (try dsimp only at hSw); go_simp; (try with_reducible rfl))
      try simp only [ly_]
      refine tk_ 4 ?_ rfl ?_ ?_
      rotate_left
      · (intro w hSw; (try dsimp only at hSw); go_simp; (try with_reducible rfl))
      try simp only [ly_]
      refine tk_ 5 ?_ rfl ?_ ?_
      rotate_left
      · (intro w hSw; (try dsimp only at hSw); go_simp; (try with_reducible rfl))
      try simp only [ly_]
     rotate_left 1
    rotate_left 2
    focus
     have gA:=wg_ uw11 (.cells #[.int .i64 0,.slice none 0 0] 36) none
     have lohGm : w.heap.size ≤ uw11.heap.size:=hG.size
     have lohXm : w9.heap.size ≤ uw11.heap.size:=hX.size
     have ltdm : aw1 < uw11.heap.size:=g_ Bd
     have Bm_:=f_ uw11 (.cells #[.int .i64 0,.slice none 0 0] 36) uw11.heap.size rfl
     replace Bd:=a_ gA Bd
     replace rd:=rd.kept gA
     replace k1:=k1.kept gA
     replace hG:=d_ hG gA
     replace hX:=d_ hX gA
     clear gA
     go_simp
     generalize (uw11.alloc (.cells #[.int .i64 0,.slice none 0 0] 36)) = uw12 at *
     generalize uw11.heap.size = pm at *
     have Bm:=Bm_
     clear Bm_
     refine hKQ.out _ _ (by exact ⟨(c_ Bd).1,(c_ Bd).2.1⟩) (fun hHeld=>?_)
     clear hKQ KQ
     try simp only [ly_]
     refine wpAnyH_ready (rs:=[2,6]) (by kernel_rfl) (by simp) ?_
     refine AllReadyH.cons rfl (fun KQ hKQ=>?_) (AllReadyH.cons rfl (fun KQ hKQ=>?_) AllReadyH.nil)
     focus
      go_simp
      go_at_call 84
      refine (U_ uw12 _ _ q9 2 rd k1 (by decide) HB.out.1 HB.out.2.2.2.1).mono ?_
      rintro e uw13 ⟨_,_,rfl,⟨gi,si,li,ci,rfl,hi,mi⟩,⟨gj,sj,lj,cj,rfl,hj,mj⟩,guw13⟩
      have ri : RIntV uw13 (.agg #[.int .i64 gi,.slice si li ci]) (q9 / 2):=⟨gi,si,li,ci,rfl,hi,mi⟩
      have rj : RIntV uw13 (.agg #[.int .i64 gj,.slice sj lj cj]) (q9 % 2):=⟨gj,sj,lj,cj,rfl,hj,mj⟩
      replace Bd:=a_ guw13 Bd
      replace Bm:=a_ guw13 Bm
      replace rd:=rd.kept guw13
      replace k1:=k1.kept guw13
      replace hG:=d_ hG guw13
      replace hX:=d_ hX guw13
      clear guw13
      clear mi
      clear mj
      (try go_wp2_with fail)
      refine hKQ.out _ _ (by exact ⟨(c_ Bd).1,(c_ Bd).2.1⟩) (fun hHeld=>?_)
      clear hKQ KQ
      try simp only [ly_]
      refine tk_ 3 ?_ rfl ?_ ?_
      rotate_left
      · (intro w hSw; (try dsimp only at hSw); go_simp; (try with_reducible rfl))
      try simp only [ly_]
      refine tk_ 4 ?_ rfl ?_ ?_
      rotate_left
      · (intro w hSw; (try dsimp only at hSw); go_simp; (try with_reducible rfl))
      try simp only [ly_]
      refine tk_ 5 ?_ rfl ?_ ?_
      rotate_left
      · (intro w hSw; (try dsimp only at hSw); go_simp; (try with_reducible rfl))
      try simp only [ly_]
      refine o1_ 6 rfl (fun KQ hKQ=>?_)
      have gA:=wg_ uw13 (.cells #[.int .i64 0,.slice none 0 0] 36) none
      have lohGk : w.heap.size ≤ uw13.heap.size:=hG.size
      have lohXk : w9.heap.size ≤ uw13.heap.size:=hX.size
      have ltdk : aw1 < uw13.heap.size:=g_ Bd
      have ltmk : pm < uw13.heap.size:=g_ Bm
      have Bk_:=f_ uw13 (.cells #[.int .i64 0,.slice none 0 0] 36) uw13.heap.size rfl
      replace Bd:=a_ gA Bd
      replace Bm:=a_ gA Bm
      replace rd:=rd.kept gA
      replace k1:=k1.kept gA
      replace ri:=ri.kept gA
      replace rj:=rj.kept gA
      replace hG:=d_ hG gA
      replace hX:=d_ hX gA
      clear gA
      go_simp
      generalize (uw13.alloc (.cells #[.int .i64 0,.slice none 0 0] 36)) = uw14 at *
      generalize uw13.heap.size = pk at *
      have Bk:=Bk_
      clear Bk_
      refine hKQ.out _ _ (by exact ⟨(c_ Bd).1,(c_ Bd).2.1⟩) (fun hHeld=>?_)
      clear hKQ KQ
      try simp only [ly_]
     rotate_left 1
     focus
      have gA:=wg_ uw12 (.cells #[.int .i64 0,.slice none 0 0] 36) none
      have lohGk : w.heap.size ≤ uw12.heap.size:=hG.size
      have lohXk : w9.heap.size ≤ uw12.heap.size:=hX.size
      have ltdk : aw1 < uw12.heap.size:=g_ Bd
      have ltmk : pm < uw12.heap.size:=g_ Bm
      have Bk_:=f_ uw12 (.cells #[.int .i64 0,.slice none 0 0] 36) uw12.heap.size rfl
      replace Bd:=a_ gA Bd
      replace Bm:=a_ gA Bm
      replace rd:=rd.kept gA
      replace k1:=k1.kept gA
      replace hG:=d_ hG gA
      replace hX:=d_ hX gA
      clear gA
      go_simp
      generalize (uw12.alloc (.cells #[.int .i64 0,.slice none 0 0] 36)) = uw13 at *
      generalize uw12.heap.size = pk at *
      have Bk:=Bk_
      clear Bk_
      refine hKQ.out _ _ (by exact ⟨(c_ Bd).1,(c_ Bd).2.1⟩) (fun hHeld=>?_)
      clear hKQ KQ
      try simp only [ly_]
      refine o1_ 2 rfl (fun KQ hKQ=>?_)
      go_simp
      go_at_call 84
      refine (U_ uw13 _ _ q9 2 rd k1 (by decide) HB.out.1 HB.out.2.2.2.1).mono ?_
      rintro e uw14 ⟨_,_,rfl,⟨gi,si,li,ci,rfl,hi,mi⟩,⟨gj,sj,lj,cj,rfl,hj,mj⟩,guw14⟩
      have ri : RIntV uw14 (.agg #[.int .i64 gi,.slice si li ci]) (q9 / 2):=⟨gi,si,li,ci,rfl,hi,mi⟩
      have rj : RIntV uw14 (.agg #[.int .i64 gj,.slice sj lj cj]) (q9 % 2):=⟨gj,sj,lj,cj,rfl,hj,mj⟩
      replace Bd:=a_ guw14 Bd
      replace Bm:=a_ guw14 Bm
      replace Bk:=a_ guw14 Bk
      replace rd:=rd.kept guw14
      replace k1:=k1.kept guw14
      replace hG:=d_ hG guw14
      replace hX:=d_ hX guw14
      clear guw14
      clear mi
      clear mj
      (try go_wp2_with fail)
      refine hKQ.out _ _ (by exact ⟨(c_ Bd).1,(c_ Bd).2.1⟩) (fun hHeld=>?_)
      clear hKQ KQ
      try simp only [ly_]
      refine tk_ 3 ?_ rfl ?_ ?_
      rotate_left
      · (intro w hSw; (try dsimp only at hSw); go_simp; (try with_reducible rfl))
      try simp only [ly_]
      refine tk_ 4 ?_ rfl ?_ ?_
      rotate_left
      · (intro w hSw; (try dsimp only at hSw); go_simp; (try with_reducible rfl))
      try simp only [ly_]
      refine tk_ 5 ?_ rfl ?_ ?_
      rotate_left
      · (intro w hSw; (try dsimp only at hSw); go_simp; (try with_reducible rfl))
      try simp only [ly_]
     rotate_left 1
    rotate_left 2
   rotate_left 6
   focus
    have gA:=wg_ uw10 (.cells #[.int .i64 0,.slice none 0 0] 36) none
    have lohGk : w.heap.size ≤ uw10.heap.size:=hG.size
    have lohXk : w9.heap.size ≤ uw10.heap.size:=hX.size
    have ltdk : aw1 < uw10.heap.size:=g_ Bd
    have Bk_:=f_ uw10 (.cells #[.int .i64 0,.slice none 0 0] 36) uw10.heap.size rfl
    replace Bd:=a_ gA Bd
    replace rd:=rd.kept gA
    replace hG:=d_ hG gA
    replace hX:=d_ hX gA
    clear gA
    go_simp
    generalize (uw10.alloc (.cells #[.int .i64 0,.slice none 0 0] 36)) = uw11 at *
    generalize uw10.heap.size = pk at *
    have Bk:=Bk_
    clear Bk_
    refine hKQ.out _ _ (by exact ⟨(c_ Bd).1,(c_ Bd).2.1⟩) (fun hHeld=>?_)
    clear hKQ KQ
    try simp only [ly_]
    refine wpAnyH_ready (rs:=[1,7]) (by kernel_rfl) (by simp) ?_
    refine AllReadyH.cons rfl (fun KQ hKQ=>?_) (AllReadyH.cons rfl (fun KQ hKQ=>?_) AllReadyH.nil)
    focus
     go_simp
     go_at_call 27
     refine (aq_ uw11 2 (by omega) (by omega)).mono ?_
     rintro e uw12 ⟨v1,rfl,k1,guw12⟩
     replace Bd:=a_ guw12 Bd
     replace Bk:=a_ guw12 Bk
     replace rd:=rd.kept guw12
     replace hG:=d_ hG guw12
     replace hX:=d_ hX guw12
     clear guw12
     (try go_wp2_with fail)
     refine hKQ.out _ _ (by exact ⟨(c_ Bd).1,(c_ Bd).2.1⟩) (fun hHeld=>?_)
     clear hKQ KQ
     try simp only [ly_]
     refine wpAnyH_ready (rs:=[2,7]) (by kernel_rfl) (by simp) ?_
     refine AllReadyH.cons rfl (fun KQ hKQ=>?_) (AllReadyH.cons rfl (fun KQ hKQ=>?_) AllReadyH.nil)
     focus
      go_simp
      go_at_call 84
      refine (U_ uw12 _ _ q9 2 rd k1 (by decide) HB.out.1 HB.out.2.2.2.1).mono ?_
      rintro e uw13 ⟨_,_,rfl,⟨gi,si,li,ci,rfl,hi,mi⟩,⟨gj,sj,lj,cj,rfl,hj,mj⟩,guw13⟩
      have ri : RIntV uw13 (.agg #[.int .i64 gi,.slice si li ci]) (q9 / 2):=⟨gi,si,li,ci,rfl,hi,mi⟩
      have rj : RIntV uw13 (.agg #[.int .i64 gj,.slice sj lj cj]) (q9 % 2):=⟨gj,sj,lj,cj,rfl,hj,mj⟩
      replace Bd:=a_ guw13 Bd
      replace Bk:=a_ guw13 Bk
      replace rd:=rd.kept guw13
      replace k1:=k1.kept guw13
      replace hG:=d_ hG guw13
      replace hX:=d_ hX guw13
      clear guw13
      clear mi
      clear mj
      (try go_wp2_with fail)
      refine hKQ.out _ _ (by exact ⟨(c_ Bd).1,(c_ Bd).2.1⟩) (fun hHeld=>?_)
      clear hKQ KQ
      try simp only [ly_]
      refine tk_ 3 ?_ rfl ?_ ?_
      rotate_left
      · (intro w hSw; (try dsimp only at hSw); go_simp; (try with_reducible rfl))
      try simp only [ly_]
      refine tk_ 4 ?_ rfl ?_ ?_
      rotate_left
      · (intro w hSw; (try dsimp only at hSw); go_simp; (try with_reducible rfl))
      try simp only [ly_]
      refine tk_ 5 ?_ rfl ?_ ?_
      rotate_left
      · (intro w hSw; (try dsimp only at hSw); go_simp; (try with_reducible rfl))
      try simp only [ly_]
      refine o1_ 7 rfl (fun KQ hKQ=>?_)
      have gA:=wg_ uw13 (.cells #[.int .i64 0,.slice none 0 0] 36) none
      have lohGm : w.heap.size ≤ uw13.heap.size:=hG.size
      have lohXm : w9.heap.size ≤ uw13.heap.size:=hX.size
      have ltdm : aw1 < uw13.heap.size:=g_ Bd
      have ltkm : pk < uw13.heap.size:=g_ Bk
      have Bm_:=f_ uw13 (.cells #[.int .i64 0,.slice none 0 0] 36) uw13.heap.size rfl
      replace Bd:=a_ gA Bd
      replace Bk:=a_ gA Bk
      replace rd:=rd.kept gA
      replace k1:=k1.kept gA
      replace ri:=ri.kept gA
      replace rj:=rj.kept gA
      replace hG:=d_ hG gA
      replace hX:=d_ hX gA
      clear gA
      go_simp
      generalize (uw13.alloc (.cells #[.int .i64 0,.slice none 0 0] 36)) = uw14 at *
      generalize uw13.heap.size = pm at *
      have Bm:=Bm_
      clear Bm_
      refine hKQ.out _ _ (by exact ⟨(c_ Bd).1,(c_ Bd).2.1⟩) (fun hHeld=>?_)
      clear hKQ KQ
      try simp only [ly_]
     rotate_left 1
     focus
      have gA:=wg_ uw12 (.cells #[.int .i64 0,.slice none 0 0] 36) none
      have lohGm : w.heap.size ≤ uw12.heap.size:=hG.size
      have lohXm : w9.heap.size ≤ uw12.heap.size:=hX.size
      have ltdm : aw1 < uw12.heap.size:=g_ Bd
      have ltkm : pk < uw12.heap.size:=g_ Bk
      have Bm_:=f_ uw12 (.cells #[.int .i64 0,.slice none 0 0] 36) uw12.heap.size rfl
      replace Bd:=a_ gA Bd
      replace Bk:=a_ gA Bk
      replace rd:=rd.kept gA
      replace k1:=k1.kept gA
      replace hG:=d_ hG gA
      replace hX:=d_ hX gA
      clear gA
      go_simp
      generalize (uw12.alloc (.cells #[.int .i64 0,.slice none 0 0] 36)) = uw13 at *
      generalize uw12.heap.size = pm at *
      have Bm:=Bm_
      clear Bm_
      refine hKQ.out _ _ (by exact ⟨(c_ Bd).1,(c_ Bd).2.1⟩) (fun hHeld=>?_)
      clear hKQ KQ
      try simp only [ly_]
      refine o1_ 2 rfl (fun KQ hKQ=>?_)
      go_simp
      go_at_call 84
      refine (U_ uw13 _ _ q9 2 rd k1 (by decide) HB.out.1 HB.out.2.2.2.1).mono ?_
      rintro e uw14 ⟨_,_,rfl,⟨gi,si,li,ci,rfl,hi,mi⟩,⟨gj,sj,lj,cj,rfl,hj,mj⟩,guw14⟩
      have ri : RIntV uw14 (.agg #[.int .i64 gi,.slice si li ci]) (q9 / 2):=⟨gi,si,li,ci,rfl,hi,mi⟩
      have rj : RIntV uw14 (.agg #[.int .i64 gj,.slice sj lj cj]) (q9 % 2):=⟨gj,sj,lj,cj,rfl,hj,mj⟩
      replace Bd:=a_ guw14 Bd
      replace Bk:=a_ guw14 Bk
      replace Bm:=a_ guw14 Bm
      replace rd:=rd.kept guw14
      replace k1:=k1.kept guw14
      replace hG:=d_ hG guw14
      replace hX:=d_ hX guw14
      clear guw14
      clear mi
      clear mj
      (try go_wp2_with fail)
      refine hKQ.out _ _ (by exact ⟨(c_ Bd).1,(c_ Bd).2.1⟩) (fun hHeld=>?_)
      clear hKQ KQ
      try simp only [ly_]
      refine tk_ 3 ?_ rfl ?_ ?_
      rotate_left
      · (intro w hSw; (try dsimp only at hSw); go_simp; (try with_reducible rfl))
      try simp only [ly_]
      refine tk_ 4 ?_ rfl ?_ ?_
      rotate_left
      · (intro w hSw; (try dsimp only at hSw); go_simp; (try with_reducible rfl))
      try simp only [ly_]
      refine tk_ 5 ?_ rfl ?_ ?_
      rotate_left
      · (intro w hSw; (try dsimp only at hSw); go_simp; (try with_reducible rfl))
      try simp only [ly_]
     rotate_left 1
    rotate_left 2
    focus
     have gA:=wg_ uw11 (.cells #[.int .i64 0,.slice none 0 0] 36) none
     have lohGm : w.heap.size ≤ uw11.heap.size:=hG.size
     have lohXm : w9.heap.size ≤ uw11.heap.size:=hX.size
     have ltdm : aw1 < uw11.heap.size:=g_ Bd
     have ltkm : pk < uw11.heap.size:=g_ Bk
     have Bm_:=f_ uw11 (.cells #[.int .i64 0,.slice none 0 0] 36) uw11.heap.size rfl
     replace Bd:=a_ gA Bd
     replace Bk:=a_ gA Bk
     replace rd:=rd.kept gA
     replace hG:=d_ hG gA
     replace hX:=d_ hX gA
     clear gA
     go_simp
     generalize (uw11.alloc (.cells #[.int .i64 0,.slice none 0 0] 36)) = uw12 at *
     generalize uw11.heap.size = pm at *
     have Bm:=Bm_
     clear Bm_
     refine hKQ.out _ _ (by exact ⟨(c_ Bd).1,(c_ Bd).2.1⟩) (fun hHeld=>?_)
     clear hKQ KQ
     try simp only [ly_]
     refine o1_ 1 rfl (fun KQ hKQ=>?_)
     go_simp
     go_at_call 27
     refine (aq_ uw12 2 (by omega) (by omega)).mono ?_
     rintro e uw13 ⟨v1,rfl,k1,guw13⟩
     replace Bd:=a_ guw13 Bd
     replace Bk:=a_ guw13 Bk
     replace Bm:=a_ guw13 Bm
     replace rd:=rd.kept guw13
     replace hG:=d_ hG guw13
     replace hX:=d_ hX guw13
     clear guw13
     (try go_wp2_with fail)
     refine hKQ.out _ _ (by exact ⟨(c_ Bd).1,(c_ Bd).2.1⟩) (fun hHeld=>?_)
     clear hKQ KQ
     try simp only [ly_]
     refine o1_ 2 rfl (fun KQ hKQ=>?_)
     go_simp
     go_at_call 84
     refine (U_ uw13 _ _ q9 2 rd k1 (by decide) HB.out.1 HB.out.2.2.2.1).mono ?_
     rintro e uw14 ⟨_,_,rfl,⟨gi,si,li,ci,rfl,hi,mi⟩,⟨gj,sj,lj,cj,rfl,hj,mj⟩,guw14⟩
     have ri : RIntV uw14 (.agg #[.int .i64 gi,.slice si li ci]) (q9 / 2):=⟨gi,si,li,ci,rfl,hi,mi⟩
     have rj : RIntV uw14 (.agg #[.int .i64 gj,.slice sj lj cj]) (q9 % 2):=⟨gj,sj,lj,cj,rfl,hj,mj⟩
     replace Bd:=a_ guw14 Bd
     replace Bk:=a_ guw14 Bk
     replace Bm:=a_ guw14 Bm
     replace rd:=rd.kept guw14
     replace k1:=k1.kept guw14
     replace hG:=d_ hG guw14
     replace hX:=d_ hX guw14
     clear guw14
     clear mi
     clear mj
     (try go_wp2_with fail)
     refine hKQ.out _ _ (by exact ⟨(c_ Bd).1,(c_ Bd).2.1⟩) (fun hHeld=>?_)
     clear hKQ KQ
     try simp only [ly_]
     refine tk_ 3 ?_ rfl ?_ ?_
     rotate_left
     · (intro w hSw; (try dsimp only at hSw); go_simp; (try with_reducible rfl))
     try simp only [ly_]
     refine tk_ 4 ?_ rfl ?_ ?_
     rotate_left
     · (intro w hSw; (try dsimp only at hSw); go_simp; (try with_reducible rfl))
     try simp only [ly_]
     refine tk_ 5 ?_ rfl ?_ ?_
     rotate_left
     · (intro w hSw; (try dsimp only at hSw); go_simp; (try with_reducible rfl))
     try simp only [ly_]
    rotate_left 1
   rotate_left 3
   focus
    have gA:=wg_ uw10 (.cells #[.int .i64 0,.slice none 0 0] 36) none
    have lohGm : w.heap.size ≤ uw10.heap.size:=hG.size
    have lohXm : w9.heap.size ≤ uw10.heap.size:=hX.size
    have ltdm : aw1 < uw10.heap.size:=g_ Bd
    have Bm_:=f_ uw10 (.cells #[.int .i64 0,.slice none 0 0] 36) uw10.heap.size rfl
    replace Bd:=a_ gA Bd
    replace rd:=rd.kept gA
    replace hG:=d_ hG gA
    replace hX:=d_ hX gA
    clear gA
    go_simp
    generalize (uw10.alloc (.cells #[.int .i64 0,.slice none 0 0] 36)) = uw11 at *
    generalize uw10.heap.size = pm at *
    have Bm:=Bm_
    clear Bm_
    refine hKQ.out _ _ (by exact ⟨(c_ Bd).1,(c_ Bd).2.1⟩) (fun hHeld=>?_)
    clear hKQ KQ
    try simp only [ly_]
    refine wpAnyH_ready (rs:=[1,6]) (by kernel_rfl) (by simp) ?_
    refine AllReadyH.cons rfl (fun KQ hKQ=>?_) (AllReadyH.cons rfl (fun KQ hKQ=>?_) AllReadyH.nil)
    focus
     go_simp
     go_at_call 27
     refine (aq_ uw11 2 (by omega) (by omega)).mono ?_
     rintro e uw12 ⟨v1,rfl,k1,guw12⟩
     replace Bd:=a_ guw12 Bd
     replace Bm:=a_ guw12 Bm
     replace rd:=rd.kept guw12
     replace hG:=d_ hG guw12
     replace hX:=d_ hX guw12
     clear guw12
     (try go_wp2_with fail)
     refine hKQ.out _ _ (by exact ⟨(c_ Bd).1,(c_ Bd).2.1⟩) (fun hHeld=>?_)
     clear hKQ KQ
     try simp only [ly_]
     refine wpAnyH_ready (rs:=[2,6]) (by kernel_rfl) (by simp) ?_
     refine AllReadyH.cons rfl (fun KQ hKQ=>?_) (AllReadyH.cons rfl (fun KQ hKQ=>?_) AllReadyH.nil)
     focus
      go_simp
      go_at_call 84
      refine (U_ uw12 _ _ q9 2 rd k1 (by decide) HB.out.1 HB.out.2.2.2.1).mono ?_
      rintro e uw13 ⟨_,_,rfl,⟨gi,si,li,ci,rfl,hi,mi⟩,⟨gj,sj,lj,cj,rfl,hj,mj⟩,guw13⟩
      have ri : RIntV uw13 (.agg #[.int .i64 gi,.slice si li ci]) (q9 / 2):=⟨gi,si,li,ci,rfl,hi,mi⟩
      have rj : RIntV uw13 (.agg #[.int .i64 gj,.slice sj lj cj]) (q9 % 2):=⟨gj,sj,lj,cj,rfl,hj,mj⟩
      replace Bd:=a_ guw13 Bd
      replace Bm:=a_ guw13 Bm
      replace rd:=rd.kept guw13
      replace k1:=k1.kept guw13
      replace hG:=d_ hG guw13
      replace hX:=d_ hX guw13
      clear guw13
      clear mi
      clear mj
      (try go_wp2_with fail)
      refine hKQ.out _ _ (by exact ⟨(c_ Bd).1,(c_ Bd).2.1⟩) (fun hHeld=>?_)
      clear hKQ KQ
      try simp only [ly_]
      refine tk_ 3 ?_ rfl ?_ ?_
      rotate_left
      · (intro w hSw; (try dsimp only at hSw); go_simp; (try with_reducible rfl))
      try simp only [ly_]
      refine tk_ 4 ?_ rfl ?_ ?_
      rotate_left
      · (intro w hSw; (try dsimp only at hSw); go_simp; (try with_reducible rfl))
      try simp only [ly_]
      refine tk_ 5 ?_ rfl ?_ ?_
      rotate_left
      · (intro w hSw; (try dsimp only at hSw); go_simp; (try with_reducible rfl))
      try simp only [ly_]
      refine o1_ 6 rfl (fun KQ hKQ=>?_)
      have gA:=wg_ uw13 (.cells #[.int .i64 0,.slice none 0 0] 36) none
      have lohGk : w.heap.size ≤ uw13.heap.size:=hG.size
      have lohXk : w9.heap.size ≤ uw13.heap.size:=hX.size
      have ltdk : aw1 < uw13.heap.size:=g_ Bd
      have ltmk : pm < uw13.heap.size:=g_ Bm
      have Bk_:=f_ uw13 (.cells #[.int .i64 0,.slice none 0 0] 36) uw13.heap.size rfl
      replace Bd:=a_ gA Bd
      replace Bm:=a_ gA Bm
      replace rd:=rd.kept gA
      replace k1:=k1.kept gA
      replace ri:=ri.kept gA
      replace rj:=rj.kept gA
      replace hG:=d_ hG gA
      replace hX:=d_ hX gA
      clear gA
      go_simp
      generalize (uw13.alloc (.cells #[.int .i64 0,.slice none 0 0] 36)) = uw14 at *
      generalize uw13.heap.size = pk at *
      have Bk:=Bk_
      clear Bk_
      refine hKQ.out _ _ (by exact ⟨(c_ Bd).1,(c_ Bd).2.1⟩) (fun hHeld=>?_)
      clear hKQ KQ
      try simp only [ly_]
     rotate_left 1
     focus
      have gA:=wg_ uw12 (.cells #[.int .i64 0,.slice none 0 0] 36) none
      have lohGk : w.heap.size ≤ uw12.heap.size:=hG.size
      have lohXk : w9.heap.size ≤ uw12.heap.size:=hX.size
      have ltdk : aw1 < uw12.heap.size:=g_ Bd
      have ltmk : pm < uw12.heap.size:=g_ Bm
      have Bk_:=f_ uw12 (.cells #[.int .i64 0,.slice none 0 0] 36) uw12.heap.size rfl
      replace Bd:=a_ gA Bd
      replace Bm:=a_ gA Bm
      replace rd:=rd.kept gA
      replace k1:=k1.kept gA
      replace hG:=d_ hG gA
      replace hX:=d_ hX gA
      clear gA
      go_simp
      generalize (uw12.alloc (.cells #[.int .i64 0,.slice none 0 0] 36)) = uw13 at *
      generalize uw12.heap.size = pk at *
      have Bk:=Bk_
      clear Bk_
      refine hKQ.out _ _ (by exact ⟨(c_ Bd).1,(c_ Bd).2.1⟩) (fun hHeld=>?_)
      clear hKQ KQ
      try simp only [ly_]
      refine o1_ 2 rfl (fun KQ hKQ=>?_)
      go_simp
      go_at_call 84
      refine (U_ uw13 _ _ q9 2 rd k1 (by decide) HB.out.1 HB.out.2.2.2.1).mono ?_
      rintro e uw14 ⟨_,_,rfl,⟨gi,si,li,ci,rfl,hi,mi⟩,⟨gj,sj,lj,cj,rfl,hj,mj⟩,guw14⟩
      have ri : RIntV uw14 (.agg #[.int .i64 gi,.slice si li ci]) (q9 / 2):=⟨gi,si,li,ci,rfl,hi,mi⟩
      have rj : RIntV uw14 (.agg #[.int .i64 gj,.slice sj lj cj]) (q9 % 2):=⟨gj,sj,lj,cj,rfl,hj,mj⟩
      replace Bd:=a_ guw14 Bd
      replace Bm:=a_ guw14 Bm
      replace Bk:=a_ guw14 Bk
      replace rd:=rd.kept guw14
      replace k1:=k1.kept guw14
      replace hG:=d_ hG guw14
      replace hX:=d_ hX guw14
      clear guw14
      clear mi
      clear mj
      (try go_wp2_with fail)
      refine hKQ.out _ _ (by exact ⟨(c_ Bd).1,(c_ Bd).2.1⟩) (fun hHeld=>?_)
      clear hKQ KQ
      try simp only [ly_]
      refine tk_ 3 ?_ rfl ?_ ?_
      rotate_left
      · (intro w hSw; (try dsimp only at hSw); go_simp; (try with_reducible rfl))
      try simp only [ly_]
      refine tk_ 4 ?_ rfl ?_ ?_
      rotate_left
      · (intro w hSw; (try dsimp only at hSw); go_simp; (try with_reducible rfl))
      try simp only [ly_]
      refine tk_ 5 ?_ rfl ?_ ?_
      rotate_left
      · (intro w hSw; (try dsimp only at hSw); go_simp; (try with_reducible rfl))
      try simp only [ly_]
     rotate_left 1
    rotate_left 2
    focus
     have gA:=wg_ uw11 (.cells #[.int .i64 0,.slice none 0 0] 36) none
     have lohGk : w.heap.size ≤ uw11.heap.size:=hG.size
     have lohXk : w9.heap.size ≤ uw11.heap.size:=hX.size
     have ltdk : aw1 < uw11.heap.size:=g_ Bd
     have ltmk : pm < uw11.heap.size:=g_ Bm
     have Bk_:=f_ uw11 (.cells #[.int .i64 0,.slice none 0 0] 36) uw11.heap.size rfl
     replace Bd:=a_ gA Bd
     replace Bm:=a_ gA Bm
     replace rd:=rd.kept gA
     replace hG:=d_ hG gA
     replace hX:=d_ hX gA
     clear gA
     go_simp
     generalize (uw11.alloc (.cells #[.int .i64 0,.slice none 0 0] 36)) = uw12 at *
     generalize uw11.heap.size = pk at *
     have Bk:=Bk_
     clear Bk_
     refine hKQ.out _ _ (by exact ⟨(c_ Bd).1,(c_ Bd).2.1⟩) (fun hHeld=>?_)
     clear hKQ KQ
     try simp only [ly_]
     refine o1_ 1 rfl (fun KQ hKQ=>?_)
     go_simp
     go_at_call 27
     refine (aq_ uw12 2 (by omega) (by omega)).mono ?_
     rintro e uw13 ⟨v1,rfl,k1,guw13⟩
     replace Bd:=a_ guw13 Bd
     replace Bm:=a_ guw13 Bm
     replace Bk:=a_ guw13 Bk
     replace rd:=rd.kept guw13
     replace hG:=d_ hG guw13
     replace hX:=d_ hX guw13
     clear guw13
     (try go_wp2_with fail)
     refine hKQ.out _ _ (by exact ⟨(c_ Bd).1,(c_ Bd).2.1⟩) (fun hHeld=>?_)
     clear hKQ KQ
     try simp only [ly_]
     refine o1_ 2 rfl (fun KQ hKQ=>?_)
     go_simp
     go_at_call 84
     refine (U_ uw13 _ _ q9 2 rd k1 (by decide) HB.out.1 HB.out.2.2.2.1).mono ?_
     rintro e uw14 ⟨_,_,rfl,⟨gi,si,li,ci,rfl,hi,mi⟩,⟨gj,sj,lj,cj,rfl,hj,mj⟩,guw14⟩
     have ri : RIntV uw14 (.agg #[.int .i64 gi,.slice si li ci]) (q9 / 2):=⟨gi,si,li,ci,rfl,hi,mi⟩
     have rj : RIntV uw14 (.agg #[.int .i64 gj,.slice sj lj cj]) (q9 % 2):=⟨gj,sj,lj,cj,rfl,hj,mj⟩
     replace Bd:=a_ guw14 Bd
     replace Bm:=a_ guw14 Bm
     replace Bk:=a_ guw14 Bk
     replace rd:=rd.kept guw14
     replace k1:=k1.kept guw14
     replace hG:=d_ hG guw14
     replace hX:=d_ hX guw14
     clear guw14
     clear mi
     clear mj
     (try go_wp2_with fail)
     refine hKQ.out _ _ (by exact ⟨(c_ Bd).1,(c_ Bd).2.1⟩) (fun hHeld=>?_)
     clear hKQ KQ
     try simp only [ly_]
     refine tk_ 3 ?_ rfl ?_ ?_
     rotate_left
     · (intro w hSw; (try dsimp only at hSw); go_simp; (try with_reducible rfl))
     try simp only [ly_]
     refine tk_ 4 ?_ rfl ?_ ?_
     rotate_left
     · (intro w hSw; (try dsimp only at hSw); go_simp; (try with_reducible rfl))
     try simp only [ly_]
     refine tk_ 5 ?_ rfl ?_ ?_
     rotate_left
     · (intro w hSw; (try dsimp only at hSw); go_simp; (try with_reducible rfl))
     try simp only [ly_]
    rotate_left 1
   rotate_left 3
   all_goals (
    refine o1_ 8 rfl (fun KQ hKQ=>?_)
    obtain ⟨c0',c1',c2',c3'⟩:=c_ Bk
    go_simp
    clear c0' c1' c2' c3'
    replace rd:=rd.set2 Bk (.int .i64 gi) (.slice si li ci)
    replace k1:=k1.set2 Bk (.int .i64 gi) (.slice si li ci)
    replace ri:=ri.set2 Bk (.int .i64 gi) (.slice si li ci)
    replace rj:=rj.set2 Bk (.int .i64 gi) (.slice si li ci)
    replace hG:=t_ (g:=pk) hG (by omega) (.int .i64 gi) (.slice si li ci)
    replace hX:=t_ (g:=pk) hX (by omega) (.int .i64 gi) (.slice si li ci)
    replace Bd:=e_ Bd (show aw1 ≠ pk by omega) (.int .i64 gi) (.slice si li ci)
    replace Bm:=e_ Bm (show pm ≠ pk by omega) (.int .i64 gi) (.slice si li ci)
    replace Bk:=m_ Bk (.int .i64 gi) (.slice si li ci)
    generalize ((uw14.setCell ⟨pk,0,none⟩ (.int .i64 gi)).setCell ⟨pk,1,none⟩ (.slice si li ci)) = uw15 at *
    refine hKQ.out _ _ (by exact ⟨(c_ Bd).1,(c_ Bd).2.1⟩) (fun hHeld=>?_)
    clear hKQ KQ
    try simp only [ly_]
    refine o1_ 9 rfl (fun KQ hKQ=>?_)
    obtain ⟨c0',c1',c2',c3'⟩:=c_ Bm
    go_simp
    clear c0' c1' c2' c3'
    replace rd:=rd.set2 Bm (.int .i64 gj) (.slice sj lj cj)
    replace k1:=k1.set2 Bm (.int .i64 gj) (.slice sj lj cj)
    replace ri:=ri.set2 Bm (.int .i64 gj) (.slice sj lj cj)
    replace rj:=rj.set2 Bm (.int .i64 gj) (.slice sj lj cj)
    replace hG:=t_ (g:=pm) hG (by omega) (.int .i64 gj) (.slice sj lj cj)
    replace hX:=t_ (g:=pm) hX (by omega) (.int .i64 gj) (.slice sj lj cj)
    replace Bd:=e_ Bd (show aw1 ≠ pm by omega) (.int .i64 gj) (.slice sj lj cj)
    replace Bk:=e_ Bk (show pk ≠ pm by omega) (.int .i64 gj) (.slice sj lj cj)
    replace Bm:=m_ Bm (.int .i64 gj) (.slice sj lj cj)
    generalize ((uw15.setCell ⟨pm,0,none⟩ (.int .i64 gj)).setCell ⟨pm,1,none⟩ (.slice sj lj cj)) = uw16 at *
    refine hKQ.out _ _ (by exact ⟨(c_ Bd).1,(c_ Bd).2.1⟩) (fun hHeld=>?_)
    clear hKQ KQ
    try simp only [ly_]
    refine wpAnyH_done (by kernel_rfl) ?_ _
    go_wp2_with fail
    go_meet
    exact ⟨pm,rfl,⟨_,_,_,_,Bm,rj⟩,by omega,hX⟩)
  case rest =>
   clear hG hX hs0 ya rd rh rn yu yv Ba Bq Bd Bh Bn Bu Bv
   obtain ⟨po,rfl,Ko,lo',hX⟩:=hcut
   obtain ⟨go,so,lo,co,Bo,ro⟩:=Ko
   have hG:=d_ HG0.out hX
   have Ba:=a_ hX Ha9.out
   have Bq:=a_ hX Hq9.out
   have Bd:=a_ hX Hd9.out
   have Bh:=a_ hX Hh9.out
   have Bn:=a_ hX Hn9.out
   have Bu:=a_ hX Hu9.out
   have Bv:=a_ hX Hv9.out
   have ya:=Jya9.out.kept hX
   have rd:=Jrd9.out.kept hX
   have rh:=Jrh9.out.kept hX
   have rn:=Jrn9.out.kept hX
   have yu:=Jyu9.out.kept hX
   have yv:=Jyv9.out.kept hX
   clear hX HG0 Ha9 Hq9 Hd9 Hh9 Hn9 Hu9 Hv9 Jya9 Jrd9 Jrh9 Jrn9 Jyu9 Jyv9
   have hgo:=ro.nat.2.out
   rcases KEY.out with ⟨hc,HR⟩ | ⟨hc,HR⟩ | ⟨hc,HSG,HR⟩ | ⟨hc,HSG,HR⟩
   · skip
     subst hc
     clear hgo
     have rN : RIntV wc (.agg #[.int .i64 gd,.slice sd ld cd]) N9:=by rw [HR.out]; exact rd
     obtain ⟨Ca0,Ca1,Ca2,Ca3,Fa0,Fa1,Fa2,Fa3⟩:=b_ Ba
     obtain ⟨Cq0,Cq1,Fq0,Fq1⟩:=c_ Bq
     obtain ⟨Cd0,Cd1,Fd0,Fd1⟩:=c_ Bd
     obtain ⟨Ch0,Ch1,Fh0,Fh1⟩:=c_ Bh
     obtain ⟨Cn0,Cn1,Fn0,Fn1⟩:=c_ Bn
     obtain ⟨Cu0,Cu1,Cu2,Cu3,Fu0,Fu1,Fu2,Fu3⟩:=b_ Bu
     obtain ⟨Cv0,Cv1,Cv2,Cv3,Fv0,Fv1,Fv2,Fv3⟩:=b_ Bv
     obtain ⟨Co0,Co1,Fo0,Fo1⟩:=c_ Bo
     clear Ca0 Fa0 Ca1 Fa1 Ca2 Fa2 Ca3 Fa3 Cq0 Fq0 Cq1 Fq1 Cd0 Fd0 Cd1 Fd1 Ch0 Fh0 Ch1 Fh1 Cn0 Fn0 Cn1 Fn1 Cu0 Fu0 Cu1 Fu1 Cu2 Fu2 Cu3 Fu3 Cv0 Fv0 Cv1 Fv1 Cv2 Fv2 Cv3 Fv3 Co0 Fo0 Co1 Fo1
     obtain ⟨k90,k91,k92,k93⟩:=c_ Bq
     obtain ⟨q90,q91,q92,q93⟩:=c_ (m_ Bq (.int .i64 gd) (.slice sd ld cd))
     have hF : Hid (Z_ w (N9) (.returned (.agg #[.int .i64 gd,.slice sd ld cd])) ((wc.setCell ⟨w.heap.size + 1,0,none⟩ (.int .i64 gd)).setCell ⟨w.heap.size + 1,1,none⟩ (.slice sd ld cd))):=au_ hG Bq (by omega) rN
     clear ya rd rh rn yu yv ro rN
     obtain ⟨Ca0,Ca1,Ca2,Ca3,Fa0,Fa1,Fa2,Fa3⟩:=b_ Ba
     obtain ⟨Cd0,Cd1,Fd0,Fd1⟩:=c_ Bd
     obtain ⟨Ch0,Ch1,Fh0,Fh1⟩:=c_ Bh
     obtain ⟨Cn0,Cn1,Fn0,Fn1⟩:=c_ Bn
     obtain ⟨Cu0,Cu1,Cu2,Cu3,Fu0,Fu1,Fu2,Fu3⟩:=b_ Bu
     obtain ⟨Cv0,Cv1,Cv2,Cv3,Fv0,Fv1,Fv2,Fv3⟩:=b_ Bv
     obtain ⟨Co0,Co1,Fo0,Fo1⟩:=c_ Bo
     go_wp2_with fail
     exact bodyPost_ret (v:=.agg #[.int .i64 gd,.slice sd ld cd]) (by simp [results,Tryz.results45,go_sem,q90,q91]) rfl hF.out
   · skip
     subst hc
     clear hgo
     have rN : RIntV wc (.agg #[.int .i64 gh,.slice sh lh ch]) N9:=by rw [HR.out]; exact rh
     obtain ⟨Ca0,Ca1,Ca2,Ca3,Fa0,Fa1,Fa2,Fa3⟩:=b_ Ba
     obtain ⟨Cq0,Cq1,Fq0,Fq1⟩:=c_ Bq
     obtain ⟨Cd0,Cd1,Fd0,Fd1⟩:=c_ Bd
     obtain ⟨Ch0,Ch1,Fh0,Fh1⟩:=c_ Bh
     obtain ⟨Cn0,Cn1,Fn0,Fn1⟩:=c_ Bn
     obtain ⟨Cu0,Cu1,Cu2,Cu3,Fu0,Fu1,Fu2,Fu3⟩:=b_ Bu
     obtain ⟨Cv0,Cv1,Cv2,Cv3,Fv0,Fv1,Fv2,Fv3⟩:=b_ Bv
     obtain ⟨Co0,Co1,Fo0,Fo1⟩:=c_ Bo
     clear Ca0 Fa0 Ca1 Fa1 Ca2 Fa2 Ca3 Fa3 Cq0 Fq0 Cq1 Fq1 Cd0 Fd0 Cd1 Fd1 Ch0 Fh0 Ch1 Fh1 Cn0 Fn0 Cn1 Fn1 Cu0 Fu0 Cu1 Fu1 Cu2 Fu2 Cu3 Fu3 Cv0 Fv0 Cv1 Fv1 Cv2 Fv2 Cv3 Fv3 Co0 Fo0 Co1 Fo1
     obtain ⟨k90,k91,k92,k93⟩:=c_ Bq
     obtain ⟨q90,q91,q92,q93⟩:=c_ (m_ Bq (.int .i64 gh) (.slice sh lh ch))
     have hF : Hid (Z_ w (N9) (.returned (.agg #[.int .i64 gh,.slice sh lh ch])) ((wc.setCell ⟨w.heap.size + 1,0,none⟩ (.int .i64 gh)).setCell ⟨w.heap.size + 1,1,none⟩ (.slice sh lh ch))):=au_ hG Bq (by omega) rN
     clear ya rd rh rn yu yv ro rN
     obtain ⟨Ca0,Ca1,Ca2,Ca3,Fa0,Fa1,Fa2,Fa3⟩:=b_ Ba
     obtain ⟨Cd0,Cd1,Fd0,Fd1⟩:=c_ Bd
     obtain ⟨Ch0,Ch1,Fh0,Fh1⟩:=c_ Bh
     obtain ⟨Cn0,Cn1,Fn0,Fn1⟩:=c_ Bn
     obtain ⟨Cu0,Cu1,Cu2,Cu3,Fu0,Fu1,Fu2,Fu3⟩:=b_ Bu
     obtain ⟨Cv0,Cv1,Cv2,Cv3,Fv0,Fv1,Fv2,Fv3⟩:=b_ Bv
     obtain ⟨Co0,Co1,Fo0,Fo1⟩:=c_ Bo
     go_wp2_with fail
     exact bodyPost_ret (v:=.agg #[.int .i64 gh,.slice sh lh ch]) (by simp [results,Tryz.results45,go_sem,q90,q91]) rfl hF.out
   · skip
     subst hc
     rw [HSG.out] at hgo
     subst hgo
     have rN : RIntV wc (.agg #[.int .i64 gd,.slice sd ld cd]) N9:=by rw [HR.out]; exact rd
     obtain ⟨Ca0,Ca1,Ca2,Ca3,Fa0,Fa1,Fa2,Fa3⟩:=b_ Ba
     obtain ⟨Cq0,Cq1,Fq0,Fq1⟩:=c_ Bq
     obtain ⟨Cd0,Cd1,Fd0,Fd1⟩:=c_ Bd
     obtain ⟨Ch0,Ch1,Fh0,Fh1⟩:=c_ Bh
     obtain ⟨Cn0,Cn1,Fn0,Fn1⟩:=c_ Bn
     obtain ⟨Cu0,Cu1,Cu2,Cu3,Fu0,Fu1,Fu2,Fu3⟩:=b_ Bu
     obtain ⟨Cv0,Cv1,Cv2,Cv3,Fv0,Fv1,Fv2,Fv3⟩:=b_ Bv
     obtain ⟨Co0,Co1,Fo0,Fo1⟩:=c_ Bo
     clear Ca0 Fa0 Ca1 Fa1 Ca2 Fa2 Ca3 Fa3 Cq0 Fq0 Cq1 Fq1 Cd0 Fd0 Cd1 Fd1 Ch0 Fh0 Ch1 Fh1 Cn0 Fn0 Cn1 Fn1 Cu0 Fu0 Cu1 Fu1 Cu2 Fu2 Cu3 Fu3 Cv0 Fv0 Cv1 Fv1 Cv2 Fv2 Cv3 Fv3 Co0 Fo0 Co1 Fo1
     obtain ⟨k90,k91,k92,k93⟩:=c_ Bq
     obtain ⟨q90,q91,q92,q93⟩:=c_ (m_ Bq (.int .i64 gd) (.slice sd ld cd))
     have hF : Hid (Z_ w (N9) (.returned (.agg #[.int .i64 gd,.slice sd ld cd])) ((wc.setCell ⟨w.heap.size + 1,0,none⟩ (.int .i64 gd)).setCell ⟨w.heap.size + 1,1,none⟩ (.slice sd ld cd))):=au_ hG Bq (by omega) rN
     clear ya rd rh rn yu yv ro rN
     obtain ⟨Ca0,Ca1,Ca2,Ca3,Fa0,Fa1,Fa2,Fa3⟩:=b_ Ba
     obtain ⟨Cd0,Cd1,Fd0,Fd1⟩:=c_ Bd
     obtain ⟨Ch0,Ch1,Fh0,Fh1⟩:=c_ Bh
     obtain ⟨Cn0,Cn1,Fn0,Fn1⟩:=c_ Bn
     obtain ⟨Cu0,Cu1,Cu2,Cu3,Fu0,Fu1,Fu2,Fu3⟩:=b_ Bu
     obtain ⟨Cv0,Cv1,Cv2,Cv3,Fv0,Fv1,Fv2,Fv3⟩:=b_ Bv
     obtain ⟨Co0,Co1,Fo0,Fo1⟩:=c_ Bo
     go_wp2_with fail
     exact bodyPost_ret (v:=.agg #[.int .i64 gd,.slice sd ld cd]) (by simp [results,Tryz.results45,go_sem,q90,q91]) rfl hF.out
   · skip
     subst hc
     rw [HSG.out] at hgo
     subst hgo
     have rN : RIntV wc (.agg #[.int .i64 gh,.slice sh lh ch]) N9:=by rw [HR.out]; exact rh
     obtain ⟨Ca0,Ca1,Ca2,Ca3,Fa0,Fa1,Fa2,Fa3⟩:=b_ Ba
     obtain ⟨Cq0,Cq1,Fq0,Fq1⟩:=c_ Bq
     obtain ⟨Cd0,Cd1,Fd0,Fd1⟩:=c_ Bd
     obtain ⟨Ch0,Ch1,Fh0,Fh1⟩:=c_ Bh
     obtain ⟨Cn0,Cn1,Fn0,Fn1⟩:=c_ Bn
     obtain ⟨Cu0,Cu1,Cu2,Cu3,Fu0,Fu1,Fu2,Fu3⟩:=b_ Bu
     obtain ⟨Cv0,Cv1,Cv2,Cv3,Fv0,Fv1,Fv2,Fv3⟩:=b_ Bv
     obtain ⟨Co0,Co1,Fo0,Fo1⟩:=c_ Bo
     clear Ca0 Fa0 Ca1 Fa1 Ca2 Fa2 Ca3 Fa3 Cq0 Fq0 Cq1 Fq1 Cd0 Fd0 Cd1 Fd1 Ch0 Fh0 Ch1 Fh1 Cn0 Fn0 Cn1 Fn1 Cu0 Fu0 Cu1 Fu1 Cu2 Fu2 Cu3 Fu3 Cv0 Fv0 Cv1 Fv1 Cv2 Fv2 Cv3 Fv3 Co0 Fo0 Co1 Fo1
     obtain ⟨k90,k91,k92,k93⟩:=c_ Bq
     obtain ⟨q90,q91,q92,q93⟩:=c_ (m_ Bq (.int .i64 gh) (.slice sh lh ch))
     have hF : Hid (Z_ w (N9) (.returned (.agg #[.int .i64 gh,.slice sh lh ch])) ((wc.setCell ⟨w.heap.size + 1,0,none⟩ (.int .i64 gh)).setCell ⟨w.heap.size + 1,1,none⟩ (.slice sh lh ch))):=au_ hG Bq (by omega) rN
     clear ya rd rh rn yu yv ro rN
     obtain ⟨Ca0,Ca1,Ca2,Ca3,Fa0,Fa1,Fa2,Fa3⟩:=b_ Ba
     obtain ⟨Cd0,Cd1,Fd0,Fd1⟩:=c_ Bd
     obtain ⟨Ch0,Ch1,Fh0,Fh1⟩:=c_ Bh
     obtain ⟨Cn0,Cn1,Fn0,Fn1⟩:=c_ Bn
     obtain ⟨Cu0,Cu1,Cu2,Cu3,Fu0,Fu1,Fu2,Fu3⟩:=b_ Bu
     obtain ⟨Cv0,Cv1,Cv2,Cv3,Fv0,Fv1,Fv2,Fv3⟩:=b_ Bv
     obtain ⟨Co0,Co1,Fo0,Fo1⟩:=c_ Bo
     go_wp2_with fail
     exact bodyPost_ret (v:=.agg #[.int .i64 gh,.slice sh lh ch]) (by simp [results,Tryz.results45,go_sem,q90,q91]) rfl hF.out
end Go.Proofs.YtgbbdgioohaknaaGreatDoor
