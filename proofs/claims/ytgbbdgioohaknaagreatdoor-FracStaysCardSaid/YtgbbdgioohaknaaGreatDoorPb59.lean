/- What the laws lean on, part 59. -/
import Derived.Deep.RegionHeld3
import Derived.Deep.CutRange
import Derived.Test.YtgbbdgioohaknaaGreatDoorPb20
import Derived.Test.YtgbbdgioohaknaaGreatDoorPb35
import Derived.Test.YtgbbdgioohaknaaGreatDoorPb37
import Derived.Test.YtgbbdgioohaknaaGreatDoorPb38
import Derived.Test.YtgbbdgioohaknaaGreatDoorPb50
import Derived.Test.YtgbbdgioohaknaaGreatDoorPb51
import Derived.Test.YtgbbdgioohaknaaGreatDoorPb55
namespace Go.Proofs.YtgbbdgioohaknaaGreatDoor
open Go.RowKit Mat
set_option maxRecDepth 100000
set_option linter.unusedVariables false
set_option linter.unusedSimpArgs false
def cv_ (side : Int) (rs : List Rat) : Rat:=rs.tail.foldl (fun b a=>if bT_ a b = side then a else b) (rs.headD 0)
theorem gN_ (side : Int) (rs : List Rat) (h : 0 < rs.length) : cv_ side (rs.take 1) = rs[0]:=by
 cases rs with
 | nil=>simp at h
 | cons r t=>rfl
theorem fL_ (side : Int) (rs : List Rat) (k : Nat) (h : k + 1 < rs.length) : cv_ side (rs.take (k + 2)) = if bT_ rs[k + 1] (cv_ side (rs.take (k + 1))) = side then rs[k + 1] else cv_ side (rs.take (k + 1)):=by
 cases rs with
 | nil=>simp at h
 | cons r t =>
  have hk : k < t.length:=by simpa using h
  unfold cv_
  simp only [List.take_succ_cons,List.tail_cons,List.headD_cons,List.getElem_cons_succ]
  rw [List.take_succ_eq_append_getElem hk,List.foldl_append]; rfl
theorem jK_ (side : Int) (rs : List Rat) (k : Nat) (hk : k < rs.length) : cv_ side (rs.take (k + 1)) ∈ rs:=by
 induction k with
 | zero=>rw [gN_ side rs hk]; exact List.getElem_mem _
 | succ k ih =>
  rw [fL_ side rs k hk]
  split
  · exact List.getElem_mem _
  · exact ih (by omega)
theorem jL_ (side : Int) (rs : List Rat) : cv_ side (rs.take rs.length) = cv_ side rs:=by rw [List.take_length]
set_option maxHeartbeats 16000000 in
theorem dB_ (w : World) (s : Option Addr) (n cap : Nat) (rs : List Rat) (side : Int) (K : Nat) (Hs : QSl w s n rs) (hcap : n ≤ cap) (hn : n ≤ 1000000000) (hside : side = -1 ∨ side = 1) (hK : K ≤ 400000) (hb : ∀ r ∈ rs,r.num.natAbs < B ^ K ∧ r.den < B ^ K) :
    Calls Tryz.prog 86 #[.slice s n cap,.int .i64 side] w (aa_ w (cv_ side rs)):=by
 have hl:=Hs.1
 have hcase : n = 0 ∨ ∃ b,s = some ⟨b,0,none⟩:=by
  rcases Hs.2 with h | ⟨b,cs,e,_⟩
  · exact Or.inl h
  · exact Or.inr ⟨b,e⟩
 have HBD : Hid (∀ k,k < n → (cv_ side (rs.take (k + 1))).num.natAbs < B ^ K ∧ (cv_ side (rs.take (k + 1))).den < B ^ K):=fun k hk=>hb _ (jK_ side rs k (by omega))
 have HEL : Hid (∀ k (h : k < rs.length),(rs[k]'h).num.natAbs < B ^ K ∧ (rs[k]'h).den < B ^ K):=fun k h=>hb _ (List.getElem_mem h)
 have HSN : Hid (∀ k (h : k + 1 < rs.length),cv_ side (rs.take (k + 2)) = if bT_ (rs[k + 1]'h) (cv_ side (rs.take (k + 1))) = side then rs[k + 1]'h else cv_ side (rs.take (k + 1))):=fun k h=>fL_ side rs k h
 have HON : Hid (∀ h : 0 < rs.length,cv_ side (rs.take 1) = rs[0]'h):=fun h=>gN_ side rs h
 have HALL : Hid (cv_ side (rs.take n) = cv_ side rs):=by show _ = _; rw [← hl]; exact jL_ side rs
 have HL:=H_ hl
 by_cases h0 : n = 0
 · skip
   have hrs : rs = []:=List.eq_nil_of_length_eq_zero (by omega)
   rw [hrs,show cv_ side [] = 0 from rfl]
   clear HBD HEL HSN HON HALL HL hb hl hcase Hs hrs
   subst h0
   obtain ⟨hG,Bq⟩:=en1_ w (.cells #[.slice none 0 0,.bool false,.slice none 0 0,.bool false] 28)
   go_enter Tryz.func86,Tryz.ntmps86
   obtain ⟨Cq0,Cq1,Cq2,Cq3,Fq0,Fq1,Fq2,Fq3⟩:=b_ Bq
   have hG' : w.grownBy (w.alloc (.cells #[.slice none 0 0,.bool false,.slice none 0 0,.bool false] 28)) none:=(wg_ _ _ _)
   have hF : Hid (aa_ w (0) (.returned (.agg #[.slice none 0 0,.bool false,.slice none 0 0,.bool false])) (w.alloc (.cells #[.slice none 0 0,.bool false,.slice none 0 0,.bool false] 28))):=⟨_,rfl,RatV.zero _,hG'⟩
   clear hG'
   go_wp2_with fail
   exact bodyPost_ret (v:=.agg #[.slice none 0 0,.bool false,.slice none 0 0,.bool false]) (by simp [results,Tryz.results86,go_sem]) rfl hF.out
 · skip
   obtain ⟨b,rfl⟩:=hcase.resolve_left h0
   have h0' : 0 < n:=by omega
   clear h0 hl hb
   obtain ⟨s0,x0,f0,s0',x0',f0',c00,c01,c02,c03,i0⟩:=Hs.at 0 (by rw [HL.out]; exact h0')
   rw [← HON.out (by rw [HL.out]; exact h0')] at i0
   obtain ⟨hG,Bq⟩:=en1_ w (.cells #[.slice none 0 0,.bool false,.slice none 0 0,.bool false] 28)
   go_enter Tryz.func86,Tryz.ntmps86
   have g1 : w.grownBy (w.alloc (.cells #[.slice none 0 0,.bool false,.slice none 0 0,.bool false] 28)) none:=wg_ _ _ _
   have d00:=g1.cell c00 (by simp)
   have d01:=g1.cell c01 (by simp)
   have d02:=g1.cell c02 (by simp)
   have d03:=g1.cell c03 (by simp)
   have gB:=wg_ (w.alloc (.cells #[.slice none 0 0,.bool false,.slice none 0 0,.bool false] 28)) (.cells #[.slice s0 x0.length x0.length,.bool f0,.slice s0' x0'.length x0'.length,.bool f0'] 28) none
   have Bs0:=f_ (w.alloc (.cells #[.slice none 0 0,.bool false,.slice none 0 0,.bool false] 28)) (.cells #[.slice s0 x0.length x0.length,.bool f0,.slice s0' x0'.length x0'.length,.bool f0'] 28) (w.heap.size + 1) (by simp)
   have Bq0:=a_ gB Bq
   have i1:=(i0.kept g1).kept gB
   have HS0:=H_ (Hs.kept g1)
   have HG0:=H_ g1
   have HT1:=H_ gB
   have HI1:=H_ i1
   have HBS:=H_ Bs0
   have HBQ1:=H_ Bq
   have hsz1 : (w.alloc (.cells #[.slice none 0 0,.bool false,.slice none 0 0,.bool false] 28)).heap.size = w.heap.size + 1:=by simp
   have HZ1:=H_ hsz1
   clear hsz1
   clear g1 gB Bs0 Bq0 i0 i1 hG Bq Hs c00 c01 c02 c03
   go_wp2_with fail
   all_goals skip
   · skip
     generalize (w.alloc (.cells #[.slice none 0 0,.bool false,.slice none 0 0,.bool false] 28)) = w1 at *
     generalize (w1.alloc (.cells #[.slice s0 x0.length x0.length,.bool f0,.slice s0' x0'.length x0'.length,.bool f0'] 28)) = w2 at *
     go_loopw [18] (fun i wr=>∃ k : Nat,k ≤ n - 1 ∧ i = .int .i64 k ∧ BoxR wr (w.heap.size + 1) (cv_ side (rs.take (k + 1))) ∧ w1.grownBy wr none) (fun i _=>n - (intOf i).toNat)
     case atStart=>exact ⟨0,Nat.zero_le _,rfl,⟨_,_,_,_,HBS.out,HI1.out⟩,HT1.out⟩
     case round =>
      obtain ⟨k,hk,rfl,Ks,hT⟩:=hrel
      obtain ⟨ss,xs,bs,ss',xs',bs',Bs,qs⟩:=Ks.open
      have Bq:=a_ hT HBQ1.out
      have hG:=d_ HG0.out hT
      by_cases hlt : k < n - 1
      · skip
        omega
      · skip
        obtain rfl : k = n - 1:=by omega
        have hb1:=HBD.out (n - 1) (by omega)
        rw [show n - 1 + 1 = n by omega,HALL.out] at qs hb1
        have HB9:=H_ hb1
        clear hlt hk hb1
        generalize cv_ side rs = R at *
        have is:=qs.parts.1
        have is':=qs.parts.2
        clear qs hT
        obtain ⟨Cq0,Cq1,Cq2,Cq3,Fq0,Fq1,Fq2,Fq3⟩:=b_ Bq
        obtain ⟨Cs0,Cs1,Cs2,Cs3,Fs0,Fs1,Fs2,Fs3⟩:=b_ Bs
        go_wp2_with fail
        go_region_held3 (fun w'=>w'.cell? ⟨w.heap.size + 1,0,none⟩ = some (.slice ss xs.length xs.length) ∧ w'.cell? ⟨w.heap.size + 1,1,none⟩ = some (.bool bs) ∧ w'.cell? ⟨w.heap.size + 1,2,none⟩ = some (.slice ss' xs'.length xs'.length) ∧ w'.cell? ⟨w.heap.size + 1,3,none⟩ = some (.bool bs'))
         (first | assumption | exact ⟨Cs0,Cs1,Cs2,Cs3⟩ | exact HSsi1ew1_20 | go_keep)
         (first
           | (go_at_call 62; (with_reducible refine (af_ wr.drew _ R.num K (is.kept (k_ (h_ _ _))) (by omega) HB9.out.1).mono ?_); rintro e si1ew1_1 ⟨_,rfl,⟨sd,xd,bd,rfl,hd,vd,td⟩,gsi1ew1_1⟩; have hGsi1ew1_1:=o_ wr gsi1ew1_1 rfl rfl rfl rfl; have id : IntV si1ew1_1 (.agg #[.slice sd xd.length xd.length,.bool bd]) (R.num):=⟨sd,xd,bd,rfl,hd,vd,td⟩; have hSsi1ew1_1:=(n_ (hGsi1ew1_1.cell Cs0 (by simp)) (n_ (hGsi1ew1_1.cell Cs1 (by simp)) (n_ (hGsi1ew1_1.cell Cs2 (by simp)) (hGsi1ew1_1.cell Cs3 (by simp))))); clear gsi1ew1_1; clear hd vd td)
           | (go_at_call 62; (with_reducible refine (af_ si1ew1_1 _ (dn R) K (is'.kept hGsi1ew1_1) (by omega) (ke_ HB9.out.2)).mono ?_); rintro e si1ew1_2 ⟨_,rfl,⟨se,xe,be,rfl,he,ve,te⟩,gsi1ew1_2⟩; have hGsi1ew1_2:=d_ hGsi1ew1_1 gsi1ew1_2; replace id:=id.kept gsi1ew1_2; have ie : IntV si1ew1_2 (.agg #[.slice se xe.length xe.length,.bool be]) (dn R):=⟨se,xe,be,rfl,he,ve,te⟩; have hSsi1ew1_2:=(n_ (hGsi1ew1_2.cell Cs0 (by simp)) (n_ (hGsi1ew1_2.cell Cs1 (by simp)) (n_ (hGsi1ew1_2.cell Cs2 (by simp)) (hGsi1ew1_2.cell Cs3 (by simp))))); clear gsi1ew1_2; clear he ve te; (obtain ⟨dq0,dq1,dq2,dq3,dq4,dq5,dq6,dq7⟩:=b_ (a_ hGsi1ew1_2 Bq)); have HSsi1ew1_20:=(n_ ((b_ (i_ (a_ hGsi1ew1_2 Bs) (show w.heap.size + 1 ≠ w.heap.size by omega) (.slice sd xd.length xd.length) (.bool bd) (.slice se xe.length xe.length) (.bool be))).1) (n_ ((b_ (i_ (a_ hGsi1ew1_2 Bs) (show w.heap.size + 1 ≠ w.heap.size by omega) (.slice sd xd.length xd.length) (.bool bd) (.slice se xe.length xe.length) (.bool be))).2.1) (n_ ((b_ (i_ (a_ hGsi1ew1_2 Bs) (show w.heap.size + 1 ≠ w.heap.size by omega) (.slice sd xd.length xd.length) (.bool bd) (.slice se xe.length xe.length) (.bool be))).2.2.1) ((b_ (i_ (a_ hGsi1ew1_2 Bs) (show w.heap.size + 1 ≠ w.heap.size by omega) (.slice sd xd.length xd.length) (.bool bd) (.slice se xe.length xe.length) (.bool be))).2.2.2.1))))))
        replace Bq:=a_ hGsi1ew1_2 Bq
        replace hG:=d_ hG hGsi1ew1_2
        clear Cq0 Fq0 Cq1 Fq1 Cq2 Fq2 Cq3 Fq3 Cs0 Fs0 Cs1 Fs1 Cs2 Fs2 Cs3 Fs3
        have qd : RatV si1ew1_2 (.agg #[.slice sd xd.length xd.length,.bool bd,.slice se xe.length xe.length,.bool be]) R:=⟨_,_,_,_,_,_,rfl,id,ie⟩
        obtain ⟨k90,k91,k92,k93,k94,k95,k96,k97⟩:=b_ Bq
        obtain ⟨q90,q91,q92,q93,q94,q95,q96,q97⟩:=b_ (r_ Bq (.slice sd xd.length xd.length) (.bool bd) (.slice se xe.length xe.length) (.bool be))
        have hF : Hid (aa_ w (R) (.returned (.agg #[.slice sd xd.length xd.length,.bool bd,.slice se xe.length xe.length,.bool be])) ((((si1ew1_2.setCell ⟨w.heap.size,0,none⟩ (.slice sd xd.length xd.length)).setCell ⟨w.heap.size,1,none⟩ (.bool bd)).setCell ⟨w.heap.size,2,none⟩ (.slice se xe.length xe.length)).setCell ⟨w.heap.size,3,none⟩ (.bool be))):=X_ hG Bq (by omega) qd
        clear is is' id ie qd
        go_wp2_with fail
        exact bodyPost_ret (v:=.agg #[.slice sd xd.length xd.length,.bool bd,.slice se xe.length xe.length,.bool be]) (by simp [results,Tryz.results86,go_sem,q90,q91,q92,q93]) rfl hF.out
   · skip
     generalize (w.alloc (.cells #[.slice none 0 0,.bool false,.slice none 0 0,.bool false] 28)) = w1 at *
     generalize (w1.alloc (.cells #[.slice s0 x0.length x0.length,.bool f0,.slice s0' x0'.length x0'.length,.bool f0'] 28)) = w2 at *
     go_loopw [18] (fun i wr=>∃ k : Nat,k ≤ n - 1 ∧ i = .int .i64 k ∧ BoxR wr (w.heap.size + 1) (cv_ side (rs.take (k + 1))) ∧ w1.grownBy wr none) (fun i _=>n - (intOf i).toNat)
     case atStart=>exact ⟨0,Nat.zero_le _,rfl,⟨_,_,_,_,HBS.out,HI1.out⟩,HT1.out⟩
     case round =>
      obtain ⟨k,hk,rfl,Ks,hT⟩:=hrel
      obtain ⟨ss,xs,bs,ss',xs',bs',Bs,qs⟩:=Ks.open
      have Bq:=a_ hT HBQ1.out
      have hG:=d_ HG0.out hT
      by_cases hlt : k < n - 1
      · skip
        have hkl : k + 1 < rs.length:=by rw [HL.out]; omega
        obtain ⟨sa,xa,ba,sa',xa',ba',ca0,ca1,ca2,ca3,qa⟩:=(HS0.out.kept hT).at (k + 1) hkl
        rw [show (k + 1) * 4 = 4 + k * 4 by omega] at ca0 ca1 ca2 ca3
        have hs1:=HSN.out k hkl
        have he1:=HEL.out (k + 1) hkl
        have hb1:=HBD.out k (by omega)
        generalize rs[k + 1] = z at *
        generalize hbst : cv_ side (rs.take (k + 1)) = bst at *
        obtain ⟨c,hc⟩ : ∃ c,bT_ z bst = c:=⟨_,rfl⟩
        have hcc : ((c == side) = true ∧ Hid (cv_ side (rs.take (k + 2)) = z)) ∨ ((c == side) = false ∧ Hid (cv_ side (rs.take (k + 2)) = bst)):=by
         rw [hc] at hs1
         by_cases h : c = side
         · left; exact ⟨beq_iff_eq.2 h,by rw [if_pos h] at hs1; exact hs1⟩
         · right; exact ⟨beq_eq_false_iff_ne.2 h,by rw [if_neg h] at hs1; exact hs1⟩
        have HC:=H_ hc
        have HE9:=H_ he1
        have HB9:=H_ hb1
        clear hs1 he1 hb1 hkl hbst hc
        obtain ⟨Cq0,Cq1,Cq2,Cq3,Fq0,Fq1,Fq2,Fq3⟩:=b_ Bq
        obtain ⟨Cs0,Cs1,Cs2,Cs3,Fs0,Fs1,Fs2,Fs3⟩:=b_ Bs
        rcases hcc with ⟨fc,HR⟩ | ⟨fc,HR⟩
        · skip
          have gbwr:=(wg_ wr (.cells #[.slice sa xa.length xa.length,.bool ba,.slice sa' xa'.length xa'.length,.bool ba'] 28) none)
          have Ba:=(f_ wr (.cells #[.slice sa xa.length xa.length,.bool ba,.slice sa' xa'.length xa'.length,.bool ba'] 28) (wr.heap.size) rfl)
          have hzwr : Hid (w.heap.size ≤ wr.heap.size):=H_ hG.size
          have hlqwr : Hid (w.heap.size < wr.heap.size):=H_ (Array.getElem?_eq_some_iff.1 Bq).1
          have hlswr : Hid (w.heap.size + 1 < wr.heap.size):=H_ (Array.getElem?_eq_some_iff.1 Bs).1
          clear Cq0 Fq0 Cq1 Fq1 Cq2 Fq2 Cq3 Fq3 Cs0 Fs0 Cs1 Fs1 Cs2 Fs2 Cs3 Fs3
          replace Bq:=a_ gbwr Bq
          replace Bs:=a_ gbwr Bs
          replace qs:=qs.kept gbwr
          replace qa:=qa.kept gbwr
          replace hT:=d_ hT gbwr
          clear gbwr
          obtain ⟨Cq0,Cq1,Cq2,Cq3,Fq0,Fq1,Fq2,Fq3⟩:=b_ Bq
          obtain ⟨Cs0,Cs1,Cs2,Cs3,Fs0,Fs1,Fs2,Fs3⟩:=b_ Bs
          obtain ⟨Ca0,Ca1,Ca2,Ca3,Fa0,Fa1,Fa2,Fa3⟩:=b_ Ba
          go_wp2_with fail
          generalize (wr.alloc (.cells #[.slice sa xa.length xa.length,.bool ba,.slice sa' xa'.length xa'.length,.bool ba'] 28)) = si0rh1w1 at *
          generalize wr.heap.size = awr at *
          replace hzwr:=hzwr.out
          replace hlqwr:=hlqwr.out
          replace hlswr:=hlswr.out
          clear Cq0 Fq0 Cq1 Fq1 Cq2 Fq2 Cq3 Fq3 Cs0 Fs0 Cs1 Fs1 Cs2 Fs2 Cs3 Fs3 Ca0 Fa0 Ca1 Fa1 Ca2 Fa2 Ca3 Fa3
          refine (D_ si0rh1w1 _ _ z bst K qa qs (by omega) HE9.out.1 HE9.out.2 HB9.out.1 HB9.out.2).mono ?_
          rintro e si0rh1w2 ⟨rfl,gsi0rh1w2⟩
          rw [HC.out]
          replace Bq:=a_ gsi0rh1w2 Bq
          replace Bs:=a_ gsi0rh1w2 Bs
          replace Ba:=a_ gsi0rh1w2 Ba
          replace qa:=qa.kept gsi0rh1w2
          replace hT:=d_ hT gsi0rh1w2
          clear gsi0rh1w2
          obtain ⟨Cq0,Cq1,Cq2,Cq3,Fq0,Fq1,Fq2,Fq3⟩:=b_ Bq
          obtain ⟨Cs0,Cs1,Cs2,Cs3,Fs0,Fs1,Fs2,Fs3⟩:=b_ Bs
          obtain ⟨Ca0,Ca1,Ca2,Ca3,Fa0,Fa1,Fa2,Fa3⟩:=b_ Ba
          have hT2:=aw_ (g:=w.heap.size + 1) hT (by rw [HZ1.out]; exact Nat.le_refl _) (.slice sa xa.length xa.length) (.bool ba) (.slice sa' xa'.length xa'.length) (.bool ba')
          have Ks : BoxR _ (w.heap.size + 1) (cv_ side (rs.take (k + 1 + 1))):=⟨_,_,_,_,r_ Bs (.slice sa xa.length xa.length) (.bool ba) (.slice sa' xa'.length xa'.length) (.bool ba'),by rw [HR.out]; exact qa.set4 Bs (.slice sa xa.length xa.length) (.bool ba) (.slice sa' xa'.length xa'.length) (.bool ba')⟩
          clear qs qa hT hG
          have HT9:=H_ hT2
          have HK9:=H_ Ks
          clear hT2 Ks
          go_wp2_with fail
          go_roundw
          case rel=>exact ⟨k + 1,by omega,by go_num,HK9.out,HT9.out⟩
          case measure=>simp [intOf]; omega
        · skip
          have gbwr:=(wg_ wr (.cells #[.slice sa xa.length xa.length,.bool ba,.slice sa' xa'.length xa'.length,.bool ba'] 28) none)
          have Ba:=(f_ wr (.cells #[.slice sa xa.length xa.length,.bool ba,.slice sa' xa'.length xa'.length,.bool ba'] 28) (wr.heap.size) rfl)
          have hzwr : Hid (w.heap.size ≤ wr.heap.size):=H_ hG.size
          have hlqwr : Hid (w.heap.size < wr.heap.size):=H_ (Array.getElem?_eq_some_iff.1 Bq).1
          have hlswr : Hid (w.heap.size + 1 < wr.heap.size):=H_ (Array.getElem?_eq_some_iff.1 Bs).1
          clear Cq0 Fq0 Cq1 Fq1 Cq2 Fq2 Cq3 Fq3 Cs0 Fs0 Cs1 Fs1 Cs2 Fs2 Cs3 Fs3
          replace Bq:=a_ gbwr Bq
          replace Bs:=a_ gbwr Bs
          replace qs:=qs.kept gbwr
          replace qa:=qa.kept gbwr
          replace hT:=d_ hT gbwr
          clear gbwr
          obtain ⟨Cq0,Cq1,Cq2,Cq3,Fq0,Fq1,Fq2,Fq3⟩:=b_ Bq
          obtain ⟨Cs0,Cs1,Cs2,Cs3,Fs0,Fs1,Fs2,Fs3⟩:=b_ Bs
          obtain ⟨Ca0,Ca1,Ca2,Ca3,Fa0,Fa1,Fa2,Fa3⟩:=b_ Ba
          go_wp2_with fail
          generalize (wr.alloc (.cells #[.slice sa xa.length xa.length,.bool ba,.slice sa' xa'.length xa'.length,.bool ba'] 28)) = si0rh0w1 at *
          generalize wr.heap.size = awr at *
          replace hzwr:=hzwr.out
          replace hlqwr:=hlqwr.out
          replace hlswr:=hlswr.out
          clear Cq0 Fq0 Cq1 Fq1 Cq2 Fq2 Cq3 Fq3 Cs0 Fs0 Cs1 Fs1 Cs2 Fs2 Cs3 Fs3 Ca0 Fa0 Ca1 Fa1 Ca2 Fa2 Ca3 Fa3
          refine (D_ si0rh0w1 _ _ z bst K qa qs (by omega) HE9.out.1 HE9.out.2 HB9.out.1 HB9.out.2).mono ?_
          rintro e si0rh0w2 ⟨rfl,gsi0rh0w2⟩
          rw [HC.out]
          replace Bq:=a_ gsi0rh0w2 Bq
          replace Bs:=a_ gsi0rh0w2 Bs
          replace Ba:=a_ gsi0rh0w2 Ba
          replace qs:=qs.kept gsi0rh0w2
          replace hT:=d_ hT gsi0rh0w2
          clear gsi0rh0w2
          obtain ⟨Cq0,Cq1,Cq2,Cq3,Fq0,Fq1,Fq2,Fq3⟩:=b_ Bq
          obtain ⟨Cs0,Cs1,Cs2,Cs3,Fs0,Fs1,Fs2,Fs3⟩:=b_ Bs
          obtain ⟨Ca0,Ca1,Ca2,Ca3,Fa0,Fa1,Fa2,Fa3⟩:=b_ Ba
          have hT2:=hT
          have Ks : BoxR si0rh0w2 (w.heap.size + 1) (cv_ side (rs.take (k + 1 + 1))):=⟨_,_,_,_,Bs,by rw [HR.out]; exact qs⟩
          clear qs qa hT hG
          have HT9:=H_ hT2
          have HK9:=H_ Ks
          clear hT2 Ks
          go_wp2_with fail
          go_roundw
          case rel=>exact ⟨k + 1,by omega,by go_num,HK9.out,HT9.out⟩
          case measure=>simp [intOf]; omega
      · skip
        obtain rfl : k = n - 1:=by omega
        have hb1:=HBD.out (n - 1) (by omega)
        rw [show n - 1 + 1 = n by omega,HALL.out] at qs hb1
        have HB9:=H_ hb1
        clear hlt hk hb1
        generalize cv_ side rs = R at *
        have is:=qs.parts.1
        have is':=qs.parts.2
        clear qs hT
        obtain ⟨Cq0,Cq1,Cq2,Cq3,Fq0,Fq1,Fq2,Fq3⟩:=b_ Bq
        obtain ⟨Cs0,Cs1,Cs2,Cs3,Fs0,Fs1,Fs2,Fs3⟩:=b_ Bs
        go_wp2_with fail
        go_region_held3 (fun w'=>w'.cell? ⟨w.heap.size + 1,0,none⟩ = some (.slice ss xs.length xs.length) ∧ w'.cell? ⟨w.heap.size + 1,1,none⟩ = some (.bool bs) ∧ w'.cell? ⟨w.heap.size + 1,2,none⟩ = some (.slice ss' xs'.length xs'.length) ∧ w'.cell? ⟨w.heap.size + 1,3,none⟩ = some (.bool bs'))
         (first | assumption | exact ⟨Cs0,Cs1,Cs2,Cs3⟩ | exact HSsi0ew1_20 | go_keep)
         (first
           | (go_at_call 62; (with_reducible refine (af_ wr.drew _ R.num K (is.kept (k_ (h_ _ _))) (by omega) HB9.out.1).mono ?_); rintro e si0ew1_1 ⟨_,rfl,⟨sd,xd,bd,rfl,hd,vd,td⟩,gsi0ew1_1⟩; have hGsi0ew1_1:=o_ wr gsi0ew1_1 rfl rfl rfl rfl; have id : IntV si0ew1_1 (.agg #[.slice sd xd.length xd.length,.bool bd]) (R.num):=⟨sd,xd,bd,rfl,hd,vd,td⟩; have hSsi0ew1_1:=(n_ (hGsi0ew1_1.cell Cs0 (by simp)) (n_ (hGsi0ew1_1.cell Cs1 (by simp)) (n_ (hGsi0ew1_1.cell Cs2 (by simp)) (hGsi0ew1_1.cell Cs3 (by simp))))); clear gsi0ew1_1; clear hd vd td)
           | (go_at_call 62; (with_reducible refine (af_ si0ew1_1 _ (dn R) K (is'.kept hGsi0ew1_1) (by omega) (ke_ HB9.out.2)).mono ?_); rintro e si0ew1_2 ⟨_,rfl,⟨se,xe,be,rfl,he,ve,te⟩,gsi0ew1_2⟩; have hGsi0ew1_2:=d_ hGsi0ew1_1 gsi0ew1_2; replace id:=id.kept gsi0ew1_2; have ie : IntV si0ew1_2 (.agg #[.slice se xe.length xe.length,.bool be]) (dn R):=⟨se,xe,be,rfl,he,ve,te⟩; have hSsi0ew1_2:=(n_ (hGsi0ew1_2.cell Cs0 (by simp)) (n_ (hGsi0ew1_2.cell Cs1 (by simp)) (n_ (hGsi0ew1_2.cell Cs2 (by simp)) (hGsi0ew1_2.cell Cs3 (by simp))))); clear gsi0ew1_2; clear he ve te; (obtain ⟨dq0,dq1,dq2,dq3,dq4,dq5,dq6,dq7⟩:=b_ (a_ hGsi0ew1_2 Bq)); have HSsi0ew1_20:=(n_ ((b_ (i_ (a_ hGsi0ew1_2 Bs) (show w.heap.size + 1 ≠ w.heap.size by omega) (.slice sd xd.length xd.length) (.bool bd) (.slice se xe.length xe.length) (.bool be))).1) (n_ ((b_ (i_ (a_ hGsi0ew1_2 Bs) (show w.heap.size + 1 ≠ w.heap.size by omega) (.slice sd xd.length xd.length) (.bool bd) (.slice se xe.length xe.length) (.bool be))).2.1) (n_ ((b_ (i_ (a_ hGsi0ew1_2 Bs) (show w.heap.size + 1 ≠ w.heap.size by omega) (.slice sd xd.length xd.length) (.bool bd) (.slice se xe.length xe.length) (.bool be))).2.2.1) ((b_ (i_ (a_ hGsi0ew1_2 Bs) (show w.heap.size + 1 ≠ w.heap.size by omega) (.slice sd xd.length xd.length) (.bool bd) (.slice se xe.length xe.length) (.bool be))).2.2.2.1))))))
        replace Bq:=a_ hGsi0ew1_2 Bq
        replace hG:=d_ hG hGsi0ew1_2
        clear Cq0 Fq0 Cq1 Fq1 Cq2 Fq2 Cq3 Fq3 Cs0 Fs0 Cs1 Fs1 Cs2 Fs2 Cs3 Fs3
        have qd : RatV si0ew1_2 (.agg #[.slice sd xd.length xd.length,.bool bd,.slice se xe.length xe.length,.bool be]) R:=⟨_,_,_,_,_,_,rfl,id,ie⟩
        obtain ⟨k90,k91,k92,k93,k94,k95,k96,k97⟩:=b_ Bq
        obtain ⟨q90,q91,q92,q93,q94,q95,q96,q97⟩:=b_ (r_ Bq (.slice sd xd.length xd.length) (.bool bd) (.slice se xe.length xe.length) (.bool be))
        have hF : Hid (aa_ w (R) (.returned (.agg #[.slice sd xd.length xd.length,.bool bd,.slice se xe.length xe.length,.bool be])) ((((si0ew1_2.setCell ⟨w.heap.size,0,none⟩ (.slice sd xd.length xd.length)).setCell ⟨w.heap.size,1,none⟩ (.bool bd)).setCell ⟨w.heap.size,2,none⟩ (.slice se xe.length xe.length)).setCell ⟨w.heap.size,3,none⟩ (.bool be))):=X_ hG Bq (by omega) qd
        clear is is' id ie qd
        go_wp2_with fail
        exact bodyPost_ret (v:=.agg #[.slice sd xd.length xd.length,.bool bd,.slice se xe.length xe.length,.bool be]) (by simp [results,Tryz.results86,go_sem,q90,q91,q92,q93]) rfl hF.out
set_option maxHeartbeats 16000000 in
theorem hR_ (w : World) (s : Option Addr) (n cap : Nat) (rs : List Rat) (K : Nat) (Hs : QSl w s n rs) (hcap : n ≤ cap) (hn : n ≤ 1000000000) (hK : K ≤ 400000) (hb : ∀ r ∈ rs,r.num.natAbs < B ^ K ∧ r.den < B ^ K) :
    Calls Tryz.prog 46 #[.slice s n cap] w (aa_ w (cv_ (-1) rs)):=by
 have HS:=H_ Hs
 have HB : Hid (∀ r ∈ rs,r.num.natAbs < B ^ K ∧ r.den < B ^ K):=hb
 have HCA : Hid (n ≤ cap ∧ n ≤ 1000000000):=⟨hcap,hn⟩
 clear Hs hb hcap hn
 obtain ⟨hG,Bq⟩:=en1_ w (.cells #[.slice none 0 0,.bool false,.slice none 0 0,.bool false] 28)
 go_enter Tryz.func46,Tryz.ntmps46
 obtain ⟨Cq0,Cq1,Cq2,Cq3,Fq0,Fq1,Fq2,Fq3⟩:=b_ Bq
 go_wp2_with fail
 generalize (w.alloc (.cells #[.slice none 0 0,.bool false,.slice none 0 0,.bool false] 28)) = w0 at *
 clear Cq0 Fq0 Cq1 Fq1 Cq2 Fq2 Cq3 Fq3
 refine (dB_ w0 s n cap rs (-1) K (HS.out.kept hG) HCA.out.1 HCA.out.2 (by decide) (by omega) HB.out).mono ?_
 rintro e w1 ⟨_,rfl,⟨sd,xd,bd,sd',xd',bd',rfl,hd,hd'⟩,gw1⟩
 have qd : RatV w1 (.agg #[.slice sd xd.length xd.length,.bool bd,.slice sd' xd'.length xd'.length,.bool bd']) (cv_ (-1) rs):=⟨sd,xd,bd,sd',xd',bd',rfl,hd,hd'⟩
 replace Bq:=a_ gw1 Bq
 replace hG:=d_ hG gw1
 clear gw1
 clear hd hd'
 obtain ⟨Cq0,Cq1,Cq2,Cq3,Fq0,Fq1,Fq2,Fq3⟩:=b_ Bq
 clear Cq0 Fq0 Cq1 Fq1 Cq2 Fq2 Cq3 Fq3
 obtain ⟨k90,k91,k92,k93,k94,k95,k96,k97⟩:=b_ Bq
 obtain ⟨q90,q91,q92,q93,q94,q95,q96,q97⟩:=b_ (r_ Bq (.slice sd xd.length xd.length) (.bool bd) (.slice sd' xd'.length xd'.length) (.bool bd'))
 have hF : Hid (aa_ w (cv_ (-1) rs) (.returned (.agg #[.slice sd xd.length xd.length,.bool bd,.slice sd' xd'.length xd'.length,.bool bd'])) ((((w1.setCell ⟨w.heap.size,0,none⟩ (.slice sd xd.length xd.length)).setCell ⟨w.heap.size,1,none⟩ (.bool bd)).setCell ⟨w.heap.size,2,none⟩ (.slice sd' xd'.length xd'.length)).setCell ⟨w.heap.size,3,none⟩ (.bool bd'))):=X_ hG Bq (by omega) qd
 clear qd
 go_wp2_with fail
 exact bodyPost_ret (v:=.agg #[.slice sd xd.length xd.length,.bool bd,.slice sd' xd'.length xd'.length,.bool bd']) (by simp [results,Tryz.results46,go_sem,q90,q91,q92,q93]) rfl hF.out
set_option maxHeartbeats 16000000 in
theorem jp_ (w : World) (s : Option Addr) (n cap : Nat) (rs : List Rat) (K : Nat) (Hs : QSl w s n rs) (hcap : n ≤ cap) (hn : n ≤ 1000000000) (hK : K ≤ 400000) (hb : ∀ r ∈ rs,r.num.natAbs < B ^ K ∧ r.den < B ^ K) :
    Calls Tryz.prog 47 #[.slice s n cap] w (aa_ w (cv_ 1 rs)):=by
 have HS:=H_ Hs
 have HB : Hid (∀ r ∈ rs,r.num.natAbs < B ^ K ∧ r.den < B ^ K):=hb
 have HCA : Hid (n ≤ cap ∧ n ≤ 1000000000):=⟨hcap,hn⟩
 clear Hs hb hcap hn
 obtain ⟨hG,Bq⟩:=en1_ w (.cells #[.slice none 0 0,.bool false,.slice none 0 0,.bool false] 28)
 go_enter Tryz.func47,Tryz.ntmps47
 obtain ⟨Cq0,Cq1,Cq2,Cq3,Fq0,Fq1,Fq2,Fq3⟩:=b_ Bq
 go_wp2_with fail
 generalize (w.alloc (.cells #[.slice none 0 0,.bool false,.slice none 0 0,.bool false] 28)) = w0 at *
 clear Cq0 Fq0 Cq1 Fq1 Cq2 Fq2 Cq3 Fq3
 refine (dB_ w0 s n cap rs 1 K (HS.out.kept hG) HCA.out.1 HCA.out.2 (by decide) (by omega) HB.out).mono ?_
 rintro e w1 ⟨_,rfl,⟨sd,xd,bd,sd',xd',bd',rfl,hd,hd'⟩,gw1⟩
 have qd : RatV w1 (.agg #[.slice sd xd.length xd.length,.bool bd,.slice sd' xd'.length xd'.length,.bool bd']) (cv_ 1 rs):=⟨sd,xd,bd,sd',xd',bd',rfl,hd,hd'⟩
 replace Bq:=a_ gw1 Bq
 replace hG:=d_ hG gw1
 clear gw1
 clear hd hd'
 obtain ⟨Cq0,Cq1,Cq2,Cq3,Fq0,Fq1,Fq2,Fq3⟩:=b_ Bq
 clear Cq0 Fq0 Cq1 Fq1 Cq2 Fq2 Cq3 Fq3
 obtain ⟨k90,k91,k92,k93,k94,k95,k96,k97⟩:=b_ Bq
 obtain ⟨q90,q91,q92,q93,q94,q95,q96,q97⟩:=b_ (r_ Bq (.slice sd xd.length xd.length) (.bool bd) (.slice sd' xd'.length xd'.length) (.bool bd'))
 have hF : Hid (aa_ w (cv_ 1 rs) (.returned (.agg #[.slice sd xd.length xd.length,.bool bd,.slice sd' xd'.length xd'.length,.bool bd'])) ((((w1.setCell ⟨w.heap.size,0,none⟩ (.slice sd xd.length xd.length)).setCell ⟨w.heap.size,1,none⟩ (.bool bd)).setCell ⟨w.heap.size,2,none⟩ (.slice sd' xd'.length xd'.length)).setCell ⟨w.heap.size,3,none⟩ (.bool bd'))):=X_ hG Bq (by omega) qd
 clear qd
 go_wp2_with fail
 exact bodyPost_ret (v:=.agg #[.slice sd xd.length xd.length,.bool bd,.slice sd' xd'.length xd'.length,.bool bd']) (by simp [results,Tryz.results47,go_sem,q90,q91,q92,q93]) rfl hF.out
theorem gI_ {W : World} {p : Nat} {u0 u1 u2 u3 v0 v1 v2 v3 z0 z1 z2 z3 : Value} (a b c : Rat) (h1 : RatV W (.agg #[u0,u1,u2,u3]) a) (h2 : RatV W (.agg #[v0,v1,v2,v3]) b) (h3 : RatV W (.agg #[z0,z1,z2,z3]) c) (hb : W.heap[p]? = some (.cells #[u0,u1,u2,u3,v0,v1,v2,v3,z0,z1,z2,z3] 28 (0,0))) : QSl W (some ⟨p,0,none⟩) 3 [a,b,c]:=by
 refine ⟨rfl,Or.inr ⟨p,_,rfl,hb,fun i h=>?_⟩⟩
 have hi : i = 0 ∨ i = 1 ∨ i = 2:=by simp at h; omega
 rcases hi with rfl | rfl | rfl
 · exact ⟨u0,u1,u2,u3,rfl,rfl,rfl,rfl,h1⟩
 · exact ⟨v0,v1,v2,v3,rfl,rfl,rfl,rfl,h2⟩
 · exact ⟨z0,z1,z2,z3,rfl,rfl,rfl,rfl,h3⟩
set_option maxHeartbeats 16000000 in
theorem ex_ (w : World) (s t : ByteArray) (hTab : Tab w) :
    Calls Tryz.prog 10 #[.string s,.string t] w (fun e w'=>e = .returned (.bool true) ∧ w.grownBy w' none):=by
 have HTB : Hid (∀ W,w.grownBy W none → Tab W):=fun W hW=>hTab.kept hW (by simp)
 clear hTab
 have hG : w.grownBy w none:=h_ _ _
 obtain ⟨A1,o1,lA1,p1⟩:=bP_ s
 have L1:=H_ lA1
 have P1:=H_ p1
 clear p1 lA1
 obtain ⟨B1,o2,lB1,p2⟩:=bP_ t
 have L2:=H_ lB1
 have P2:=H_ p2
 clear p2 lB1
 obtain ⟨S9,hS⟩ : ∃ r,A1 + B1 = r:=⟨_,rfl⟩
 have HS:=H_ hS
 have LS : Hid (S9.num.natAbs < B ^ 11 ∧ S9.den < B ^ 11):=⟨by rw [← hS]; exact aj_ (k:=5) (m:=5) L1.out.1 L1.out.2 L2.out.1 L2.out.2,by rw [← hS]; exact ad_ (k:=5) (m:=5) L1.out.2 L2.out.2⟩
 have LN : Hid ((-A1).num.natAbs < B ^ 5 ∧ (-A1).den < B ^ 5):=⟨eb_ L1.out.1,dm_ L1.out.2⟩
 have LM : Hid ((S9 * A1).num.natAbs < B ^ 22 ∧ (S9 * A1).den < B ^ 22):=⟨ai_ (k:=11) (m:=11) LS.out.1 (bw L1.out.1 (by omega)),ac_ (k:=11) (m:=11) LS.out.2 (bw L1.out.2 (by omega))⟩
 have LZ : Hid ((B1.den : Int).natAbs < B ^ 5):=by show _ < _; rw [Int.natAbs_natCast]; exact L2.out.2
 have LL : Hid (∀ r ∈ [S9,A1,B1],r.num.natAbs < B ^ 11 ∧ r.den < B ^ 11):=by
  intro r hr
  simp only [List.mem_cons,List.not_mem_nil,or_false] at hr
  rcases hr with rfl | rfl | rfl
  · exact LS.out
  · exact ⟨bw L1.out.1 (by omega),bw L1.out.2 (by omega)⟩
  · exact ⟨bw L2.out.1 (by omega),bw L2.out.2 (by omega)⟩
 have LL2 : Hid (∀ r ∈ [A1,B1,S9],r.num.natAbs < B ^ 11 ∧ r.den < B ^ 11):=by
  intro r hr
  simp only [List.mem_cons,List.not_mem_nil,or_false] at hr
  rcases hr with rfl | rfl | rfl
  · exact ⟨bw L1.out.1 (by omega),bw L1.out.2 (by omega)⟩
  · exact ⟨bw L2.out.1 (by omega),bw L2.out.2 (by omega)⟩
  · exact LS.out
 clear hS
 go_enter Tryz.func10,Tryz.ntmps10
 go_wp2_with fail
 refine (P1.out w (HTB.out _ hG)).mono ?_
 rintro e w1 ⟨_,_,rfl,⟨sa1,xa1,ba1,sa1',xa1',ba1',rfl,ha1,ha1'⟩,⟨gx1,sx1,lx1,cx1,gx1',sx1',lx1',cx1',nx1,dx1,rfl,hx1,hx1',ux1⟩,gw1⟩
 have qa1 : RatV w1 (.agg #[.slice sa1 xa1.length xa1.length,.bool ba1,.slice sa1' xa1'.length xa1'.length,.bool ba1']) (A1):=⟨sa1,xa1,ba1,sa1',xa1',ba1',rfl,ha1,ha1'⟩
 have yx1 : RQ w1 (.agg #[.int .i64 gx1,.slice sx1 lx1 cx1,.int .i64 gx1',.slice sx1' lx1' cx1']) A1 20:=⟨gx1,sx1,lx1,cx1,gx1',sx1',lx1',cx1',nx1,dx1,rfl,hx1,hx1',ux1⟩
 replace hG:=d_ hG gw1
 clear gw1
 clear ha1 ha1'
 clear hx1 hx1'
 have gbw1:=(l_ (wg_ w1 (.cells #[.slice sa1 xa1.length xa1.length,.bool ba1,.slice sa1' xa1'.length xa1'.length,.bool ba1'] 28) none) (.cells #[.int .i64 gx1,.slice sx1 lx1 cx1,.int .i64 gx1',.slice sx1' lx1' cx1'] 38))
 have Ba1:=a_ (wg_ _ (.cells #[.int .i64 gx1,.slice sx1 lx1 cx1,.int .i64 gx1',.slice sx1' lx1' cx1'] 38) none) (f_ w1 (.cells #[.slice sa1 xa1.length xa1.length,.bool ba1,.slice sa1' xa1'.length xa1'.length,.bool ba1'] 28) (w1.heap.size) rfl)
 have Bx1:=(f_ (w1.alloc (.cells #[.slice sa1 xa1.length xa1.length,.bool ba1,.slice sa1' xa1'.length xa1'.length,.bool ba1'] 28)) (.cells #[.int .i64 gx1,.slice sx1 lx1 cx1,.int .i64 gx1',.slice sx1' lx1' cx1'] 38) (w1.heap.size + 1) (by simp))
 have hzw1 : Hid (w.heap.size ≤ w1.heap.size):=H_ hG.size
 replace qa1:=qa1.kept gbw1
 replace yx1:=yx1.kept gbw1
 replace hG:=d_ hG gbw1
 clear gbw1
 obtain ⟨Ca10,Ca11,Ca12,Ca13,Fa10,Fa11,Fa12,Fa13⟩:=b_ Ba1
 obtain ⟨Cx10,Cx11,Cx12,Cx13,Fx10,Fx11,Fx12,Fx13⟩:=b_ Bx1
 go_wp2_with fail
 generalize ((w1.alloc (.cells #[.slice sa1 xa1.length xa1.length,.bool ba1,.slice sa1' xa1'.length xa1'.length,.bool ba1'] 28)).alloc (.cells #[.int .i64 gx1,.slice sx1 lx1 cx1,.int .i64 gx1',.slice sx1' lx1' cx1'] 38)) = w2 at *
 generalize w1.heap.size = aw1 at *
 replace hzw1:=hzw1.out
 clear Ca10 Fa10 Ca11 Fa11 Ca12 Fa12 Ca13 Fa13 Cx10 Fx10 Cx11 Fx11 Cx12 Fx12 Cx13 Fx13
 refine (P2.out w2 (HTB.out _ hG)).mono ?_
 rintro e w3 ⟨_,_,rfl,⟨sa2,xa2,ba2,sa2',xa2',ba2',rfl,ha2,ha2'⟩,⟨gx2,sx2,lx2,cx2,gx2',sx2',lx2',cx2',nx2,dx2,rfl,hx2,hx2',ux2⟩,gw3⟩
 have qa2 : RatV w3 (.agg #[.slice sa2 xa2.length xa2.length,.bool ba2,.slice sa2' xa2'.length xa2'.length,.bool ba2']) (B1):=⟨sa2,xa2,ba2,sa2',xa2',ba2',rfl,ha2,ha2'⟩
 have yx2 : RQ w3 (.agg #[.int .i64 gx2,.slice sx2 lx2 cx2,.int .i64 gx2',.slice sx2' lx2' cx2']) B1 20:=⟨gx2,sx2,lx2,cx2,gx2',sx2',lx2',cx2',nx2,dx2,rfl,hx2,hx2',ux2⟩
 replace Ba1:=a_ gw3 Ba1
 replace Bx1:=a_ gw3 Bx1
 replace qa1:=qa1.kept gw3
 replace yx1:=yx1.kept gw3
 replace hG:=d_ hG gw3
 clear gw3
 clear ha2 ha2'
 clear hx2 hx2'
 obtain ⟨Ca10,Ca11,Ca12,Ca13,Fa10,Fa11,Fa12,Fa13⟩:=b_ Ba1
 obtain ⟨Cx10,Cx11,Cx12,Cx13,Fx10,Fx11,Fx12,Fx13⟩:=b_ Bx1
 have gbw3:=(l_ (wg_ w3 (.cells #[.slice sa2 xa2.length xa2.length,.bool ba2,.slice sa2' xa2'.length xa2'.length,.bool ba2'] 28) none) (.cells #[.int .i64 gx2,.slice sx2 lx2 cx2,.int .i64 gx2',.slice sx2' lx2' cx2'] 38))
 have Ba2:=a_ (wg_ _ (.cells #[.int .i64 gx2,.slice sx2 lx2 cx2,.int .i64 gx2',.slice sx2' lx2' cx2'] 38) none) (f_ w3 (.cells #[.slice sa2 xa2.length xa2.length,.bool ba2,.slice sa2' xa2'.length xa2'.length,.bool ba2'] 28) (w3.heap.size) rfl)
 have Bx2:=(f_ (w3.alloc (.cells #[.slice sa2 xa2.length xa2.length,.bool ba2,.slice sa2' xa2'.length xa2'.length,.bool ba2'] 28)) (.cells #[.int .i64 gx2,.slice sx2 lx2 cx2,.int .i64 gx2',.slice sx2' lx2' cx2'] 38) (w3.heap.size + 1) (by simp))
 have hzw3 : Hid (w.heap.size ≤ w3.heap.size):=H_ hG.size
 have hla1w3 : Hid (aw1 < w3.heap.size):=H_ (Array.getElem?_eq_some_iff.1 Ba1).1
 have hlx1w3 : Hid (aw1 + 1 < w3.heap.size):=H_ (Array.getElem?_eq_some_iff.1 Bx1).1
 clear Ca10 Fa10 Ca11 Fa11 Ca12 Fa12 Ca13 Fa13 Cx10 Fx10 Cx11 Fx11 Cx12 Fx12 Cx13 Fx13
 replace Ba1:=a_ gbw3 Ba1
 replace Bx1:=a_ gbw3 Bx1
 replace qa1:=qa1.kept gbw3
 replace yx1:=yx1.kept gbw3
 replace qa2:=qa2.kept gbw3
 replace yx2:=yx2.kept gbw3
 replace hG:=d_ hG gbw3
 clear gbw3
 obtain ⟨Ca10,Ca11,Ca12,Ca13,Fa10,Fa11,Fa12,Fa13⟩:=b_ Ba1
 obtain ⟨Cx10,Cx11,Cx12,Cx13,Fx10,Fx11,Fx12,Fx13⟩:=b_ Bx1
 obtain ⟨Ca20,Ca21,Ca22,Ca23,Fa20,Fa21,Fa22,Fa23⟩:=b_ Ba2
 obtain ⟨Cx20,Cx21,Cx22,Cx23,Fx20,Fx21,Fx22,Fx23⟩:=b_ Bx2
 go_wp2_with fail
 cases o1
 · skip
   generalize ((w3.alloc (.cells #[.slice sa2 xa2.length xa2.length,.bool ba2,.slice sa2' xa2'.length xa2'.length,.bool ba2'] 28)).alloc (.cells #[.int .i64 gx2,.slice sx2 lx2 cx2,.int .i64 gx2',.slice sx2' lx2' cx2'] 38)) = w4 at *
   generalize w3.heap.size = aw3 at *
   replace hzw3:=hzw3.out
   replace hla1w3:=hla1w3.out
   replace hlx1w3:=hlx1w3.out
   clear Ca10 Fa10 Ca11 Fa11 Ca12 Fa12 Ca13 Fa13 Cx10 Fx10 Cx11 Fx11 Cx12 Fx12 Cx13 Fx13 Ca20 Fa20 Ca21 Fa21 Ca22 Fa22 Ca23 Fa23 Cx20 Fx20 Cx21 Fx21 Cx22 Fx22 Cx23 Fx23
   refine (A_ w4 (HTB.out _ hG)).mono ?_
   rintro e o0w5 ⟨rfl,go0w5⟩
   replace Ba1:=a_ go0w5 Ba1
   replace Bx1:=a_ go0w5 Bx1
   replace Ba2:=a_ go0w5 Ba2
   replace Bx2:=a_ go0w5 Bx2
   replace hG:=d_ hG go0w5
   clear go0w5
   obtain ⟨Ca10,Ca11,Ca12,Ca13,Fa10,Fa11,Fa12,Fa13⟩:=b_ Ba1
   obtain ⟨Cx10,Cx11,Cx12,Cx13,Fx10,Fx11,Fx12,Fx13⟩:=b_ Bx1
   obtain ⟨Ca20,Ca21,Ca22,Ca23,Fa20,Fa21,Fa22,Fa23⟩:=b_ Ba2
   obtain ⟨Cx20,Cx21,Cx22,Cx23,Fx20,Fx21,Fx22,Fx23⟩:=b_ Bx2
   go_wp2_with fail
   clear Ca10 Fa10 Ca11 Fa11 Ca12 Fa12 Ca13 Fa13 Cx10 Fx10 Cx11 Fx11 Cx12 Fx12 Cx13 Fx13 Ca20 Fa20 Ca21 Fa21 Ca22 Fa22 Ca23 Fa23 Cx20 Fx20 Cx21 Fx21 Cx22 Fx22 Cx23 Fx23
   refine (A_ o0w5 (HTB.out _ hG)).mono ?_
   rintro e o0w6 ⟨rfl,go0w6⟩
   replace Ba1:=a_ go0w6 Ba1
   replace Bx1:=a_ go0w6 Bx1
   replace Ba2:=a_ go0w6 Ba2
   replace Bx2:=a_ go0w6 Bx2
   replace hG:=d_ hG go0w6
   clear go0w6
   obtain ⟨Ca10,Ca11,Ca12,Ca13,Fa10,Fa11,Fa12,Fa13⟩:=b_ Ba1
   obtain ⟨Cx10,Cx11,Cx12,Cx13,Fx10,Fx11,Fx12,Fx13⟩:=b_ Bx1
   obtain ⟨Ca20,Ca21,Ca22,Ca23,Fa20,Fa21,Fa22,Fa23⟩:=b_ Ba2
   obtain ⟨Cx20,Cx21,Cx22,Cx23,Fx20,Fx21,Fx22,Fx23⟩:=b_ Bx2
   go_wp2_with fail
   go_ret
   exact ⟨by first | rfl | simp,hG⟩
 cases o2
 · skip
   generalize ((w3.alloc (.cells #[.slice sa2 xa2.length xa2.length,.bool ba2,.slice sa2' xa2'.length xa2'.length,.bool ba2'] 28)).alloc (.cells #[.int .i64 gx2,.slice sx2 lx2 cx2,.int .i64 gx2',.slice sx2' lx2' cx2'] 38)) = w4 at *
   generalize w3.heap.size = aw3 at *
   replace hzw3:=hzw3.out
   replace hla1w3:=hla1w3.out
   replace hlx1w3:=hlx1w3.out
   clear Ca10 Fa10 Ca11 Fa11 Ca12 Fa12 Ca13 Fa13 Cx10 Fx10 Cx11 Fx11 Cx12 Fx12 Cx13 Fx13 Ca20 Fa20 Ca21 Fa21 Ca22 Fa22 Ca23 Fa23 Cx20 Fx20 Cx21 Fx21 Cx22 Fx22 Cx23 Fx23
   refine (A_ w4 (HTB.out _ hG)).mono ?_
   rintro e o1w5 ⟨rfl,go1w5⟩
   replace Ba1:=a_ go1w5 Ba1
   replace Bx1:=a_ go1w5 Bx1
   replace Ba2:=a_ go1w5 Ba2
   replace Bx2:=a_ go1w5 Bx2
   replace hG:=d_ hG go1w5
   clear go1w5
   obtain ⟨Ca10,Ca11,Ca12,Ca13,Fa10,Fa11,Fa12,Fa13⟩:=b_ Ba1
   obtain ⟨Cx10,Cx11,Cx12,Cx13,Fx10,Fx11,Fx12,Fx13⟩:=b_ Bx1
   obtain ⟨Ca20,Ca21,Ca22,Ca23,Fa20,Fa21,Fa22,Fa23⟩:=b_ Ba2
   obtain ⟨Cx20,Cx21,Cx22,Cx23,Fx20,Fx21,Fx22,Fx23⟩:=b_ Bx2
   go_wp2_with fail
   clear Ca10 Fa10 Ca11 Fa11 Ca12 Fa12 Ca13 Fa13 Cx10 Fx10 Cx11 Fx11 Cx12 Fx12 Cx13 Fx13 Ca20 Fa20 Ca21 Fa21 Ca22 Fa22 Ca23 Fa23 Cx20 Fx20 Cx21 Fx21 Cx22 Fx22 Cx23 Fx23
   refine (A_ o1w5 (HTB.out _ hG)).mono ?_
   rintro e o1w6 ⟨rfl,go1w6⟩
   replace Ba1:=a_ go1w6 Ba1
   replace Bx1:=a_ go1w6 Bx1
   replace Ba2:=a_ go1w6 Ba2
   replace Bx2:=a_ go1w6 Bx2
   replace hG:=d_ hG go1w6
   clear go1w6
   obtain ⟨Ca10,Ca11,Ca12,Ca13,Fa10,Fa11,Fa12,Fa13⟩:=b_ Ba1
   obtain ⟨Cx10,Cx11,Cx12,Cx13,Fx10,Fx11,Fx12,Fx13⟩:=b_ Bx1
   obtain ⟨Ca20,Ca21,Ca22,Ca23,Fa20,Fa21,Fa22,Fa23⟩:=b_ Ba2
   obtain ⟨Cx20,Cx21,Cx22,Cx23,Fx20,Fx21,Fx22,Fx23⟩:=b_ Bx2
   go_wp2_with fail
   go_ret
   exact ⟨by first | rfl | simp,hG⟩
 generalize ((w3.alloc (.cells #[.slice sa2 xa2.length xa2.length,.bool ba2,.slice sa2' xa2'.length xa2'.length,.bool ba2'] 28)).alloc (.cells #[.int .i64 gx2,.slice sx2 lx2 cx2,.int .i64 gx2',.slice sx2' lx2' cx2'] 38)) = w4 at *
 generalize w3.heap.size = aw3 at *
 replace hzw3:=hzw3.out
 replace hla1w3:=hla1w3.out
 replace hlx1w3:=hlx1w3.out
 clear Ca10 Fa10 Ca11 Fa11 Ca12 Fa12 Ca13 Fa13 Cx10 Fx10 Cx11 Fx11 Cx12 Fx12 Cx13 Fx13 Ca20 Fa20 Ca21 Fa21 Ca22 Fa22 Ca23 Fa23 Cx20 Fx20 Cx21 Fx21 Cx22 Fx22 Cx23 Fx23
 refine (A_ w4 (HTB.out _ hG)).mono ?_
 rintro e w5 ⟨rfl,gw5⟩
 replace Ba1:=a_ gw5 Ba1
 replace Bx1:=a_ gw5 Bx1
 replace Ba2:=a_ gw5 Ba2
 replace Bx2:=a_ gw5 Bx2
 replace qa1:=qa1.kept gw5
 replace yx1:=yx1.kept gw5
 replace qa2:=qa2.kept gw5
 replace yx2:=yx2.kept gw5
 replace hG:=d_ hG gw5
 clear gw5
 obtain ⟨Ca10,Ca11,Ca12,Ca13,Fa10,Fa11,Fa12,Fa13⟩:=b_ Ba1
 obtain ⟨Cx10,Cx11,Cx12,Cx13,Fx10,Fx11,Fx12,Fx13⟩:=b_ Bx1
 obtain ⟨Ca20,Ca21,Ca22,Ca23,Fa20,Fa21,Fa22,Fa23⟩:=b_ Ba2
 obtain ⟨Cx20,Cx21,Cx22,Cx23,Fx20,Fx21,Fx22,Fx23⟩:=b_ Bx2
 go_wp2_with fail
 clear Ca10 Fa10 Ca11 Fa11 Ca12 Fa12 Ca13 Fa13 Cx10 Fx10 Cx11 Fx11 Cx12 Fx12 Cx13 Fx13 Ca20 Fa20 Ca21 Fa21 Ca22 Fa22 Ca23 Fa23 Cx20 Fx20 Cx21 Fx21 Cx22 Fx22 Cx23 Fx23
 refine (ah_ w5 _ _ A1 B1 5 qa1 qa2 (by omega) L1.out.1 L1.out.2 L2.out.1 L2.out.2 (HTB.out _ hG)).mono ?_
 rintro e w6 ⟨_,rfl,⟨sc,xc,bc,sc',xc',bc',rfl,hc,hc'⟩,gw6⟩
 rw [HS.out] at hc hc'
 have qc : RatV w6 (.agg #[.slice sc xc.length xc.length,.bool bc,.slice sc' xc'.length xc'.length,.bool bc']) (S9):=⟨sc,xc,bc,sc',xc',bc',rfl,hc,hc'⟩
 replace Ba1:=a_ gw6 Ba1
 replace Bx1:=a_ gw6 Bx1
 replace Ba2:=a_ gw6 Ba2
 replace Bx2:=a_ gw6 Bx2
 replace qa1:=qa1.kept gw6
 replace yx1:=yx1.kept gw6
 replace qa2:=qa2.kept gw6
 replace yx2:=yx2.kept gw6
 replace hG:=d_ hG gw6
 clear gw6
 clear hc hc'
 obtain ⟨Ca10,Ca11,Ca12,Ca13,Fa10,Fa11,Fa12,Fa13⟩:=b_ Ba1
 obtain ⟨Cx10,Cx11,Cx12,Cx13,Fx10,Fx11,Fx12,Fx13⟩:=b_ Bx1
 obtain ⟨Ca20,Ca21,Ca22,Ca23,Fa20,Fa21,Fa22,Fa23⟩:=b_ Ba2
 obtain ⟨Cx20,Cx21,Cx22,Cx23,Fx20,Fx21,Fx22,Fx23⟩:=b_ Bx2
 have gbw6:=(wg_ w6 (.cells #[.slice sc xc.length xc.length,.bool bc,.slice sc' xc'.length xc'.length,.bool bc'] 28) none)
 have Bc:=(f_ w6 (.cells #[.slice sc xc.length xc.length,.bool bc,.slice sc' xc'.length xc'.length,.bool bc'] 28) (w6.heap.size) rfl)
 have hzw6 : Hid (w.heap.size ≤ w6.heap.size):=H_ hG.size
 have hla1w6 : Hid (aw1 < w6.heap.size):=H_ (Array.getElem?_eq_some_iff.1 Ba1).1
 have hlx1w6 : Hid (aw1 + 1 < w6.heap.size):=H_ (Array.getElem?_eq_some_iff.1 Bx1).1
 have hla2w6 : Hid (aw3 < w6.heap.size):=H_ (Array.getElem?_eq_some_iff.1 Ba2).1
 have hlx2w6 : Hid (aw3 + 1 < w6.heap.size):=H_ (Array.getElem?_eq_some_iff.1 Bx2).1
 clear Ca10 Fa10 Ca11 Fa11 Ca12 Fa12 Ca13 Fa13 Cx10 Fx10 Cx11 Fx11 Cx12 Fx12 Cx13 Fx13 Ca20 Fa20 Ca21 Fa21 Ca22 Fa22 Ca23 Fa23 Cx20 Fx20 Cx21 Fx21 Cx22 Fx22 Cx23 Fx23
 replace Ba1:=a_ gbw6 Ba1
 replace Bx1:=a_ gbw6 Bx1
 replace Ba2:=a_ gbw6 Ba2
 replace Bx2:=a_ gbw6 Bx2
 replace qa1:=qa1.kept gbw6
 replace yx1:=yx1.kept gbw6
 replace qa2:=qa2.kept gbw6
 replace yx2:=yx2.kept gbw6
 replace qc:=qc.kept gbw6
 replace hG:=d_ hG gbw6
 clear gbw6
 obtain ⟨Ca10,Ca11,Ca12,Ca13,Fa10,Fa11,Fa12,Fa13⟩:=b_ Ba1
 obtain ⟨Cx10,Cx11,Cx12,Cx13,Fx10,Fx11,Fx12,Fx13⟩:=b_ Bx1
 obtain ⟨Ca20,Ca21,Ca22,Ca23,Fa20,Fa21,Fa22,Fa23⟩:=b_ Ba2
 obtain ⟨Cx20,Cx21,Cx22,Cx23,Fx20,Fx21,Fx22,Fx23⟩:=b_ Bx2
 obtain ⟨Cc0,Cc1,Cc2,Cc3,Fc0,Fc1,Fc2,Fc3⟩:=b_ Bc
 go_wp2_with fail
 generalize (w6.alloc (.cells #[.slice sc xc.length xc.length,.bool bc,.slice sc' xc'.length xc'.length,.bool bc'] 28)) = w7 at *
 generalize w6.heap.size = aw6 at *
 replace hzw6:=hzw6.out
 replace hla1w6:=hla1w6.out
 replace hlx1w6:=hlx1w6.out
 replace hla2w6:=hla2w6.out
 replace hlx2w6:=hlx2w6.out
 clear Ca10 Fa10 Ca11 Fa11 Ca12 Fa12 Ca13 Fa13 Cx10 Fx10 Cx11 Fx11 Cx12 Fx12 Cx13 Fx13 Ca20 Fa20 Ca21 Fa21 Ca22 Fa22 Ca23 Fa23 Cx20 Fx20 Cx21 Fx21 Cx22 Fx22 Cx23 Fx23 Cc0 Fc0 Cc1 Fc1 Cc2 Fc2 Cc3 Fc3
 refine (aH_ w7 _ S9 11 qc (by omega) LS.out.1 LS.out.2).mono ?_
 rintro e w8 ⟨t9,rfl,ht9,gw8⟩
 have HT9:=H_ ht9
 clear ht9
 replace Ba1:=a_ gw8 Ba1
 replace Bx1:=a_ gw8 Bx1
 replace Ba2:=a_ gw8 Ba2
 replace Bx2:=a_ gw8 Bx2
 replace Bc:=a_ gw8 Bc
 replace qa1:=qa1.kept gw8
 replace yx1:=yx1.kept gw8
 replace qa2:=qa2.kept gw8
 replace yx2:=yx2.kept gw8
 replace qc:=qc.kept gw8
 replace hG:=d_ hG gw8
 clear gw8
 obtain ⟨Ca10,Ca11,Ca12,Ca13,Fa10,Fa11,Fa12,Fa13⟩:=b_ Ba1
 obtain ⟨Cx10,Cx11,Cx12,Cx13,Fx10,Fx11,Fx12,Fx13⟩:=b_ Bx1
 obtain ⟨Ca20,Ca21,Ca22,Ca23,Fa20,Fa21,Fa22,Fa23⟩:=b_ Ba2
 obtain ⟨Cx20,Cx21,Cx22,Cx23,Fx20,Fx21,Fx22,Fx23⟩:=b_ Bx2
 obtain ⟨Cc0,Cc1,Cc2,Cc3,Fc0,Fc1,Fc2,Fc3⟩:=b_ Bc
 go_wp2_with fail
 have HTr : Hid (∀ W,w8.grownBy W none → Tab W):=fun W hW=>HTB.out _ (d_ hG hW)
 go_region_held3 (fun w'=>w'.cell? ⟨aw6,0,none⟩ = some (.slice sc xc.length xc.length) ∧ w'.cell? ⟨aw6,1,none⟩ = some (.bool bc) ∧ w'.cell? ⟨aw6,2,none⟩ = some (.slice sc' xc'.length xc'.length) ∧ w'.cell? ⟨aw6,3,none⟩ = some (.bool bc') ∧ w'.cell? ⟨aw1,0,none⟩ = some (.slice sa1 xa1.length xa1.length) ∧ w'.cell? ⟨aw1,1,none⟩ = some (.bool ba1) ∧ w'.cell? ⟨aw1,2,none⟩ = some (.slice sa1' xa1'.length xa1'.length) ∧ w'.cell? ⟨aw1,3,none⟩ = some (.bool ba1') ∧ w'.cell? ⟨aw3,0,none⟩ = some (.slice sa2 xa2.length xa2.length) ∧ w'.cell? ⟨aw3,1,none⟩ = some (.bool ba2) ∧ w'.cell? ⟨aw3,2,none⟩ = some (.slice sa2' xa2'.length xa2'.length) ∧ w'.cell? ⟨aw3,3,none⟩ = some (.bool ba2'))
  (first | assumption | exact ⟨Cc0,Cc1,Cc2,Cc3,Ca10,Ca11,Ca12,Ca13,Ca20,Ca21,Ca22,Ca23⟩ | go_keep)
  (first
    | (go_at_call 37; (with_reducible refine (ag_ w8.drew _ _ S9 A1 11 (qc.kept (k_ (h_ _ _))) (qa1.kept (k_ (h_ _ _))) (by omega) LS.out.1 LS.out.2 (bw L1.out.1 (by omega)) (bw L1.out.2 (by omega)) (HTr.out _ (k_ (h_ _ _)))).mono ?_); rintro e w9_1 ⟨v1,rfl,n1,gw9_1⟩; have hGw9_1:=o_ w8 gw9_1 rfl rfl rfl rfl; have hSw9_1:=(n_ (hGw9_1.cell Cc0 (by simp)) (n_ (hGw9_1.cell Cc1 (by simp)) (n_ (hGw9_1.cell Cc2 (by simp)) (n_ (hGw9_1.cell Cc3 (by simp)) (n_ (hGw9_1.cell Ca10 (by simp)) (n_ (hGw9_1.cell Ca11 (by simp)) (n_ (hGw9_1.cell Ca12 (by simp)) (n_ (hGw9_1.cell Ca13 (by simp)) (n_ (hGw9_1.cell Ca20 (by simp)) (n_ (hGw9_1.cell Ca21 (by simp)) (n_ (hGw9_1.cell Ca22 (by simp)) (hGw9_1.cell Ca23 (by simp))))))))))))); clear gw9_1)
    | (go_at_call 35; (with_reducible refine (bS_ w9_1 _ _ (S9 * A1) B1 22 n1 (qa2.kept hGw9_1) (by omega) LM.out.1 LM.out.2 (bw L2.out.1 (by omega)) (bw L2.out.2 (by omega)) (HTr.out _ hGw9_1)).mono ?_); rintro e w9_2 ⟨v2,rfl,n2,gw9_2⟩; have hGw9_2:=d_ hGw9_1 gw9_2; replace n1:=n1.kept gw9_2; have hSw9_2:=(n_ (hGw9_2.cell Cc0 (by simp)) (n_ (hGw9_2.cell Cc1 (by simp)) (n_ (hGw9_2.cell Cc2 (by simp)) (n_ (hGw9_2.cell Cc3 (by simp)) (n_ (hGw9_2.cell Ca10 (by simp)) (n_ (hGw9_2.cell Ca11 (by simp)) (n_ (hGw9_2.cell Ca12 (by simp)) (n_ (hGw9_2.cell Ca13 (by simp)) (n_ (hGw9_2.cell Ca20 (by simp)) (n_ (hGw9_2.cell Ca21 (by simp)) (n_ (hGw9_2.cell Ca22 (by simp)) (hGw9_2.cell Ca23 (by simp))))))))))))); clear gw9_2))
 replace Ba1:=a_ hGw9_2 Ba1
 replace Bx1:=a_ hGw9_2 Bx1
 replace Ba2:=a_ hGw9_2 Ba2
 replace Bx2:=a_ hGw9_2 Bx2
 replace Bc:=a_ hGw9_2 Bc
 replace qa1:=qa1.kept hGw9_2
 replace yx1:=yx1.kept hGw9_2
 replace qa2:=qa2.kept hGw9_2
 replace yx2:=yx2.kept hGw9_2
 replace qc:=qc.kept hGw9_2
 replace hG:=d_ hG hGw9_2
 clear Ca10 Fa10 Ca11 Fa11 Ca12 Fa12 Ca13 Fa13 Cx10 Fx10 Cx11 Fx11 Cx12 Fx12 Cx13 Fx13 Ca20 Fa20 Ca21 Fa21 Ca22 Fa22 Ca23 Fa23 Cx20 Fx20 Cx21 Fx21 Cx22 Fx22 Cx23 Fx23 Cc0 Fc0 Cc1 Fc1 Cc2 Fc2 Cc3 Fc3
 obtain ⟨Ca10,Ca11,Ca12,Ca13,Fa10,Fa11,Fa12,Fa13⟩:=b_ Ba1
 obtain ⟨Cx10,Cx11,Cx12,Cx13,Fx10,Fx11,Fx12,Fx13⟩:=b_ Bx1
 obtain ⟨Ca20,Ca21,Ca22,Ca23,Fa20,Fa21,Fa22,Fa23⟩:=b_ Ba2
 obtain ⟨Cx20,Cx21,Cx22,Cx23,Fx20,Fx21,Fx22,Fx23⟩:=b_ Bx2
 obtain ⟨Cc0,Cc1,Cc2,Cc3,Fc0,Fc1,Fc2,Fc3⟩:=b_ Bc
 go_wp2_with fail
 clear Ca10 Fa10 Ca11 Fa11 Ca12 Fa12 Ca13 Fa13 Cx10 Fx10 Cx11 Fx11 Cx12 Fx12 Cx13 Fx13 Ca20 Fa20 Ca21 Fa21 Ca22 Fa22 Ca23 Fa23 Cx20 Fx20 Cx21 Fx21 Cx22 Fx22 Cx23 Fx23 Cc0 Fc0 Cc1 Fc1 Cc2 Fc2 Cc3 Fc3
 refine (ct_ w9_2 _ _ A1 B1 5 qa1 qa2 (by omega) L1.out.1 L1.out.2 L2.out.1 L2.out.2 (HTB.out _ hG)).mono ?_
 rintro e w10 ⟨v3,rfl,n3,gw10⟩
 generalize (if B1 = 0 then (5 : Int) else 0) = k3_
 replace Ba1:=a_ gw10 Ba1
 replace Bx1:=a_ gw10 Bx1
 replace Ba2:=a_ gw10 Ba2
 replace Bx2:=a_ gw10 Bx2
 replace Bc:=a_ gw10 Bc
 replace qa1:=qa1.kept gw10
 replace yx1:=yx1.kept gw10
 replace qa2:=qa2.kept gw10
 replace yx2:=yx2.kept gw10
 replace qc:=qc.kept gw10
 replace hG:=d_ hG gw10
 clear gw10
 obtain ⟨Ca10,Ca11,Ca12,Ca13,Fa10,Fa11,Fa12,Fa13⟩:=b_ Ba1
 obtain ⟨Cx10,Cx11,Cx12,Cx13,Fx10,Fx11,Fx12,Fx13⟩:=b_ Bx1
 obtain ⟨Ca20,Ca21,Ca22,Ca23,Fa20,Fa21,Fa22,Fa23⟩:=b_ Ba2
 obtain ⟨Cx20,Cx21,Cx22,Cx23,Fx20,Fx21,Fx22,Fx23⟩:=b_ Bx2
 obtain ⟨Cc0,Cc1,Cc2,Cc3,Fc0,Fc1,Fc2,Fc3⟩:=b_ Bc
 go_wp2_with fail
 clear Ca10 Fa10 Ca11 Fa11 Ca12 Fa12 Ca13 Fa13 Cx10 Fx10 Cx11 Fx11 Cx12 Fx12 Cx13 Fx13 Ca20 Fa20 Ca21 Fa21 Ca22 Fa22 Ca23 Fa23 Cx20 Fx20 Cx21 Fx21 Cx22 Fx22 Cx23 Fx23 Cc0 Fc0 Cc1 Fc1 Cc2 Fc2 Cc3 Fc3
 refine (ct_ w10 _ _ B1 A1 5 qa2 qa1 (by omega) L2.out.1 L2.out.2 L1.out.1 L1.out.2 (HTB.out _ hG)).mono ?_
 rintro e w11 ⟨v4,rfl,n4,gw11⟩
 generalize (if A1 = 0 then (5 : Int) else 0) = k4_
 replace Ba1:=a_ gw11 Ba1
 replace Bx1:=a_ gw11 Bx1
 replace Ba2:=a_ gw11 Ba2
 replace Bx2:=a_ gw11 Bx2
 replace Bc:=a_ gw11 Bc
 replace qa1:=qa1.kept gw11
 replace yx1:=yx1.kept gw11
 replace qa2:=qa2.kept gw11
 replace yx2:=yx2.kept gw11
 replace qc:=qc.kept gw11
 replace hG:=d_ hG gw11
 clear gw11
 obtain ⟨Ca10,Ca11,Ca12,Ca13,Fa10,Fa11,Fa12,Fa13⟩:=b_ Ba1
 obtain ⟨Cx10,Cx11,Cx12,Cx13,Fx10,Fx11,Fx12,Fx13⟩:=b_ Bx1
 obtain ⟨Ca20,Ca21,Ca22,Ca23,Fa20,Fa21,Fa22,Fa23⟩:=b_ Ba2
 obtain ⟨Cx20,Cx21,Cx22,Cx23,Fx20,Fx21,Fx22,Fx23⟩:=b_ Bx2
 obtain ⟨Cc0,Cc1,Cc2,Cc3,Fc0,Fc1,Fc2,Fc3⟩:=b_ Bc
 go_wp2_with fail
 clear Ca10 Fa10 Ca11 Fa11 Ca12 Fa12 Ca13 Fa13 Cx10 Fx10 Cx11 Fx11 Cx12 Fx12 Cx13 Fx13 Ca20 Fa20 Ca21 Fa21 Ca22 Fa22 Ca23 Fa23 Cx20 Fx20 Cx21 Fx21 Cx22 Fx22 Cx23 Fx23 Cc0 Fc0 Cc1 Fc1 Cc2 Fc2 Cc3 Fc3
 refine (dM_ w11 _ A1 5 qa1 (by omega) L1.out.1 L1.out.2).mono ?_
 rintro e w12 ⟨v5,rfl,n5,gw12⟩
 replace Ba1:=a_ gw12 Ba1
 replace Bx1:=a_ gw12 Bx1
 replace Ba2:=a_ gw12 Ba2
 replace Bx2:=a_ gw12 Bx2
 replace Bc:=a_ gw12 Bc
 replace qa1:=qa1.kept gw12
 replace yx1:=yx1.kept gw12
 replace qa2:=qa2.kept gw12
 replace yx2:=yx2.kept gw12
 replace qc:=qc.kept gw12
 replace hG:=d_ hG gw12
 clear gw12
 obtain ⟨Ca10,Ca11,Ca12,Ca13,Fa10,Fa11,Fa12,Fa13⟩:=b_ Ba1
 obtain ⟨Cx10,Cx11,Cx12,Cx13,Fx10,Fx11,Fx12,Fx13⟩:=b_ Bx1
 obtain ⟨Ca20,Ca21,Ca22,Ca23,Fa20,Fa21,Fa22,Fa23⟩:=b_ Ba2
 obtain ⟨Cx20,Cx21,Cx22,Cx23,Fx20,Fx21,Fx22,Fx23⟩:=b_ Bx2
 obtain ⟨Cc0,Cc1,Cc2,Cc3,Fc0,Fc1,Fc2,Fc3⟩:=b_ Bc
 go_wp2_with fail
 clear Ca10 Fa10 Ca11 Fa11 Ca12 Fa12 Ca13 Fa13 Cx10 Fx10 Cx11 Fx11 Cx12 Fx12 Cx13 Fx13 Ca20 Fa20 Ca21 Fa21 Ca22 Fa22 Ca23 Fa23 Cx20 Fx20 Cx21 Fx21 Cx22 Fx22 Cx23 Fx23 Cc0 Fc0 Cc1 Fc1 Cc2 Fc2 Cc3 Fc3
 refine (E_ w12 _ (-A1) 5 n5 (by omega) LN.out.1 LN.out.2).mono ?_
 rintro e w13 ⟨v6,rfl,n6,gw13⟩
 replace Ba1:=a_ gw13 Ba1
 replace Bx1:=a_ gw13 Bx1
 replace Ba2:=a_ gw13 Ba2
 replace Bx2:=a_ gw13 Bx2
 replace Bc:=a_ gw13 Bc
 replace qa1:=qa1.kept gw13
 replace yx1:=yx1.kept gw13
 replace qa2:=qa2.kept gw13
 replace yx2:=yx2.kept gw13
 replace qc:=qc.kept gw13
 replace hG:=d_ hG gw13
 clear gw13
 obtain ⟨Ca10,Ca11,Ca12,Ca13,Fa10,Fa11,Fa12,Fa13⟩:=b_ Ba1
 obtain ⟨Cx10,Cx11,Cx12,Cx13,Fx10,Fx11,Fx12,Fx13⟩:=b_ Bx1
 obtain ⟨Ca20,Ca21,Ca22,Ca23,Fa20,Fa21,Fa22,Fa23⟩:=b_ Ba2
 obtain ⟨Cx20,Cx21,Cx22,Cx23,Fx20,Fx21,Fx22,Fx23⟩:=b_ Bx2
 obtain ⟨Cc0,Cc1,Cc2,Cc3,Fc0,Fc1,Fc2,Fc3⟩:=b_ Bc
 go_wp2_with fail
 clear n5
 clear Ca10 Fa10 Ca11 Fa11 Ca12 Fa12 Ca13 Fa13 Cx10 Fx10 Cx11 Fx11 Cx12 Fx12 Cx13 Fx13 Ca20 Fa20 Ca21 Fa21 Ca22 Fa22 Ca23 Fa23 Cx20 Fx20 Cx21 Fx21 Cx22 Fx22 Cx23 Fx23 Cc0 Fc0 Cc1 Fc1 Cc2 Fc2 Cc3 Fc3
 refine (ax_ w13 _ B1 5 qa2 (by omega) L2.out.1 L2.out.2).mono ?_
 rintro e w14 ⟨v7,rfl,n7,gw14⟩
 replace Ba1:=a_ gw14 Ba1
 replace Bx1:=a_ gw14 Bx1
 replace Ba2:=a_ gw14 Ba2
 replace Bx2:=a_ gw14 Bx2
 replace Bc:=a_ gw14 Bc
 replace qa1:=qa1.kept gw14
 replace yx1:=yx1.kept gw14
 replace qa2:=qa2.kept gw14
 replace yx2:=yx2.kept gw14
 replace qc:=qc.kept gw14
 replace hG:=d_ hG gw14
 clear gw14
 obtain ⟨Ca10,Ca11,Ca12,Ca13,Fa10,Fa11,Fa12,Fa13⟩:=b_ Ba1
 obtain ⟨Cx10,Cx11,Cx12,Cx13,Fx10,Fx11,Fx12,Fx13⟩:=b_ Bx1
 obtain ⟨Ca20,Ca21,Ca22,Ca23,Fa20,Fa21,Fa22,Fa23⟩:=b_ Ba2
 obtain ⟨Cx20,Cx21,Cx22,Cx23,Fx20,Fx21,Fx22,Fx23⟩:=b_ Bx2
 obtain ⟨Cc0,Cc1,Cc2,Cc3,Fc0,Fc1,Fc2,Fc3⟩:=b_ Bc
 go_wp2_with fail
 have gl1:=wg_ w14 (.cells #[.slice sc xc.length xc.length,.bool bc,.slice sc' xc'.length xc'.length,.bool bc',.slice sa1 xa1.length xa1.length,.bool ba1,.slice sa1' xa1'.length xa1'.length,.bool ba1',.slice sa2 xa2.length xa2.length,.bool ba2,.slice sa2' xa2'.length xa2'.length,.bool ba2'] 28) none
 have K1 : Hid (QSl (w14.alloc (.cells #[.slice sc xc.length xc.length,.bool bc,.slice sc' xc'.length xc'.length,.bool bc',.slice sa1 xa1.length xa1.length,.bool ba1,.slice sa1' xa1'.length xa1'.length,.bool ba1',.slice sa2 xa2.length xa2.length,.bool ba2,.slice sa2' xa2'.length xa2'.length,.bool ba2'] 28)) (some ⟨w14.heap.size,0,none⟩) 3 [S9,A1,B1]):=gI_ _ _ _ (qc.kept gl1) (qa1.kept gl1) (qa2.kept gl1) (f_ w14 _ _ rfl)
 clear gl1
 have gn1:=(wg_ w14 (.cells #[.slice sc xc.length xc.length,.bool bc,.slice sc' xc'.length xc'.length,.bool bc',.slice sa1 xa1.length xa1.length,.bool ba1,.slice sa1' xa1'.length xa1'.length,.bool ba1',.slice sa2 xa2.length xa2.length,.bool ba2,.slice sa2' xa2'.length xa2'.length,.bool ba2'] 28) none)
 clear Ca10 Fa10 Ca11 Fa11 Ca12 Fa12 Ca13 Fa13 Cx10 Fx10 Cx11 Fx11 Cx12 Fx12 Cx13 Fx13 Ca20 Fa20 Ca21 Fa21 Ca22 Fa22 Ca23 Fa23 Cx20 Fx20 Cx21 Fx21 Cx22 Fx22 Cx23 Fx23 Cc0 Fc0 Cc1 Fc1 Cc2 Fc2 Cc3 Fc3
 replace Ba1:=a_ gn1 Ba1
 replace Bx1:=a_ gn1 Bx1
 replace Ba2:=a_ gn1 Ba2
 replace Bx2:=a_ gn1 Bx2
 replace Bc:=a_ gn1 Bc
 replace qa1:=qa1.kept gn1
 replace yx1:=yx1.kept gn1
 replace qa2:=qa2.kept gn1
 replace yx2:=yx2.kept gn1
 replace qc:=qc.kept gn1
 replace hG:=d_ hG gn1
 clear gn1
 obtain ⟨Ca10,Ca11,Ca12,Ca13,Fa10,Fa11,Fa12,Fa13⟩:=b_ Ba1
 obtain ⟨Cx10,Cx11,Cx12,Cx13,Fx10,Fx11,Fx12,Fx13⟩:=b_ Bx1
 obtain ⟨Ca20,Ca21,Ca22,Ca23,Fa20,Fa21,Fa22,Fa23⟩:=b_ Ba2
 obtain ⟨Cx20,Cx21,Cx22,Cx23,Fx20,Fx21,Fx22,Fx23⟩:=b_ Bx2
 obtain ⟨Cc0,Cc1,Cc2,Cc3,Fc0,Fc1,Fc2,Fc3⟩:=b_ Bc
 go_wp2_with fail
 generalize (w14.alloc (.cells #[.slice sc xc.length xc.length,.bool bc,.slice sc' xc'.length xc'.length,.bool bc',.slice sa1 xa1.length xa1.length,.bool ba1,.slice sa1' xa1'.length xa1'.length,.bool ba1',.slice sa2 xa2.length xa2.length,.bool ba2,.slice sa2' xa2'.length xa2'.length,.bool ba2'] 28)) = w15 at *
 generalize w14.heap.size = aw14 at *
 clear Ca10 Fa10 Ca11 Fa11 Ca12 Fa12 Ca13 Fa13 Cx10 Fx10 Cx11 Fx11 Cx12 Fx12 Cx13 Fx13 Ca20 Fa20 Ca21 Fa21 Ca22 Fa22 Ca23 Fa23 Cx20 Fx20 Cx21 Fx21 Cx22 Fx22 Cx23 Fx23 Cc0 Fc0 Cc1 Fc1 Cc2 Fc2 Cc3 Fc3
 refine (hR_ w15 _ 3 3 [S9,A1,B1] 11 K1.out (by omega) (by omega) (by omega) LL.out).mono ?_
 rintro e w16 ⟨w1_,rfl,m1_,gw16⟩
 replace Ba1:=a_ gw16 Ba1
 replace Bx1:=a_ gw16 Bx1
 replace Ba2:=a_ gw16 Ba2
 replace Bx2:=a_ gw16 Bx2
 replace Bc:=a_ gw16 Bc
 replace qa1:=qa1.kept gw16
 replace yx1:=yx1.kept gw16
 replace qa2:=qa2.kept gw16
 replace yx2:=yx2.kept gw16
 replace qc:=qc.kept gw16
 replace hG:=d_ hG gw16
 clear gw16
 obtain ⟨Ca10,Ca11,Ca12,Ca13,Fa10,Fa11,Fa12,Fa13⟩:=b_ Ba1
 obtain ⟨Cx10,Cx11,Cx12,Cx13,Fx10,Fx11,Fx12,Fx13⟩:=b_ Bx1
 obtain ⟨Ca20,Ca21,Ca22,Ca23,Fa20,Fa21,Fa22,Fa23⟩:=b_ Ba2
 obtain ⟨Cx20,Cx21,Cx22,Cx23,Fx20,Fx21,Fx22,Fx23⟩:=b_ Bx2
 obtain ⟨Cc0,Cc1,Cc2,Cc3,Fc0,Fc1,Fc2,Fc3⟩:=b_ Bc
 go_wp2_with fail
 have gl2:=wg_ w16 (.cells #[.slice sa1 xa1.length xa1.length,.bool ba1,.slice sa1' xa1'.length xa1'.length,.bool ba1',.slice sa2 xa2.length xa2.length,.bool ba2,.slice sa2' xa2'.length xa2'.length,.bool ba2',.slice sc xc.length xc.length,.bool bc,.slice sc' xc'.length xc'.length,.bool bc'] 28) none
 have K2 : Hid (QSl (w16.alloc (.cells #[.slice sa1 xa1.length xa1.length,.bool ba1,.slice sa1' xa1'.length xa1'.length,.bool ba1',.slice sa2 xa2.length xa2.length,.bool ba2,.slice sa2' xa2'.length xa2'.length,.bool ba2',.slice sc xc.length xc.length,.bool bc,.slice sc' xc'.length xc'.length,.bool bc'] 28)) (some ⟨w16.heap.size,0,none⟩) 3 [A1,B1,S9]):=gI_ _ _ _ (qa1.kept gl2) (qa2.kept gl2) (qc.kept gl2) (f_ w16 _ _ rfl)
 clear gl2
 have gn2:=(wg_ w16 (.cells #[.slice sa1 xa1.length xa1.length,.bool ba1,.slice sa1' xa1'.length xa1'.length,.bool ba1',.slice sa2 xa2.length xa2.length,.bool ba2,.slice sa2' xa2'.length xa2'.length,.bool ba2',.slice sc xc.length xc.length,.bool bc,.slice sc' xc'.length xc'.length,.bool bc'] 28) none)
 clear Ca10 Fa10 Ca11 Fa11 Ca12 Fa12 Ca13 Fa13 Cx10 Fx10 Cx11 Fx11 Cx12 Fx12 Cx13 Fx13 Ca20 Fa20 Ca21 Fa21 Ca22 Fa22 Ca23 Fa23 Cx20 Fx20 Cx21 Fx21 Cx22 Fx22 Cx23 Fx23 Cc0 Fc0 Cc1 Fc1 Cc2 Fc2 Cc3 Fc3
 replace Ba1:=a_ gn2 Ba1
 replace Bx1:=a_ gn2 Bx1
 replace Ba2:=a_ gn2 Ba2
 replace Bx2:=a_ gn2 Bx2
 replace Bc:=a_ gn2 Bc
 replace qa1:=qa1.kept gn2
 replace yx1:=yx1.kept gn2
 replace qa2:=qa2.kept gn2
 replace yx2:=yx2.kept gn2
 replace qc:=qc.kept gn2
 replace hG:=d_ hG gn2
 clear gn2
 obtain ⟨Ca10,Ca11,Ca12,Ca13,Fa10,Fa11,Fa12,Fa13⟩:=b_ Ba1
 obtain ⟨Cx10,Cx11,Cx12,Cx13,Fx10,Fx11,Fx12,Fx13⟩:=b_ Bx1
 obtain ⟨Ca20,Ca21,Ca22,Ca23,Fa20,Fa21,Fa22,Fa23⟩:=b_ Ba2
 obtain ⟨Cx20,Cx21,Cx22,Cx23,Fx20,Fx21,Fx22,Fx23⟩:=b_ Bx2
 obtain ⟨Cc0,Cc1,Cc2,Cc3,Fc0,Fc1,Fc2,Fc3⟩:=b_ Bc
 go_wp2_with fail
 generalize (w16.alloc (.cells #[.slice sa1 xa1.length xa1.length,.bool ba1,.slice sa1' xa1'.length xa1'.length,.bool ba1',.slice sa2 xa2.length xa2.length,.bool ba2,.slice sa2' xa2'.length xa2'.length,.bool ba2',.slice sc xc.length xc.length,.bool bc,.slice sc' xc'.length xc'.length,.bool bc'] 28)) = w17 at *
 generalize w16.heap.size = aw16 at *
 clear Ca10 Fa10 Ca11 Fa11 Ca12 Fa12 Ca13 Fa13 Cx10 Fx10 Cx11 Fx11 Cx12 Fx12 Cx13 Fx13 Ca20 Fa20 Ca21 Fa21 Ca22 Fa22 Ca23 Fa23 Cx20 Fx20 Cx21 Fx21 Cx22 Fx22 Cx23 Fx23 Cc0 Fc0 Cc1 Fc1 Cc2 Fc2 Cc3 Fc3
 refine (jp_ w17 _ 3 3 [A1,B1,S9] 11 K2.out (by omega) (by omega) (by omega) LL2.out).mono ?_
 rintro e w18 ⟨w2_,rfl,m2_,gw18⟩
 replace Ba1:=a_ gw18 Ba1
 replace Bx1:=a_ gw18 Bx1
 replace Ba2:=a_ gw18 Ba2
 replace Bx2:=a_ gw18 Bx2
 replace Bc:=a_ gw18 Bc
 replace qa1:=qa1.kept gw18
 replace yx1:=yx1.kept gw18
 replace qa2:=qa2.kept gw18
 replace yx2:=yx2.kept gw18
 replace qc:=qc.kept gw18
 replace hG:=d_ hG gw18
 clear gw18
 obtain ⟨Ca10,Ca11,Ca12,Ca13,Fa10,Fa11,Fa12,Fa13⟩:=b_ Ba1
 obtain ⟨Cx10,Cx11,Cx12,Cx13,Fx10,Fx11,Fx12,Fx13⟩:=b_ Bx1
 obtain ⟨Ca20,Ca21,Ca22,Ca23,Fa20,Fa21,Fa22,Fa23⟩:=b_ Ba2
 obtain ⟨Cx20,Cx21,Cx22,Cx23,Fx20,Fx21,Fx22,Fx23⟩:=b_ Bx2
 obtain ⟨Cc0,Cc1,Cc2,Cc3,Fc0,Fc1,Fc2,Fc3⟩:=b_ Bc
 go_wp2_with fail
 go_region_held3 (fun w'=>w'.cell? ⟨aw1,0,none⟩ = some (.slice sa1 xa1.length xa1.length) ∧ w'.cell? ⟨aw1,1,none⟩ = some (.bool ba1) ∧ w'.cell? ⟨aw1,2,none⟩ = some (.slice sa1' xa1'.length xa1'.length) ∧ w'.cell? ⟨aw1,3,none⟩ = some (.bool ba1') ∧ w'.cell? ⟨aw3,0,none⟩ = some (.slice sa2 xa2.length xa2.length) ∧ w'.cell? ⟨aw3,1,none⟩ = some (.bool ba2) ∧ w'.cell? ⟨aw3,2,none⟩ = some (.slice sa2' xa2'.length xa2'.length) ∧ w'.cell? ⟨aw3,3,none⟩ = some (.bool ba2'))
  (first | assumption | exact ⟨Ca10,Ca11,Ca12,Ca13,Ca20,Ca21,Ca22,Ca23⟩ | go_keep)
  (first
    | (go_at_call 17; (with_reducible refine (bh_ w18.drew _ A1 5 (qa1.kept (k_ (h_ _ _))) (by omega) L1.out.1).mono ?_); rintro e w19_1 ⟨v8,rfl,n8,gw19_1⟩; have hGw19_1:=o_ w18 gw19_1 rfl rfl rfl rfl; have hSw19_1:=(n_ (hGw19_1.cell Ca10 (by simp)) (n_ (hGw19_1.cell Ca11 (by simp)) (n_ (hGw19_1.cell Ca12 (by simp)) (n_ (hGw19_1.cell Ca13 (by simp)) (n_ (hGw19_1.cell Ca20 (by simp)) (n_ (hGw19_1.cell Ca21 (by simp)) (n_ (hGw19_1.cell Ca22 (by simp)) (hGw19_1.cell Ca23 (by simp))))))))); clear gw19_1)
    | (go_at_call 20; (with_reducible refine (fC_ w19_1 _ B1 5 (qa2.kept hGw19_1) (by omega) L2.out.2).mono ?_); rintro e w19_2 ⟨v9,rfl,n9,gw19_2⟩; have hGw19_2:=d_ hGw19_1 gw19_2; replace n8:=n8.kept gw19_2; have hSw19_2:=(n_ (hGw19_2.cell Ca10 (by simp)) (n_ (hGw19_2.cell Ca11 (by simp)) (n_ (hGw19_2.cell Ca12 (by simp)) (n_ (hGw19_2.cell Ca13 (by simp)) (n_ (hGw19_2.cell Ca20 (by simp)) (n_ (hGw19_2.cell Ca21 (by simp)) (n_ (hGw19_2.cell Ca22 (by simp)) (hGw19_2.cell Ca23 (by simp))))))))); clear gw19_2)
    | (go_at_call 49; (with_reducible refine (aP_ w19_2 _ _ A1.num (B1.den : Int) 5 n8 n9 (by omega) L1.out.1 LZ.out).mono ?_); rintro e w19_3 ⟨v10,rfl,n10,gw19_3⟩; have hGw19_3:=d_ hGw19_2 gw19_3; replace n8:=n8.kept gw19_3; replace n9:=n9.kept gw19_3; have hSw19_3:=(n_ (hGw19_3.cell Ca10 (by simp)) (n_ (hGw19_3.cell Ca11 (by simp)) (n_ (hGw19_3.cell Ca12 (by simp)) (n_ (hGw19_3.cell Ca13 (by simp)) (n_ (hGw19_3.cell Ca20 (by simp)) (n_ (hGw19_3.cell Ca21 (by simp)) (n_ (hGw19_3.cell Ca22 (by simp)) (hGw19_3.cell Ca23 (by simp))))))))); clear gw19_3))
 replace Ba1:=a_ hGw19_3 Ba1
 replace Bx1:=a_ hGw19_3 Bx1
 replace Ba2:=a_ hGw19_3 Ba2
 replace Bx2:=a_ hGw19_3 Bx2
 replace Bc:=a_ hGw19_3 Bc
 replace qa1:=qa1.kept hGw19_3
 replace yx1:=yx1.kept hGw19_3
 replace qa2:=qa2.kept hGw19_3
 replace yx2:=yx2.kept hGw19_3
 replace qc:=qc.kept hGw19_3
 replace hG:=d_ hG hGw19_3
 clear Ca10 Fa10 Ca11 Fa11 Ca12 Fa12 Ca13 Fa13 Cx10 Fx10 Cx11 Fx11 Cx12 Fx12 Cx13 Fx13 Ca20 Fa20 Ca21 Fa21 Ca22 Fa22 Ca23 Fa23 Cx20 Fx20 Cx21 Fx21 Cx22 Fx22 Cx23 Fx23 Cc0 Fc0 Cc1 Fc1 Cc2 Fc2 Cc3 Fc3
 obtain ⟨Ca10,Ca11,Ca12,Ca13,Fa10,Fa11,Fa12,Fa13⟩:=b_ Ba1
 obtain ⟨Cx10,Cx11,Cx12,Cx13,Fx10,Fx11,Fx12,Fx13⟩:=b_ Bx1
 obtain ⟨Ca20,Ca21,Ca22,Ca23,Fa20,Fa21,Fa22,Fa23⟩:=b_ Ba2
 obtain ⟨Cx20,Cx21,Cx22,Cx23,Fx20,Fx21,Fx22,Fx23⟩:=b_ Bx2
 obtain ⟨Cc0,Cc1,Cc2,Cc3,Fc0,Fc1,Fc2,Fc3⟩:=b_ Bc
 go_wp2_with fail
 clear Ca10 Fa10 Ca11 Fa11 Ca12 Fa12 Ca13 Fa13 Cx10 Fx10 Cx11 Fx11 Cx12 Fx12 Cx13 Fx13 Ca20 Fa20 Ca21 Fa21 Ca22 Fa22 Ca23 Fa23 Cx20 Fx20 Cx21 Fx21 Cx22 Fx22 Cx23 Fx23 Cc0 Fc0 Cc1 Fc1 Cc2 Fc2 Cc3 Fc3
 refine (az_ w19_3 _ _ A1 5 20 qa1 yx1 (by omega) (by omega) L1.out.1 L1.out.2).mono ?_
 rintro e w20 ⟨rfl,gw20⟩
 replace Ba1:=a_ gw20 Ba1
 replace Bx1:=a_ gw20 Bx1
 replace Ba2:=a_ gw20 Ba2
 replace Bx2:=a_ gw20 Bx2
 replace Bc:=a_ gw20 Bc
 replace qa2:=qa2.kept gw20
 replace yx2:=yx2.kept gw20
 replace qc:=qc.kept gw20
 replace hG:=d_ hG gw20
 clear gw20
 obtain ⟨Ca10,Ca11,Ca12,Ca13,Fa10,Fa11,Fa12,Fa13⟩:=b_ Ba1
 obtain ⟨Cx10,Cx11,Cx12,Cx13,Fx10,Fx11,Fx12,Fx13⟩:=b_ Bx1
 obtain ⟨Ca20,Ca21,Ca22,Ca23,Fa20,Fa21,Fa22,Fa23⟩:=b_ Ba2
 obtain ⟨Cx20,Cx21,Cx22,Cx23,Fx20,Fx21,Fx22,Fx23⟩:=b_ Bx2
 obtain ⟨Cc0,Cc1,Cc2,Cc3,Fc0,Fc1,Fc2,Fc3⟩:=b_ Bc
 go_wp2_with fail
 clear Ca10 Fa10 Ca11 Fa11 Ca12 Fa12 Ca13 Fa13 Cx10 Fx10 Cx11 Fx11 Cx12 Fx12 Cx13 Fx13 Ca20 Fa20 Ca21 Fa21 Ca22 Fa22 Ca23 Fa23 Cx20 Fx20 Cx21 Fx21 Cx22 Fx22 Cx23 Fx23 Cc0 Fc0 Cc1 Fc1 Cc2 Fc2 Cc3 Fc3
 refine (az_ w20 _ _ B1 5 20 qa2 yx2 (by omega) (by omega) L2.out.1 L2.out.2).mono ?_
 rintro e w21 ⟨rfl,gw21⟩
 replace Ba1:=a_ gw21 Ba1
 replace Bx1:=a_ gw21 Bx1
 replace Ba2:=a_ gw21 Ba2
 replace Bx2:=a_ gw21 Bx2
 replace Bc:=a_ gw21 Bc
 replace qc:=qc.kept gw21
 replace hG:=d_ hG gw21
 clear gw21
 obtain ⟨Ca10,Ca11,Ca12,Ca13,Fa10,Fa11,Fa12,Fa13⟩:=b_ Ba1
 obtain ⟨Cx10,Cx11,Cx12,Cx13,Fx10,Fx11,Fx12,Fx13⟩:=b_ Bx1
 obtain ⟨Ca20,Ca21,Ca22,Ca23,Fa20,Fa21,Fa22,Fa23⟩:=b_ Ba2
 obtain ⟨Cx20,Cx21,Cx22,Cx23,Fx20,Fx21,Fx22,Fx23⟩:=b_ Bx2
 obtain ⟨Cc0,Cc1,Cc2,Cc3,Fc0,Fc1,Fc2,Fc3⟩:=b_ Bc
 go_wp2_with fail
 clear Ca10 Fa10 Ca11 Fa11 Ca12 Fa12 Ca13 Fa13 Cx10 Fx10 Cx11 Fx11 Cx12 Fx12 Cx13 Fx13 Ca20 Fa20 Ca21 Fa21 Ca22 Fa22 Ca23 Fa23 Cx20 Fx20 Cx21 Fx21 Cx22 Fx22 Cx23 Fx23 Cc0 Fc0 Cc1 Fc1 Cc2 Fc2 Cc3 Fc3
 refine (aH_ w21 _ S9 11 qc (by omega) LS.out.1 LS.out.2).mono ?_
 rintro e w22 ⟨t8,rfl,ht8,gw22⟩
 obtain rfl : t8 = t9:=aK_ ht8 HT9.out
 clear ht8
 replace Ba1:=a_ gw22 Ba1
 replace Bx1:=a_ gw22 Bx1
 replace Ba2:=a_ gw22 Ba2
 replace Bx2:=a_ gw22 Bx2
 replace Bc:=a_ gw22 Bc
 replace hG:=d_ hG gw22
 clear gw22
 obtain ⟨Ca10,Ca11,Ca12,Ca13,Fa10,Fa11,Fa12,Fa13⟩:=b_ Ba1
 obtain ⟨Cx10,Cx11,Cx12,Cx13,Fx10,Fx11,Fx12,Fx13⟩:=b_ Bx1
 obtain ⟨Ca20,Ca21,Ca22,Ca23,Fa20,Fa21,Fa22,Fa23⟩:=b_ Ba2
 obtain ⟨Cx20,Cx21,Cx22,Cx23,Fx20,Fx21,Fx22,Fx23⟩:=b_ Bx2
 obtain ⟨Cc0,Cc1,Cc2,Cc3,Fc0,Fc1,Fc2,Fc3⟩:=b_ Bc
 go_wp2_with fail
 go_ret
 exact ⟨by first | rfl | simp,hG⟩
end Go.Proofs.YtgbbdgioohaknaaGreatDoor
