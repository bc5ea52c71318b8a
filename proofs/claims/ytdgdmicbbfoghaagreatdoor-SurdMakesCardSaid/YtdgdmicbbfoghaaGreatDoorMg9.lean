/- What the laws lean on, part 9. -/
import Derived.Below
import Derived.BigCall
import Derived.BigQuiet
import Derived.BigRegion
import Derived.Deep.AppendLies
import Derived.Deep.CutBlock
import Derived.Deep.CutRange
import Derived.Deep.DeepCutAuto
import Derived.Deep.LoopGhost
import Derived.Deep.MidRow
import Derived.Deep.QuietTactic
import Derived.Deep.RegionHeld3
import Derived.Deep.WholeRow
import Derived.Laws.AppendOwn
import Derived.Laws.CopyOwn
import Derived.Laws.Externs
import Derived.Laws.IdiomStrings
import Derived.Lib.BitFns
import Derived.Lib.Hide
import Derived.Lib.Slices
import Derived.Lib.Small
import Derived.Lib.Strings
import Derived.Lib.Walk
import Derived.LoopN
import Derived.OrdersHeld
import Derived.OrdersIn
import Derived.Outline
import Derived.OwnWalk
import Derived.RangeFuncCalls
import Derived.RangeFuncNested
import Derived.RangeFuncOwn
import Derived.Shelf.Bits.Mul64
import Derived.Shelf.Spec.TrailingZeros
import Derived.StillTailTactics
import Derived.WalkKit
import Derived.WalkLawsBesides
import Derived.WalkSpells
import Derived.Test.YtdgdmicbbfoghaaGreatDoorProg
import Derived.Test.YtdgdmicbbfoghaaGreatDoorMg1
import Derived.Test.YtdgdmicbbfoghaaGreatDoorMg8
set_option linter.unusedVariables false
set_option linter.unusedSimpArgs false
set_option maxRecDepth 100000
namespace Go.Proofs.YtdgdmicbbfoghaaGreatDoor
open Go.RowKit Mat
structure OwnLm (N:Nat) (w:World) (s:Option Addr) (n cap:Nat) (xs:List Nat) (K:Nat):Prop where
 lm:Lm w s xs
 len:Hid (xs.length=n)
 capn:n<=cap
 cap0:n=0->cap=0
 fr:FreshAt N s
 bnd:n<=K
def Apart (s t:Option Addr):Prop:=∀ a b,s=some a->t=some b->a.block≠b.block
theorem Apart.symm {s t:Option Addr} (h:Apart s t):Apart t s:=fun a b e1 e2=>Ne.symm (h b a e2 e1)
theorem tW {w:World} {s t:Option Addr} {xs:List Nat} (h:Lm w s xs) (k:FreshAt w.heap.size t):Apart s t:=by
 intro a b e1 e2
 have h1:=h.lt e1
 have h2:=(k b e2).1
 omega
theorem OwnLm.kept {N K:Nat} {w w':World} {s:Option Addr} {n cap:Nat} {xs:List Nat} (h:OwnLm N w s n cap xs K) (hg:w.grownBy w' none):OwnLm N w' s n cap xs K:=
 ⟨h.lm.kept hg,h.len,h.capn,h.cap0,h.fr,h.bnd⟩
theorem gcd_twos (k m a b:Nat):Nat.gcd (2^k*(2*a+1)) (2^m*(2*b+1))=Nat.gcd (2*a+1) (2*b+1)*2^(min k m):=by
 have co:∀ (t c:Nat),Nat.Coprime (2^t) (2*c+1):=by
  intro t c
  apply Nat.Coprime.pow_left
  unfold Nat.Coprime
  rw [Nat.gcd_rec,show (2*c+1)%2=1 from by omega]
  rfl
 rcases Nat.le_total k m with h | h
 · obtain ⟨d,rfl⟩:∃ d,m=k+d:=⟨m-k,by omega⟩
   rw [Nat.min_eq_left h,Nat.pow_add,Nat.mul_assoc,Nat.gcd_mul_left,Nat.mul_comm (2^k)]
   congr 1
   rw [Nat.gcd_comm,Nat.Coprime.gcd_mul_left_cancel _ (co d a),Nat.gcd_comm]
 · obtain ⟨d,rfl⟩:∃ d,k=m+d:=⟨k-m,by omega⟩
   rw [Nat.min_eq_right h,Nat.pow_add,Nat.mul_assoc,Nat.gcd_mul_left,Nat.mul_comm (2^m)]
   congr 1
   rw [Nat.Coprime.gcd_mul_left_cancel _ (co d b)]
def Copies (W:World) (N K:Nat) (xs ys:List Nat) (nx ny:Nat) (u v:Value) (wx:World):Prop:=
 ∃ sx cx sy cy,u = .slice sx nx cx/\v = .slice sy ny cy/\OwnLm N wx sx nx cx xs K/\OwnLm N wx sy ny cy ys K/\Apart sx sy/\W.grownBy wx none
set_option maxHeartbeats 8000000 in
theorem Gcd_any (w:World) (va vb:Value) (a b K:Nat) (ha:NatV w va a) (hb:NatV w vb b) (hK:K<=1073741000) (la:a<B^K) (lb:b<B^K) (hT:Tab w) :
 Calls Tryz.prog 167 #[va,vb] w (RetNat w (Nat.gcd a b)):=by
 obtain ⟨sa,xs,rfl,hx,rfl⟩:=ha
 obtain ⟨sb,ys,rfl,hy,rfl⟩:=hb
 have h1:=hx.len la
 have h2:=hy.len lb
 have h2s:=hT.size
 have HT:=Lib.hid hT
 obtain ⟨g,hg⟩:∃ g,Nat.gcd (val B xs) (val B ys)=g:=⟨_,rfl⟩
 rw [hg]
 have HG:=Lib.hid hg
 obtain ⟨nx,hnx⟩:∃ n,xs.length=n:=⟨_,rfl⟩
 obtain ⟨ny,hny⟩:∃ n,ys.length=n:=⟨_,rfl⟩
 rw [hnx] at h1 ⊢
 rw [hny] at h2 ⊢
 have HNX:=Lib.hid hnx
 have HNY:=Lib.hid hny
 clear hg la lb hT hnx hny
 have hgw0:w.grownBy (((w.alloc (.cells #[.slice sa nx nx] 26)).alloc (.cells #[.slice sb ny ny] 26)).alloc (.cells #[.slice none 0 0] 26)) none:=A8 (A8 (World.grownBy_alloc _ _ _) _) _
 have hbox0:=A4 ((w.alloc (.cells #[.slice sa nx nx] 26)).alloc (.cells #[.slice sb ny ny] 26)) (.cells #[.slice none 0 0] 26) (w.heap.size+1+1) (by simp)
 have hboxb0:=(Below.heap_alloc _ (.cells #[.slice none 0 0] 26) (w.heap.size+1) (by simp)).trans (A4 (w.alloc (.cells #[.slice sa nx nx] 26)) (.cells #[.slice sb ny ny] 26) (w.heap.size+1) (by simp))
 have hboxa0:=((Below.heap_alloc _ (.cells #[.slice none 0 0] 26) w.heap.size (by simp;omega)).trans (Below.heap_alloc _ (.cells #[.slice sb ny ny] 26) w.heap.size (by simp))).trans (A4 w (.cells #[.slice sa nx nx] 26) w.heap.size rfl)
 have hs0:(((w.alloc (.cells #[.slice sa nx nx] 26)).alloc (.cells #[.slice sb ny ny] 26)).alloc (.cells #[.slice none 0 0] 26)).heap.size=w.heap.size+1+1+1:=by simp
 go_enter Tryz.func167,Tryz.ntmps167
 go_wp2_with fail
 generalize (((w.alloc (.cells #[.slice sa nx nx] 26)).alloc (.cells #[.slice sb ny ny] 26)).alloc (.cells #[.slice none 0 0] 26))=w0 at *
 have hx0:=hx.kept hgw0
 have hy0:=hy.kept hgw0
 obtain ⟨ca,fa⟩:=A7 hboxa0
 obtain ⟨cb,fb⟩:=A7 hboxb0
 have HX0:∀ W,w0.grownBy W none->Lm W sa xs:=fun W hW=>hx0.kept hW
 have HY0:∀ W,w0.grownBy W none->Lm W sb ys:=fun W hW=>hy0.kept hW
 have HX0:=Lib.hid HX0
 have HY0:=Lib.hid HY0
 clear hx0 hy0
 have hfld:=fK
 go_cut [5,6] (fun u v wx=>Copies w0 w0.heap.size K xs ys nx ny u v wx)
 case first=>
  go_region_held3 (fun w'=>w'.cell? ⟨w.heap.size,0,none⟩=some (.slice sa nx nx)/\w'.cell? ⟨w.heap.size+1,0,none⟩=some (.slice sb ny ny))
   (first | go_keep | exact ⟨hG1.cell ca (by simp),hG1.cell cb (by simp)⟩ | exact ⟨hG2.cell ca (by simp),hG2.cell cb (by simp)⟩)
   (first
    | (go_at_call 94;(with_reducible refine (kJ w0.drew sa nx xs HNX.out (HX0.out _ (C9 (A9 _ _))) (by omega)).mono ?_);rintro e w1 ⟨s1,c1,rfl,hl1,hc1,hz1,hf1,hg1⟩;have hG1:=H6 w0 hg1 rfl rfl rfl rfl)
    | (go_at_call 94;(with_reducible refine (kJ w0.drew sb ny ys HNY.out (HY0.out _ (C9 (A9 _ _))) (by omega)).mono ?_);rintro e w1 ⟨s1,c1,rfl,hl1,hc1,hz1,hf1,hg1⟩;have hG1:=H6 w0 hg1 rfl rfl rfl rfl)
    | (go_at_call 94;(with_reducible refine (kJ w1 sa nx xs HNX.out (HX0.out _ hG1) (by omega)).mono ?_);rintro e w2 ⟨s2,c2,rfl,hl2,hc2,hz2,hf2,hg2⟩;have hG2:=A2 hG1 hg2)
    | (go_at_call 94;(with_reducible refine (kJ w1 sb ny ys HNY.out (HY0.out _ hG1) (by omega)).mono ?_);rintro e w2 ⟨s2,c2,rfl,hl2,hc2,hz2,hf2,hg2⟩;have hG2:=A2 hG1 hg2))
  go_wp2_with fail
  go_meet
  exact ⟨s1,c1,s2,c2,rfl,rfl,⟨hl1.kept hg2,HNX,hc1,hz1,hf1,h1⟩,⟨hl2,HNY,hc2,hz2,hf2.mono hG1.size,h2⟩,tW hl1 hf2,hG2⟩
 case rest=>
  obtain ⟨sx,cx,sy,cy,rfl,rfl,hox,hoy,hap,hgc⟩:=hcut
  have hbox:=A1 hgc hbox0
  have hgw:=A2 hgw0 hgc
  clear HX0 HY0 hgc hbox0 hboxa0 hboxb0 ca fa cb fb hx hy hfld
  generalize w0.heap.size=N at *
  go_wp2_with fail
  go_loopg [5,6] (val B ys) (fun gh a b wr=>∃ (sx:Option Addr) (nx cx:Nat) (xs:List Nat) (sy:Option Addr) (ny cy:Nat) (ys:List Nat),a = .slice sx nx cx/\b = .slice sy ny cy/\OwnLm N wr sx nx cx xs K/\OwnLm N wr sy ny cy ys K/\Apart sx sy/\Hid (Nat.gcd (val B xs) (val B ys)=g)/\w.grownBy wr none/\wr.heap[w.heap.size+1+1]?=some (.cells #[.slice none 0 0] 26 (0,0))/\Hid (val B ys<=gh))
  case atStart=>exact ⟨sx,nx,cx,xs,sy,ny,cy,ys,rfl,rfl,hox,hoy,hap,HG,hgw,hbox,Nat.le_refl _⟩
  case round=>
   clear hox hoy hap HG hgw hbox HNX HNY h1 h2
   obtain ⟨sx,nx,cx,xs,sy,ny,cy,ys,rfl,rfl,hx,hy,hap,hg,hgw,hbox,hgh⟩:=hrel
   have bx:=hx.bnd
   have byy:=hy.bnd
   have hNr:N<=wr.heap.size:=by have:=(Array.getElem?_eq_some_iff.1 hbox).1;omega
   rcases Nat.eq_zero_or_pos ny with h0 | h0
   · subst h0
     obtain rfl:ys=[]:=List.length_eq_zero_iff.1 hy.len.out
     have hgx:Hid (val B xs=g):=by show _=_;rw [<- hg.out];simp [val]
     clear hy hap hg hgh
     go_wp2_with fail
     refine (S5 _ sx nx cx xs hx.len.out hx.lm.rd (by omega) hx.capn hx.lm.dig).mono ?_
     rintro e w4 ⟨v,rfl,⟨sc,zs,rfl,hl4,hv4⟩,hg4⟩
     have hbox4:=A1 hg4 hbox
     obtain ⟨hc4,hf4⟩:=A7 hbox4
     have hF:=Lib.hid (jI (A2 hgw hg4) hbox4 (by decide) (by omega) hl4 (hv4.trans hgx.out) (.slice sc zs.length zs.length))
     clear hv4 hbox4 hbox hg4 hgw
     go_wp2_with fail
     exact bodyPost_ret (v := .agg #[.slice sc zs.length zs.length]) (by simp [results,Tryz.results167,go_sem,hc4]) rfl hF.out
   · by_cases hne:nx=ny
     · subst hne
       have f1:((nx:Int) != (nx:Int))=false:=by simp
       have f2:((nx:Int) == 0)=false:=beq_eq_false_iff_ne.2 (by omega)
       have hxp : 0<val B xs:=hx.lm.pos (by rw [hx.len.out];exact h0)
       have hyp : 0<val B ys:=hy.lm.pos (by rw [hy.len.out];exact h0)
       have hTr:=HT.out.kept hgw (by simp)
       have HTr:=Lib.hid hTr
       obtain ⟨px,ox,csx,rfl,hbx,hatx⟩:=hx.lm.rd.get 0 (by rw [hx.len.out];exact h0)
       obtain ⟨py,oy,csy,rfl,hby,haty⟩:=hy.lm.rd.get 0 (by rw [hy.len.out];exact h0)
       clear hTr
       go_wp2_with fail
       refine (iW wr _ nx cx xs hx.len.out hx.lm.rd hx.lm.dig hxp (by omega) HTr.out).mono ?_
       rintro e w' ⟨k,ma,rfl,hka,hkl,rfl⟩
       have HKA:=Lib.hid hka
       clear hka
       go_wp2_with fail
       refine (iW wr _ nx cy ys hy.len.out hy.lm.rd hy.lm.dig hyp (by omega) HTr.out).mono ?_
       rintro e w' ⟨m,mb,rfl,hkb,hml,rfl⟩
       have HKB:=Lib.hid hkb
       clear hkb
       obtain rfl:ox=0:=by have:=(hx.fr _ rfl).2;simpa using this
       obtain rfl:oy=0:=by have:=(hy.fr _ rfl).2;simpa using this
       have hpx:N<=px:=(hx.fr _ rfl).1
       have hpy:N<=py:=(hy.fr _ rfl).1
       have hpne:px≠py:=hap _ _ rfl rfl
       have hNs:=hNr
       go_wp2_with fail
       refine (T8 wr px 0 nx cx xs csx k hx.len.out hbx hatx hx.lm.dig hx.capn (by omega) (by omega)).mono ?_
       rintro e w4 ⟨s4,m4,cap4,cs4,zs4,rfl,hm4,hl4,hlx4,hd4,hv4,hs4,_,hk4,hat4,hg4⟩
       have hv4':val B zs4=2*ma+1:=by rw [hv4,HKA.out];exact Nat.mul_div_cancel_left _ (Nat.two_pow_pos k)
       have hp4 : 0<m4:=by
        rcases Nat.eq_zero_or_pos m4 with e | e
        · rw [List.length_eq_zero_iff.1 (hl4.trans e)] at hv4';simp [val] at hv4'
        · exact e
       obtain rfl:=hs4 hp4
       have hby4:=hby.kept hg4 (by simp;omega)
       have hbox4:=P7 hg4 hbox (by omega)
       have hgw4:=B1 hgw hg4 (by omega)
       have hm4k:m4<=nx:=by rw [hx.len.out] at hlx4;exact hlx4
       have HL4:=Lib.hid hl4
       have HV4:=Lib.hid hv4'
       clear hv4 hv4' hl4 hs4 hg4 hlx4 hbx hatx hbox hgw hby HTr hNr
       go_wp2_with fail
       refine (eL w4 (some ⟨px,0,none⟩) m4 cap4 zs4 HL4.out (Rdo.of hk4 hat4) (by omega) hm4).mono ?_
       rintro e w5 ⟨k5,hk5,rfl,ht5,hv5,rfl⟩
       have hkp5 : 0<k5:=bM hv5 (by rw [HV4.out];omega)
       rw [eS hkp5]
       have hk5m:k5<=m4:=by rw [HL4.out] at hk5;exact hk5
       have hlk5:(zs4.take k5).length=k5:=by rw [List.length_take];omega
       have hX:OddIn N w4 px k5 (zs4.take k5) cs4:=⟨hpx,hk4,hat4.take k5,hlk5,ht5,hd4.take k5,by show _=_;rw [hv5,HV4.out];omega,by omega⟩
       have HVX:Hid (val B (zs4.take k5)=2*ma+1):=hv5.trans HV4.out
       clear hv5 hlk5 hk5 ht5 hk4 hat4 hd4 HV4 HL4
       go_wp2_with fail
       refine (T8 w4 py 0 nx cy ys csy m hy.len.out hby4 haty hy.lm.dig hy.capn (by omega) (by omega)).mono ?_
       rintro e w6 ⟨s6,m6,cap6,cs6,zs6,rfl,hm6,hl6,hlx6,hd6,hv6,hs6,_,hk6,hat6,hg6⟩
       have hv6':val B zs6=2*mb+1:=by rw [hv6,HKB.out];exact Nat.mul_div_cancel_left _ (Nat.two_pow_pos m)
       have hp6 : 0<m6:=by
        rcases Nat.eq_zero_or_pos m6 with e | e
        · rw [List.length_eq_zero_iff.1 (hl6.trans e)] at hv6';simp [val] at hv6'
        · exact e
       obtain rfl:=hs6 hp6
       have hX6:=hX.kept hg6 (by simp;omega)
       have hbox6:=P7 hg6 hbox4 (by omega)
       have hgw6:=B1 hgw4 hg6 (by omega)
       have hm6k:m6<=nx:=by rw [hy.len.out] at hlx6;exact hlx6
       have HL6:=Lib.hid hl6
       have HV6:=Lib.hid hv6'
       clear hv6 hv6' hl6 hs6 hg6 hlx6 hby4 haty hbox4 hgw4 hX
       go_wp2_with fail
       refine (eL w6 (some ⟨py,0,none⟩) m6 cap6 zs6 HL6.out (Rdo.of hk6 hat6) (by omega) hm6).mono ?_
       rintro e w7 ⟨k7,hk7,rfl,ht7,hv7,rfl⟩
       have hkp7 : 0<k7:=bM hv7 (by rw [HV6.out];omega)
       rw [eS hkp7]
       have hk7m:k7<=m6:=by rw [HL6.out] at hk7;exact hk7
       have hlk7:(zs6.take k7).length=k7:=by rw [List.length_take];omega
       have hY:OddIn N w6 py k7 (zs6.take k7) cs6:=⟨hpy,hk6,hat6.take k7,hlk7,ht7,hd6.take k7,by show _=_;rw [hv7,HV6.out];omega,by omega⟩
       have HVY:Hid (val B (zs6.take k7)=2*mb+1):=hv7.trans HV6.out
       have HT6:=Lib.hid (HT.out.kept hgw6 (by simp))
       clear hv7 hlk7 hk7 ht7 hk6 hat6 hd6 HV6 HL6
       go_wp2_with fail
       refine (oddGcd_any w6 N px k5 (zs4.take k5) cs4 py k7 (zs6.take k7) cs6 hX6 hY hpne (by omega) HT6.out K (by omega) (by omega)).mono ?_
       rintro e w8 ⟨s8,k8,zs8,rfl,hl8,hk8,hr8,hd8,hv8,hb8⟩
       rw [HVX.out,HVY.out] at hv8
       have hbox8:=P1 hb8 hbox6 (by omega)
       have hgw8:=H8 hgw6 hb8 (by omega)
       have HV8:=Lib.hid hv8
       have HL8:=Lib.hid hl8
       clear hv8 hl8 hb8 hX6 hY hbox6 hgw6 HT6 hm4 hm6
       go_wp2_with fail
       obtain ⟨q,hq⟩:∃ q,min k m=q:=⟨_,rfl⟩
       rw [show min (k:Int) (m:Int)=(q:Int) from by omega]
       refine (cO w8 s8 k8 k8 zs8 q HL8.out hr8 hd8 (by omega) (by omega)).mono ?_
       rintro e w9 ⟨g9,n9,cs9,zs9,rfl,hge9,hb9,hat9,hl9,hn9,hd9,hv9,hg9⟩
       have hn9':n9<=4000000000:=by rw [hn9,HL8.out];omega
       have hbox9:=A1 hg9 hbox8
       have hgw9:=A2 hgw8 hg9
       have HV9:Hid (val B zs9=g):=by
        show _=_
        rw [hv9,HV8.out, <- hq, <- gcd_twos k m ma mb, <- HKA.out, <- HKB.out];exact hg.out
       have HL9:=Lib.hid hl9
       clear hn9 hl9 hv9 hge9 hg9 hbox8 hgw8 hr8 hd8 hk8
       go_wp2_with fail
       refine (S5 w9 _ n9 n9 zs9 HL9.out (Rdo.of hb9 hat9) (by omega) (Nat.le_refl _) hd9).mono ?_
       rintro e w10 ⟨v,rfl,⟨sc,zs,rfl,hl10,hv10⟩,hg10⟩
       have hbox10:=A1 hg10 hbox9
       obtain ⟨hc10,hf10⟩:=A7 hbox10
       have hF:=Lib.hid (jI (A2 hgw9 hg10) hbox10 (by decide) (by omega) hl10 (hv10.trans HV9.out) (.slice sc zs.length zs.length))
       clear hv10 hbox10 hbox9 hg10 hgw9 hb9 hat9
       go_wp2_with fail
       exact bodyPost_ret (v := .agg #[.slice sc zs.length zs.length]) (by simp [results,Tryz.results167,go_sem,hc10]) rfl hF.out
     · have f1:((nx:Int) != (ny:Int))=true:=by simp;omega
       have hyp : 0<val B ys:=hy.lm.pos (by rw [hy.len.out];exact h0)
       go_wp2_with fail
       refine (iK wr sx sy nx cx ny cy xs ys hx.lm hy.lm hx.len.out hy.len.out h0 hx.cap0 hx.capn (by omega) (by omega)).mono ?_
       rintro e w3 ⟨sq,sr,nq,cq,nr,cr,qs,rs,rfl,hlq,hcq,hnq,hlr,hcr,hnr,hrq,hrr,hdq,hdr,hvq,hvr,hg3,hfr⟩
       have hbox3:=A1 hg3 hbox
       have hgw3:=A2 hgw hg3
       have hy3:=hy.kept hg3
       have hfrN:FreshAt N sr:=hfr.mono hNr
       have hap3:Apart sy sr:=tW hy.lm hfr
       have HVR:=Lib.hid hvr
       have HLR:=Lib.hid hlr
       clear hlq hcq hnq hrq hdq hvq hvr hlr hg3 hfr hbox hgw hap hx
       go_wp2_with fail
       refine (eL w3 sr nr cr rs HLR.out hrr (by omega) hcr).mono ?_
       rintro e w4 ⟨k,hk,rfl,ht,hv,rfl⟩
       have hkl:(rs.take k).length=k:=by rw [List.length_take];omega
       have hvm:Hid (val B (rs.take k)=val B xs%val B ys):=hv.trans HVR.out
       have hlm:Lm w3 (Sa sr k) (rs.take k):=⟨hrr.take k,by intro e;rw [e] at hkl;simp at hkl;rw [<- hkl];rfl,ht,hdr.take k⟩
       have hlt:Hid (val B (rs.take k)<val B ys):=by show _<_;rw [hvm.out];exact Nat.mod_lt _ hyp
       have hkK:k<=K:=by
        have:=bS hlm hy3.lm (Nat.le_of_lt hlt.out)
        rw [hkl,hy3.len.out] at this
        omega
       have hnew:OwnLm N w3 (Sa sr k) k k (rs.take k) K:=⟨hlm,hkl,Nat.le_refl _,fun e=>e,hfrN.sa,hkK⟩
       have hap4:Apart sy (Sa sr k):=by
        unfold Sa;split
        · intro a b e1 e2;cases e2
        · exact hap3
       have hgn:Hid (Nat.gcd (val B ys) (val B (rs.take k))=g):=by
        show _=_;rw [hvm.out,Nat.gcd_comm (val B ys), <- Nat.gcd_rec,Nat.gcd_comm];exact hg.out
       have hlt2:Hid (val B (rs.take k)<gk):=Nat.lt_of_lt_of_le hlt.out hgh.out
       clear hv hk hkl hlm ht hrr hdr hfrN
       go_wp2_with fail
       go_roundg (val B (rs.take k))
       case measure=>exact hlt2.out
       case rel=>exact ⟨sy,ny,cy,ys,Sa sr k,k,k,rs.take k,rfl,rfl,hy3,hnew,hap4,hgn,hgw3,hbox3,Nat.le_refl _⟩
def dn (r:Rat):Int:=if r.den=1 then 0 else (r.den:Int)
def RatV (w:World) (v:Value) (r:Rat):Prop:=∃ (s:Option Addr) (xs:List Nat) (b:Bool) (s':Option Addr) (xs':List Nat) (b':Bool),v = .agg #[.slice s xs.length xs.length,.bool b,.slice s' xs'.length xs'.length,.bool b']/\IntV w (.agg #[.slice s xs.length xs.length,.bool b]) r.num/\IntV w (.agg #[.slice s' xs'.length xs'.length,.bool b']) (dn r)
theorem RatV.kept {w w':World} {v:Value} {r:Rat} (h:RatV w v r) (hg:w.grownBy w' none):RatV w' v r:=by
 obtain ⟨s,xs,b,s',xs',b',e,h1,h2⟩:=h
 exact ⟨s,xs,b,s',xs',b',e,h1.kept hg,h2.kept hg⟩
theorem RatV.zero (w:World):RatV w (.agg #[.slice none 0 0,.bool false,.slice none 0 0,.bool false]) 0:=⟨none,[],false,none,[],false,rfl,IntV.zero w,IntV.zero w⟩
def bK (w:World) (r:Rat) (e:Ending) (w':World):Prop:=∃ v,e = .returned v/\RatV w' v r/\w.grownBy w' none
def gK (w:World) (r:Rat) (code:Int) (e:Ending) (w':World):Prop:=∃ v,e = .returned (.tuple #[v,.int .i64 code])/\RatV w' v r/\w.grownBy w' none
def RetB (w:World) (b:Bool) (e:Ending) (w':World):Prop:=e = .returned (.bool b)/\w.grownBy w' none
theorem dn_bd {r:Rat} {K:Nat} (h:r.den<B^K):(dn r).natAbs<B^K:=by
 unfold dn
 split
 · exact Nat.pow_pos D6
 · rw [Int.natAbs_natCast];exact h
theorem jX {x y:Int} {K L:Nat} (hx:x.natAbs<B^K) (hy:y.natAbs<B^L):(x*y).natAbs<B^(K+L):=by
 rw [Int.natAbs_mul,Nat.pow_add]
 exact Nat.mul_lt_mul'' hx hy
def rV (a b:Rat):Int:=J8 (a.num*(b.den:Int)) (b.num*(a.den:Int))
theorem dn_neg (r:Rat):dn (-r)=dn r:=by unfold dn;rw [Rat.neg_den]
theorem dn_int (x:Int):dn (x:Rat)=0:=by unfold dn;rw [if_pos (Rat.den_intCast x)]
theorem jG (a b:Rat):(a*b).num=(a.num / ((Nat.gcd a.num.natAbs b.den:Nat):Int))*(b.num / ((Nat.gcd b.num.natAbs a.den:Nat):Int)):=by
 show (Rat.mul a b).num=_
 unfold Rat.mul
 rfl
theorem jH (a b:Rat):(a*b).den=(a.den / Nat.gcd b.num.natAbs a.den)*(b.den / Nat.gcd a.num.natAbs b.den):=by
 show (Rat.mul a b).den=_
 unfold Rat.mul
 rfl
theorem pD (a b:Rat) (g g1:Nat) (n:Int) (hg:g=Nat.gcd a.den b.den) (hn:n=a.num*((b.den / g:Nat):Int)+b.num*((a.den / g:Nat):Int)) (hg1:g1=Nat.gcd n.natAbs g) :
 (a+b).num=n / (g1:Int)/\(a+b).den=(a.den / g)*(b.den / g1):=by
 have hd:g1 ∣ b.den:=by rw [hg1,hg];exact Nat.dvd_trans (Nat.gcd_dvd_right _ _) (Nat.gcd_dvd_right _ _)
 have hgn:g1 ∣ n.natAbs:=by rw [hg1];exact Nat.gcd_dvd_left _ _
 have hmul:(a.den / g)*(b.den / g1)=(a.den / g)*b.den / g1:=(Nat.mul_div_assoc _ hd).symm
 show (Rat.add a b).num=_/\(Rat.add a b).den=_
 unfold Rat.add
 by_cases h:g=1
 · have h1:g1=1:=by rw [hg1,h,Nat.gcd_one_right]
   rw [dif_pos (by rw [<- hg];exact h)]
   dsimp only
   rw [hn,h1]
   have e1:b.den / g=b.den:=by rw [h,Nat.div_one]
   have e2:a.den / g=a.den:=by rw [h,Nat.div_one]
   rw [e1,e2,Nat.div_one]
   exact ⟨(Int.ediv_one _).symm,rfl⟩
 · rw [dif_neg (by rw [<- hg];exact h)]
   dsimp only
   rw [Rat.maybeNormalize_eq]
   dsimp only
   rw [Int.divExact_eq_ediv,hmul]
   subst hg
   subst hn
   subst hg1
   exact ⟨rfl,rfl⟩
def rsg (r:Rat):Int:=r.num.sign
theorem sign_ediv {n:Int} {g:Nat} (h:(g:Int) ∣ n) (hg : 0<g):(n / (g:Int)).sign=n.sign:=by
 obtain ⟨k,rfl⟩:=h
 rw [Int.mul_ediv_cancel_left _ (by omega),Int.sign_mul,Int.sign_eq_one_of_pos (by omega:(0:Int)<g),Int.one_mul]
theorem oY {n d:Int} (hd : 0<d):rsg (Rat.divInt n d)=n.sign:=by
 unfold rsg
 rw [Rat.num_divInt,Int.sign_eq_one_of_pos hd,Int.one_mul]
 exact sign_ediv (Int.gcd_dvd_right _ _) (by rw [Int.gcd_comm];exact Int.gcd_pos_of_ne_zero_right _ (by omega))
theorem sE (x y:Int):(x-y).sign=J8 x y:=by
 unfold J8
 rcases Int.lt_trichotomy x y with h | h | h
 · rw [if_pos h];exact Int.sign_eq_neg_one_of_neg (by omega)
 · rw [if_neg (by omega),if_pos h,show x-y=0 by omega];rfl
 · rw [if_neg (by omega),if_neg (by omega)];exact Int.sign_eq_one_of_pos (by omega)
theorem sign_bdE (z:Int) : -1<=z.sign/\z.sign<=1:=by
 rcases iV z with ⟨_,e⟩ | ⟨_,e⟩ | ⟨_,e⟩<;>omega
theorem aD (a b:Rat):rV a b=rsg (a-b):=by
 have h:a-b=Rat.divInt (a.num*(b.den:Int)-b.num*(a.den:Int)) ((a.den:Int)*(b.den:Int)):=by
  rw [Rat.sub_def', <- Int.natCast_mul,Rat.divInt_ofNat]
 have h1:=a.den_pos
 have h2:=b.den_pos
 rw [h,oY (by exact_mod_cast Nat.mul_pos h1 h2),sE]
 rfl
theorem rsg_pos {a:Rat} : rsg a=1 ↔ 0<a:=by
 unfold rsg
 rw [Int.sign_eq_one_iff_pos,Rat.lt_iff];simp
theorem rsg_zero {a:Rat} : rsg a=0 ↔ a=0:=by
 unfold rsg
 rw [Int.sign_eq_zero_iff_zero,Rat.num_eq_zero]
theorem rsg_nz {a:Rat} : rsg a = -1 ↔ a<0:=by
 unfold rsg
 rw [Int.sign_eq_neg_one_iff_neg,Rat.lt_iff];simp
theorem rcmp_lt {a b:Rat} : rV a b = -1 ↔ a<b:=by rw [aD,rsg_nz];constructor<;>intro h<;>grind
theorem rcmp_gt {a b:Rat} : rV a b=1 ↔ b<a:=by rw [aD,rsg_pos];constructor<;>intro h<;>grind
theorem rcmp_zero {a b:Rat} : rV a b=0 ↔ a=b:=by rw [aD,rsg_zero];constructor<;>intro h<;>grind
theorem rcmp_or (a b:Rat):rV a b = -1\/rV a b=0\/rV a b=1:=by
 rcases Int.lt_trichotomy ((a-b).num) 0 with h | h | h
 · left;rw [aD];exact Int.sign_eq_neg_one_of_neg h
 · right;left;rw [aD];unfold rsg;rw [h];rfl
 · right;right;rw [aD];exact Int.sign_eq_one_of_pos h
def M0 (r:Rat):Int:=
 if J8 (r.num%(r.den:Int)+r.num%(r.den:Int)) (r.den:Int) = -1 then r.num / (r.den:Int)
 else if J8 (r.num%(r.den:Int)+r.num%(r.den:Int)) (r.den:Int)=1 then r.num / (r.den:Int)+1
 else if (r.num / (r.den:Int))%2=0 then r.num / (r.den:Int) else r.num / (r.den:Int)+1
theorem sX (r:Rat):rV (r-(r.floor:Int)) (((r.floor+1:Int):Rat)-r)=J8 (r.num%(r.den:Int)+r.num%(r.den:Int)) (r.den:Int):=by
 have hp:=r.den_pos
 have e1:∀ z:Int,(z:Rat)=Rat.divInt (z*(r.den:Int)) (r.den:Int):=fun z=>by
  rw [Rat.divInt_ofNat,Rat.mkRat_eq_div,Rat.intCast_mul,Rat.intCast_natCast,Rat.mul_div_cancel (by exact_mod_cast (by omega:r.den≠0))]
 have e2:r-(r.floor:Int)-(((r.floor+1:Int):Rat)-r)=r+r-((2*r.floor+1:Int):Rat):=by
  rw [show (2*r.floor+1:Int)=r.floor+(r.floor+1) by omega,Rat.intCast_add];grind
 have e3:r+r=Rat.divInt (r.num+r.num) (r.den:Int):=by
  rw [Rat.divInt_ofNat,Rat.mkRat_eq_div,Rat.intCast_add,Rat.div_def,Rat.add_mul, <- Rat.div_def, <- Rat.mkRat_eq_div,Rat.mkRat_self]
 have e4:r+r-((2*r.floor+1:Int):Rat)=Rat.divInt (r.num+r.num-(2*r.floor+1)*(r.den:Int)) (r.den:Int):=by
  rw [e3,e1 (2*r.floor+1),Rat.divInt_ofNat,Rat.divInt_ofNat,Rat.divInt_ofNat,Rat.mkRat_eq_div,Rat.mkRat_eq_div,Rat.mkRat_eq_div,Rat.intCast_sub]
  simp only [Rat.div_def];grind
 rw [aD,e2,e4,oY (by omega), <- sE]
 congr 1
 have h:=Int.mul_ediv_add_emod r.num (r.den:Int)
 rw [Rat.floor_def]
 grind
theorem Y2 (r:Rat):(rV (r-(r.floor:Int)) (((r.floor+1:Int):Rat)-r)<=0/\M0 r=r.floor)\/(0<=rV (r-(r.floor:Int)) (((r.floor+1:Int):Rat)-r)/\M0 r=r.floor+1):=by
 rw [sX]
 unfold M0
 rw [Rat.floor_def]
 have hc:∀ x y,J8 x y = -1\/J8 x y=0\/J8 x y=1:=fun x y=>by unfold J8;split<;>(try split)<;>simp
 replace hc:=hc (r.num%(r.den:Int)+r.num%(r.den:Int)) (r.den:Int)
 generalize J8 (r.num%(r.den:Int)+r.num%(r.den:Int)) (r.den:Int)=c at *
 split
 · left;exact ⟨by omega,rfl⟩
 · split
   · right;exact ⟨by omega,rfl⟩
   · split
     · by_cases h:c<=0
       · left;exact ⟨h,rfl⟩
       · exfalso;have:=hc;omega
     · by_cases h : 0<=c
       · right;exact ⟨h,rfl⟩
       · exfalso;have:=hc;omega
theorem rnear_half (r:Rat):r-((M0 r:Int):Rat)<=1 / 2/\((M0 r:Int):Rat)-r<=1 / 2:=by
 have h1:=Rat.floor_le r
 have h2:=Rat.lt_floor_add_one r
 rw [Rat.intCast_add] at h2
 rcases Y2 r with ⟨h,e⟩ | ⟨h,e⟩
 · have h3:r-(r.floor:Int)<=((r.floor+1:Int):Rat)-r:=by
    rcases rcmp_or (r-(r.floor:Int)) (((r.floor+1:Int):Rat)-r) with c | c | c
    · exact Rat.le_of_lt (rcmp_lt.1 c)
    · rw [rcmp_zero.1 c];exact Rat.le_refl
    · omega
   rw [Rat.intCast_add] at h3
   rw [e]
   constructor<;>grind
 · have h3:((r.floor+1:Int):Rat)-r<=r-(r.floor:Int):=by
    rcases rcmp_or (r-(r.floor:Int)) (((r.floor+1:Int):Rat)-r) with c | c | c
    · omega
    · rw [rcmp_zero.1 c];exact Rat.le_refl
    · exact Rat.le_of_lt (rcmp_gt.1 c)
   rw [e]
   rw [Rat.intCast_add] at h3 ⊢
   constructor<;>grind
theorem rdiv_num (x y:Int):(Rat.divInt x y).num=y.sign*x / ((Nat.gcd x.natAbs y.natAbs:Nat):Int):=by
 rw [Rat.num_divInt,show Int.gcd y x=Nat.gcd x.natAbs y.natAbs from Nat.gcd_comm _ _]
theorem rdiv_den (x y:Int) (h:y≠0):(((Rat.divInt x y).den:Nat):Int)=(y.natAbs:Int) / ((Nat.gcd x.natAbs y.natAbs:Nat):Int):=by
 rw [Rat.den_divInt,if_neg h,show Int.gcd y x=Nat.gcd x.natAbs y.natAbs from Nat.gcd_comm _ _];rfl
theorem uW {x y:Int} {K:Nat} (h:x.natAbs<B^K):(Rat.divInt x y).num.natAbs<B^K:=by
 rw [rdiv_num]
 refine Nat.lt_of_le_of_lt (Int.natAbs_ediv_le_natAbs _ _) (Nat.lt_of_le_of_lt ?_ h)
 rw [Int.natAbs_mul]
 have:y.sign.natAbs<=1:=by have:=sign_bdE y;omega
 exact Nat.le_trans (Nat.mul_le_mul_right _ this) (by omega)
theorem uX {x y:Int} {K:Nat} (h:y.natAbs<B^K) (h0:y≠0):(Rat.divInt x y).den<B^K:=by
 rw [Rat.den_divInt,if_neg h0]
 exact Nat.lt_of_le_of_lt (Nat.div_le_self _ _) h
theorem oZ {a b:Rat} (ha:a.den=1) (hb:b.den=1):(a*b).num=a.num*b.num/\dn (a*b)=0:=by
 constructor
 · rw [jG,ha,hb];simp
 · unfold dn;rw [if_pos (by rw [jH,ha,hb];simp)]
theorem fbw {a K L:Nat} (h:a<B^K) (hl:K<=L):a<B^L:=Nat.lt_of_lt_of_le h (Nat.pow_le_pow_right D6 hl)
theorem jY {x y:Int} {K:Nat} (hx:x.natAbs<B^K) (hy:y.natAbs<B^K):(x+y).natAbs<B^(K+1):=by
 have h1:=Int.natAbs_add_le x y
 rw [Nat.pow_succ]
 have h2:B^K*2<=B^K*B:=Nat.mul_le_mul_left _ (by unfold B;omega)
 omega
theorem iC {a b:Rat} (ha:a.den=1) (hb:b.den=1):(a+b).num=a.num+b.num/\dn (a+b)=0:=by
 have h:=pD a b 1 1 (a.num+b.num) (by rw [ha,hb];rfl) (by rw [ha,hb];simp) (by rw [Nat.gcd_one_right])
 constructor
 · rw [h.1];simp
 · unfold dn;rw [if_pos (by rw [h.2,ha,hb])]
theorem oX {a b:Rat} (ha:a.den=1) (hb:b.den=1):(a-b).num=a.num-b.num/\dn (a-b)=0:=by
 rw [Rat.sub_eq_add_neg]
 have h:=iC ha (show (-b).den=1 by rw [Rat.neg_den];exact hb)
 rw [Rat.neg_num] at h
 exact h
theorem tN (x y:Int) (h : 0<y):(Rat.divInt x y).num=x / ((Nat.gcd x.natAbs y.natAbs:Nat):Int)/\(((Rat.divInt x y).den:Nat):Int)=y / ((Nat.gcd x.natAbs y.natAbs:Nat):Int):=by
 constructor
 · rw [rdiv_num,Int.sign_eq_one_of_pos h,Int.one_mul]
 · rw [rdiv_den x y (by omega),Int.natAbs_of_nonneg (by omega)]
def RetInt2 (w:World) (n k:Int) (e:Ending) (w':World):Prop:=∃ v u,e = .returned (.tuple #[v,u])/\IntV w' v n/\IntV w' u k/\w.grownBy w' none
end Go.Proofs.YtdgdmicbbfoghaaGreatDoor
namespace Go.Proofs.YtdgdmicbbfoghaaGreatDoor
open Go.RowKit Mat Ex
def L6 (t:TypeId):Bool:=t == 91 || t == 3
theorem Rdo.keeps {W W':World} {sa:Option Addr} {xs:List Nat} (h:Rdo W sa xs) (k:Keeps L6 W W'):Rdo W' sa xs:=by
 rcases h with h | ⟨b,off,cs,e,h1,h2⟩
 · exact Or.inl h
 · exact Or.inr ⟨b,off,cs,e,k b cs _ _ rfl h1,h2⟩
theorem Lm.keeps {W W':World} {sa:Option Addr} {xs:List Nat} (h:Lm W sa xs) (k:Keeps L6 W W'):Lm W' sa xs:=⟨h.rd.keeps k,h.nil,h.top,h.dig⟩
theorem NatV.keeps {W W':World} {v:Value} {n:Nat} (h:NatV W v n) (k:Keeps L6 W W'):NatV W' v n:=by
 obtain ⟨sa,xs,e,h1,h2⟩:=h
 exact ⟨sa,xs,e,h1.keeps k,h2⟩
theorem IntV.keeps {W W':World} {v:Value} {z:Int} (h:IntV W v z) (k:Keeps L6 W W'):IntV W' v z:=by
 obtain ⟨sa,xs,b,e,h1,h2⟩:=h
 exact ⟨sa,xs,b,e,h1.keeps k,h2⟩
theorem RatV.keeps {W W':World} {v:Value} {r:Rat} (h:RatV W v r) (k:Keeps L6 W W'):RatV W' v r:=by
 obtain ⟨s,xs,b,s',xs',b',e,h1,h2⟩:=h
 exact ⟨s,xs,b,s',xs',b',e,h1.keeps k,h2.keeps k⟩
def P5 (cs:List Value) (c:Nat):Value:=F9 (.bool false) cs c
theorem F4 {cs:List Value} (h:∀ v ∈ cs,v.oneCell'=true) (c:Nat):(P5 cs c).oneCell'=true:=by
 unfold P5;rw [G5]
 cases hc:cs[c]? with
 | none=>rfl
 | some v=>exact h v (List.mem_of_getElem? hc)
abbrev Sp:=Ex.Spec L6
def sN (n:Nat):Sp := .of (.agg 1) (fun v W=>NatV W v n) (fun v W h=>by
 obtain ⟨sa,xs,rfl,_⟩:=h
 exact ⟨P5 [.slice sa xs.length xs.length],F4 (by simp [Value.oneCell']),rfl⟩) (fun v W W' k h=>h.keeps k)
def sI (z:Int):Sp := .of (.agg 2) (fun v W=>IntV W v z) (fun v W h=>by
 obtain ⟨sa,xs,b,rfl,_⟩:=h
 exact ⟨P5 [.slice sa xs.length xs.length,.bool b],F4 (by simp [Value.oneCell']),rfl⟩) (fun v W W' k h=>h.keeps k)
def sQ (r:Rat):Sp := .of (.agg 4) (fun v W=>RatV W v r) (fun v W h=>by
 obtain ⟨s,xs,b,s',xs',b',rfl,_⟩:=h
 exact ⟨P5 [.slice s xs.length xs.length,.bool b,.slice s' xs'.length xs'.length,.bool b'],F4 (by simp [Value.oneCell']),rfl⟩) (fun v W W' k h=>h.keeps k)
def sV (u:Value):Sp := .of (.lit u) (fun v _=>v=u) (fun v W h=>⟨fun _ => .bool false,fun _=>rfl,by rw [h];exact (Y7 _ u).symm⟩) (fun _ _ _ _ h=>h)
def sVV (a b:Value):Sp := .of (.tup [(some a,0),(some b,0)]) (fun v _=>v = .tuple #[a,b]) (fun v W h=>⟨fun _ => .bool false,fun _=>rfl,h⟩) (fun _ _ _ _ h=>h)
theorem X6 {u v:Value} {cs:List Value} (h:∀ x ∈ cs,x.oneCell'=true) {l:List (Option Value × Nat)} (e:v=(Sh.sv 0 (.tup l)).den ⟨fun _=>P5 cs,fun _=>0,fun _=>undef⟩):∃ f:Nat->Value,(∀ c,(f c).oneCell'=true)/\v=(Sh.sv 0 (.tup l)).den ⟨fun _=>f,fun _=>0,fun _=>undef⟩:=⟨_,F4 h,e⟩
def sNE (n:Nat) (c:Int):Sp := .of (.tup [(none,2),(some (.int .i64 c),0)]) (fun v W=>∃ u,v = .tuple #[u,.int .i64 c]/\NatV W u n) (fun v W h=>by
 obtain ⟨u,rfl,sa,xs,rfl,_⟩:=h
 exact X6 (u := .bool true) (cs:=[.slice sa xs.length xs.length]) (by simp [Value.oneCell']) rfl) (fun v W W' k h=>by obtain ⟨u,e,h⟩:=h;exact ⟨u,e,h.keeps k⟩)
def sIE (n:Int) (c:Int):Sp := .of (.tup [(none,3),(some (.int .i64 c),0)]) (fun v W=>∃ u,v = .tuple #[u,.int .i64 c]/\IntV W u n) (fun v W h=>by
 obtain ⟨u,rfl,sa,xs,b,rfl,_⟩:=h
 exact X6 (u := .bool true) (cs:=[.slice sa xs.length xs.length,.bool b]) (by simp [Value.oneCell']) rfl) (fun v W W' k h=>by obtain ⟨u,e,h⟩:=h;exact ⟨u,e,h.keeps k⟩)
def sQE (r:Rat) (c:Int):Sp := .of (.tup [(none,5),(some (.int .i64 c),0)]) (fun v W=>∃ u,v = .tuple #[u,.int .i64 c]/\RatV W u r) (fun v W h=>by
 obtain ⟨u,rfl,s,xs,b,s',xs',b',rfl,_⟩:=h
 exact X6 (u := .bool true) (cs:=[.slice s xs.length xs.length,.bool b,.slice s' xs'.length xs'.length,.bool b']) (by simp [Value.oneCell']) rfl) (fun v W W' k h=>by obtain ⟨u,e,h⟩:=h;exact ⟨u,e,h.keeps k⟩)
def sNN (n m:Nat):Sp := .of (.tup [(none,2),(none,2)]) (fun v W=>∃ u t,v = .tuple #[u,t]/\NatV W u n/\NatV W t m) (fun v W h=>by
 obtain ⟨u,t,rfl,⟨sa,xs,rfl,_⟩,sb,ys,rfl,_⟩:=h
 exact X6 (u := .bool true) (cs:=[.slice sa xs.length xs.length,.slice sb ys.length ys.length]) (by simp [Value.oneCell']) rfl) (fun v W W' k h=>by obtain ⟨u,t,e,h,h'⟩:=h;exact ⟨u,t,e,h.keeps k,h'.keeps k⟩)
def sII (n m:Int):Sp := .of (.tup [(none,3),(none,3)]) (fun v W=>∃ u t,v = .tuple #[u,t]/\IntV W u n/\IntV W t m) (fun v W h=>by
 obtain ⟨u,t,rfl,⟨sa,xs,b,rfl,_⟩,sb,ys,d,rfl,_⟩:=h
 exact X6 (u := .bool true) (cs:=[.slice sa xs.length xs.length,.bool b,.slice sb ys.length ys.length,.bool d]) (by simp [Value.oneCell']) rfl) (fun v W W' k h=>by obtain ⟨u,t,e,h,h'⟩:=h;exact ⟨u,t,e,h.keeps k,h'.keeps k⟩)
def uR (n m c:Int):Sp := .of (.tup [(none,3),(none,3),(some (.int .i64 c),0)]) (fun v W=>∃ u t,v = .tuple #[u,t,.int .i64 c]/\IntV W u n/\IntV W t m) (fun v W h=>by
 obtain ⟨u,t,rfl,⟨sa,xs,b,rfl,_⟩,sb,ys,d,rfl,_⟩:=h
 exact X6 (u := .bool true) (cs:=[.slice sa xs.length xs.length,.bool b,.slice sb ys.length ys.length,.bool d]) (by simp [Value.oneCell']) rfl) (fun v W W' k h=>by obtain ⟨u,t,e,h,h'⟩:=h;exact ⟨u,t,e,h.keeps k,h'.keeps k⟩)
def sC (u:Value) (h:u.oneCell'=true):Sp := .of (.one) (fun v _=>v=u) (fun v W e=>⟨fun _=>u,fun _=>h,e⟩) (fun _ _ _ _ h=>h)
def sZ (n:Int):Sp:=sC (.int .i64 n) rfl
def sS (s:ByteArray):Sp:=sC (.string s) rfl
def sZB (n:Int) (b:Bool):Sp := .of (.tup [(none,0),(none,0)]) (fun v _=>v = .tuple #[.int .i64 n,.bool b]) (fun v W h=>X6 (u := .bool true) (cs:=[.int .i64 n,.bool b]) (by simp [Value.oneCell']) h) (fun _ _ _ _ h=>h)
theorem zb1 {n:Int} {b:Bool} {u v:Value} {W:World} : (sZB n b).F (.tuple #[u,v]) W->u = .int .i64 n:=fun h=>by cases h;rfl
def sT (R:ByteArray->Prop):Sp := .of (.one) (fun v _=>∃ s,v = .string s/\R s) (fun v W h=>by obtain ⟨s,rfl,_⟩:=h;exact ⟨fun _ => .string s,fun _=>rfl,rfl⟩) (fun _ _ _ _ h=>h)
def sCut (s t:ByteArray) (b:Bool):Sp := .of (.tup [(none,0),(none,0),(some (.bool b),0)]) (fun v _=>v = .tuple #[.string s,.string t,.bool b]) (fun v W h=>X6 (u := .bool true) (cs:=[.string s,.string t]) (by simp [Value.oneCell']) h) (fun _ _ _ _ h=>h)
theorem cut1 {s t:ByteArray} {b:Bool} {u v x:Value} {W:World} : (sCut s t b).F (.tuple #[u,v,x]) W->u = .string s:=fun h=>by cases h;rfl
theorem cut2 {s t:ByteArray} {b:Bool} {u v x:Value} {W:World} : (sCut s t b).F (.tuple #[u,v,x]) W->v = .string t:=fun h=>by cases h;rfl
def sQC (r:Rat) (c:Int):Sp := .of (.tup [(none,5),(none,0)]) (fun v W=>∃ u,v = .tuple #[u,.int .i64 c]/\RatV W u r) (fun v W h=>by
 obtain ⟨u,rfl,s,xs,b,s',xs',b',rfl,_⟩:=h
 exact X6 (u := .bool true) (cs:=[.slice s xs.length xs.length,.bool b,.slice s' xs'.length xs'.length,.bool b',.int .i64 c]) (by simp [Value.oneCell']) rfl) (fun v W W' k h=>by obtain ⟨u,e,h⟩:=h;exact ⟨u,e,h.keeps k⟩)
theorem qcE {r:Rat} {c:Int} {a b:Value} {w W:World} (h:(sQC r c).F (.tuple #[a,b]) W) (g:w.grownBy W none):gK w r c (.returned (.tuple #[a,b])) W:=by
 obtain ⟨u,e,h⟩:=h;cases e;exact ⟨_,rfl,h,g⟩
theorem nE {n:Nat} {c:Int} {a b:Value} {W:World} : (sNE n c).F (.tuple #[a,b]) W->NatV W a n:=by rintro ⟨u,e,h⟩;cases e;exact h
theorem iE {n:Int} {c:Int} {a b:Value} {W:World} : (sIE n c).F (.tuple #[a,b]) W->IntV W a n:=by rintro ⟨u,e,h⟩;cases e;exact h
theorem qE {r:Rat} {c:Int} {a b:Value} {W:World} : (sQE r c).F (.tuple #[a,b]) W->RatV W a r:=by rintro ⟨u,e,h⟩;cases e;exact h
theorem nn1 {n m:Nat} {a b:Value} {W:World} : (sNN n m).F (.tuple #[a,b]) W->NatV W a n:=by rintro ⟨u,t,e,h,_⟩;cases e;exact h
theorem nn2 {n m:Nat} {a b:Value} {W:World} : (sNN n m).F (.tuple #[a,b]) W->NatV W b m:=by rintro ⟨u,t,e,_,h⟩;cases e;exact h
theorem ii1 {n m:Int} {a b:Value} {W:World} : (sII n m).F (.tuple #[a,b]) W->IntV W a n:=by rintro ⟨u,t,e,h,_⟩;cases e;exact h
theorem ii2 {n m:Int} {a b:Value} {W:World} : (sII n m).F (.tuple #[a,b]) W->IntV W b m:=by rintro ⟨u,t,e,_,h⟩;cases e;exact h
theorem iiE1 {n m c:Int} {a b d:Value} {W:World} : (uR n m c).F (.tuple #[a,b,d]) W->IntV W a n:=by rintro ⟨u,t,e,h,_⟩;cases e;exact h
theorem iiE2 {n m c:Int} {a b d:Value} {W:World} : (uR n m c).F (.tuple #[a,b,d]) W->IntV W b m:=by rintro ⟨u,t,e,_,h⟩;cases e;exact h
theorem qn {W:World} {a b c d:Value} {r:Rat} : RatV W (.agg #[a,b,c,d]) r->IntV W (.agg #[a,b]) r.num:=by
 rintro ⟨s,xs,f,s',xs',f',e,h,h'⟩;cases e;exact h
theorem qd {W:World} {a b c d:Value} {r:Rat} : RatV W (.agg #[a,b,c,d]) r->IntV W (.agg #[c,d]) (dn r):=by
 rintro ⟨s,xs,f,s',xs',f',e,h,h'⟩;cases e;exact h'
theorem mkq {W:World} {a b c d:Value} {r:Rat} (h:IntV W (.agg #[a,b]) r.num) (h':IntV W (.agg #[c,d]) (dn r)):RatV W (.agg #[a,b,c,d]) r:=by
 obtain ⟨s,xs,f,e,h1⟩:=h
 obtain ⟨s',xs',f',e',h1'⟩:=h'
 cases e;cases e'
 exact ⟨s,xs,f,s',xs',f',rfl,⟨s,xs,f,rfl,h1⟩,s',xs',f',rfl,h1'⟩
theorem zn {W:World} {a b:Value} {z:Int} : IntV W (.agg #[a,b]) z->NatV W (.agg #[a]) z.natAbs:=by
 rintro ⟨s,xs,f,e,h,h',_⟩;cases e;exact ⟨s,xs,rfl,h,h'⟩
theorem mkz {W:World} {a:Value} {b:Bool} {z:Int} (h:NatV W (.agg #[a]) z.natAbs) (hb:b=true ↔ z<0):IntV W (.agg #[a,.bool b]) z:=by
 obtain ⟨s,xs,e,h1,h2⟩:=h
 cases e
 exact ⟨s,xs,b,rfl,h1,h2,hb⟩
section
variable {P:Program} {f:FuncId} {args:Array Value} {W:World}
theorem toV {u u':Value} (h:Calls P f args W (fun e w'=>e = .returned u/\W.grownBy w' none)) (e:u=u'):Calls P f args W (Ret W (sV u').F):=
 h.mono fun _ _ ⟨a,g⟩=>⟨u,a,e,g⟩
theorem toVV {a b a' b':Value} (h:Calls P f args W (fun e w'=>e = .returned (.tuple #[a,b])/\W.grownBy w' none)) (e:a=a') (e':b=b'):Calls P f args W (Ret W (sVV a' b').F):=
 h.mono fun _ _ ⟨a,g⟩=>⟨_,a,by rw [e,e'];rfl,g⟩
theorem toZB {n:Int} {b:Bool} (h:Calls P f args W (fun e w'=>e = .returned (.tuple #[.int .i64 n,.bool b])/\W.grownBy w' none)):Calls P f args W (Ret W (sZB n b).F):=
 h.mono fun _ _ ⟨a,g⟩=>⟨_,a,rfl,g⟩
theorem toNE {n:Nat} {c c':Int} (h:Calls P f args W (fun e w'=>∃ v,e = .returned (.tuple #[v,.int .i64 c])/\NatV w' v n/\W.grownBy w' none)) (e:c=c'):Calls P f args W (Ret W (sNE n c').F):=
 h.mono fun _ _ ⟨v,a,h,g⟩=>⟨_,a,⟨v,by rw [e],h⟩,g⟩
theorem toIE {n:Int} {c c':Int} (h:Calls P f args W (fun e w'=>∃ v,e = .returned (.tuple #[v,.int .i64 c])/\IntV w' v n/\W.grownBy w' none)) (e:c=c'):Calls P f args W (Ret W (sIE n c').F):=
 h.mono fun _ _ ⟨v,a,h,g⟩=>⟨_,a,⟨v,by rw [e],h⟩,g⟩
theorem toQE {r:Rat} {c c':Int} (h:Calls P f args W (gK W r c)) (e:c=c'):Calls P f args W (Ret W (sQE r c').F):=
 h.mono fun _ _ ⟨v,a,h,g⟩=>⟨_,a,⟨v,by rw [e],h⟩,g⟩
theorem toQC {r:Rat} {c:Int} (h:Calls P f args W (gK W r c)):Calls P f args W (Ret W (sQC r c).F):=
 h.mono fun _ _ ⟨v,a,h,g⟩=>⟨_,a,⟨v,rfl,h⟩,g⟩
theorem toII {n m:Int} (h:Calls P f args W (fun e w'=>∃ v u,e = .returned (.tuple #[v,u])/\IntV w' v n/\IntV w' u m/\W.grownBy w' none)):Calls P f args W (Ret W (sII n m).F):=
 h.mono fun _ _ ⟨v,u,a,h,h',g⟩=>⟨_,a,⟨v,u,rfl,h,h'⟩,g⟩
theorem sJ {n m c c':Int} (h:Calls P f args W (eU W n m c)) (e:c=c'):Calls P f args W (Ret W (uR n m c').F):=
 h.mono fun _ _ ⟨v,u,a,h,h',g⟩=>⟨_,a,⟨v,u,by rw [e],h,h'⟩,g⟩
theorem toT {R:ByteArray->Prop} (h:Calls P f args W (fun e w'=>∃ s,e = .returned (.string s)/\R s/\W.grownBy w' none)):Calls P f args W (Ret W (sT R).F):=
 h.mono fun _ _ ⟨s,a,h,g⟩=>⟨_,a,⟨s,rfl,h⟩,g⟩
end
theorem R0 {P:Program} {f:FuncId} {a b:Value} {w:World} {R:Ending->World->Prop} (e:a=b) (h:Calls P f #[b] w R):Calls P f #[a] w R:=e ▸ h
theorem Q9 {P:Program} {f:FuncId} {l m:List Value} {w:World} {R:Ending->World->Prop} (e:l=m) (h:Calls P f m.toArray w R):Calls P f l.toArray w R:=e ▸ h
theorem B5:Tryz.prog.follows .mixedOrders=true:=by kernel_rfl
theorem fits_one {x:Int} (h:x=1):fA x:=by unfold fA;omega
theorem A5 {P:Program} {ρ : Operand->Value} {o:Oper} {op:BinOp} {t t':TypeId} {x y:Operand} {a b:Int} {v:Value} {W:World} (ho:o.op = .binOp op t x y t') (hx : ρ x = .int .i64 a) (hy : ρ y = .int .i64 b) (h:binOp op t (.int .i64 a) (.int .i64 b) = .pure v) :
 (execOp ρ o).run P W = .ok (.value v) W:=by
 have hg:eqGuard op t x y (.int .i64 a) (.int .i64 b)=pure ():=by unfold eqGuard;cases op<;>rfl
 simp only [execOp,ho,hx,hy,hg,h];rfl
theorem A0 {ρ : Operand->Value} {x y:Operand} {u v:Value} (h:[x,y].map ρ=[u,v]) : ρ x=u/\ρ y=v:=by simpa using h
def sNNE (n k:Nat) (c:Int):Sp := .of (.tup [(none,2),(none,2),(some (.int .i64 c),0)]) (fun v W=>∃ u t,v = .tuple #[u,t,.int .i64 c]/\NatV W u n/\NatV W t k) (fun v W h=>by
 obtain ⟨u,t,rfl,⟨s,xs,rfl,_⟩,s',xs',rfl,_⟩:=h
 exact X6 (u := .bool true) (cs:=[.slice s xs.length xs.length,.slice s' xs'.length xs'.length]) (by simp [Value.oneCell']) rfl) (fun v W W' k h=>by obtain ⟨u,t,e,h,h'⟩:=h;exact ⟨u,t,e,h.keeps k,h'.keeps k⟩)
theorem nnE1 {n k:Nat} {c:Int} {a b d:Value} {W:World} : (sNNE n k c).F (.tuple #[a,b,d]) W->NatV W a n:=by rintro ⟨u,t,e,h,_⟩;cases e;exact h
theorem nnE2 {n k:Nat} {c:Int} {a b d:Value} {W:World} : (sNNE n k c).F (.tuple #[a,b,d]) W->NatV W b k:=by rintro ⟨u,t,e,_,h⟩;cases e;exact h
theorem toNNE {P:Program} {f:FuncId} {args:Array Value} {W:World} {n k:Nat} {c:Int} (h:Calls P f args W (rE W n k c)):Calls P f args W (Ret W (sNNE n k c).F):=h.mono fun _ _ ⟨v,u,a,h,h',g⟩=>⟨_,a,⟨v,u,rfl,h,h'⟩,g⟩
theorem toNE' {P:Program} {f:FuncId} {args:Array Value} {W:World} {n:Nat} {c:Int} (h:Calls P f args W (bC W n c)):Calls P f args W (Ret W (sNE n c).F):=h.mono fun _ _ ⟨v,a,h,g⟩=>⟨_,a,⟨v,rfl,h⟩,g⟩
theorem neE' {n:Nat} {c:Int} {a b:Value} {W:World} : (sNE n c).F (.tuple #[a,b]) W->NatV W a n:=by rintro ⟨u,e,h⟩;cases e;exact h
theorem zsb {W:World} {a b:Value} {z:Int} : IntV W (.agg #[a,b]) z->b = .bool (decide (z<0)):=by
 rintro ⟨s,xs,f,e,h,h',h2⟩
 cases e
 cases f
 · rw [decide_eq_false (fun z=>Bool.false_ne_true (h2.2 z))]
 · rw [decide_eq_true (h2.1 rfl)]
theorem kX {P:Program} {ρ : Operand->Value} {o:Oper} {t t':TypeId} {x y:Operand} {p q:Bool} {W:World} (ho:o.op = .binOp .neq t x y t') (hx : ρ x = .bool p) (hy : ρ y = .bool q) (hu:P.underlying t=some .bool):(execOp ρ o).run P W = .ok (.value (.bool (p != q))) W:=by
 have hg:eqGuard .neq t x y (.bool p) (.bool q)=pure ():=by unfold eqGuard;rfl
 have hb:binOp .neq t (.bool p) (.bool q)=(do pure (.bool (!(<- Op.equal t (.bool p) (.bool q))))):=by simp [binOp]
 have he:(Op.equal t (.bool p) (.bool q)).run P W = .ok (p == q) W:=by
  unfold Op.equal
  show Sem.run P (Op.equalIn (_+1) t (.bool p) (.bool q)) W=_
  rw [Op.equalIn,Sem.run_bind,run_underlying hu W]
  rfl
 simp only [execOp,ho,hx,hy,hg,hb,Sem.run_bind,Sem.run_pure,Result.andThen_ok,he]
 rfl
theorem sgn_neg {x:Int} : decide (x.sign<0)=decide (x<0):=by
 rcases Int.lt_trichotomy x 0 with h | h | h
 · rw [Int.sign_eq_neg_one_of_neg h,decide_eq_true h];rfl
 · rw [h];rfl
 · rw [Int.sign_eq_one_of_pos h];exact (decide_eq_false (by omega)).symm
theorem zar2 {P:Program} {f:FuncId} {u a b:Value} {w:World} {R:Ending->World->Prop} (e:a=b) (h:Calls P f #[u,b] w R):Calls P f #[u,a] w R:=e ▸ h
theorem ZFloor_low (w:World) (va vb:Value) (x y:Int) (K:Nat) (ha:IntV w va x) (hb:IntV w vb y) (hK:K<=900000) (la:x.natAbs<B^K) (lb:y.natAbs<B^K) (h0:y≠0) (hx:¬ x<0) :
 Calls Tryz.prog 44 #[va,vb] w (eU w (x / y) (x%y) 0):=by
 have hy : 0<y.natAbs:=by omega
 have lr:x.natAbs%y.natAbs<B^K:=Nat.lt_trans (Nat.mod_lt _ hy) lb
 have lq:x.natAbs / y.natAbs<B^K:=Nat.lt_of_le_of_lt (Nat.div_le_self _ _) la
 have lq1:x.natAbs / y.natAbs<B^(K+1):=Nat.lt_of_lt_of_le lq (Nat.pow_le_pow_right D6 (by omega))
 have lq2:x.natAbs / y.natAbs+1<B^(K+1):=by
  have:B^(K+1)=B^K*B:=Nat.pow_succ ..
  have:B^K*2<=B^K*B:=Nat.mul_le_mul_left _ (by unfold B;decide)
  omega
 have hd:=Nat.div_add_mod x.natAbs y.natAbs
 have hm:=Nat.mod_lt x.natAbs hy
 obtain ⟨q,hq⟩:∃ q,x.natAbs / y.natAbs=q:=⟨_,rfl⟩
 obtain ⟨r,hr'⟩:∃ r,x.natAbs%y.natAbs=r:=⟨_,rfl⟩
 rw [hq] at lq lq1 lq2 hd
 rw [hr'] at lr hd hm
 · skip
   have e:=lG (x:=x) (y:=y) (za:=decide (x<0)) (zb:=decide (y<0)) (by simp) (by simp) q r hm (.inl ⟨hx,hd⟩)
   refine A6 B5 Tryz.func44 [sI x,sI y] [sNNE q r 0,sZ x.sign,sV (.bool false),sC (.bool (decide (x<0) != decide (y<0))) rfl,sI (if (decide (x<0) != decide (y<0))=true then -((q:Nat):Int) else ((q:Nat):Int))] (.cons ha (.cons hb .nil)) (rs:=[cl 2 103 [ag 1 0,ag 1 1],cl 3 46 [ag 2 0],co 4 (.binOp .lss 3 (.tmp 25) (.const (.int .i64 0)) 3) 4 [on 3,.v false [.lit (.int .i64 0)]] [0,1,2,3] [],co 5 (.binOp .neq 4 (.tmp 44) (.tmp 46) 4) 4 [.v false [.an 0 1],.v false [.an 1 1]] [0,1,2,3,4] [],cl 6 98 [ag 1 2,on 5]]) (out := .tup [(true,[.an 6 0,.an 6 1]),(true,[.an 2 1,.lit (.bool false)]),(false,[.lit (.int .i64 0)])]) (nc:=7) (by kernel_rfl)
    ⟨fun σ W g h hb=>toNNE (hq ▸ hr' ▸ rM W _ _ _ _ K (zn (h 0 rfl)) (zn (h 1 rfl)) (by omega) la lb hy),
    fun σ W g h hb=>(D5 W _ x K (h 0 rfl) (by omega) la).mono fun _ _ ⟨a,g⟩=>⟨_,a,rfl,g⟩,
    fun σ W g h hb=>fun ρ o ho _ hv=>⟨_,A5 ho ((A0 hv).1.trans (h 3 rfl)) (A0 hv).2 rfl,congrArg Value.bool (sgn_neg.trans (decide_eq_false hx))⟩,
    fun σ W g h hb=>fun ρ o ho _ hv=>⟨_,kX ho ((A0 hv).1.trans (zsb (h 0 rfl))) ((A0 hv).2.trans (zsb (h 1 rfl))) Tryz.underlying4,rfl⟩,
    fun σ W g h hb=>zar2 (h 5 rfl) (G9 W _ q (K+1) _ (nnE1 (h 2 rfl)) (by omega) lq1),
    trivial⟩ fun τ W g h=>⟨_,_,rfl,e.1 ▸ h 6 rfl,e.2 ▸ mkz (nnE2 (h 2 rfl)) (by simp),g⟩
theorem ZFloor_even (w:World) (va vb:Value) (x y:Int) (K:Nat) (ha:IntV w va x) (hb:IntV w vb y) (hK:K<=900000) (la:x.natAbs<B^K) (lb:y.natAbs<B^K) (h0:y≠0) (hx:x<0) (hr0:x.natAbs%y.natAbs=0) :
 Calls Tryz.prog 44 #[va,vb] w (eU w (x / y) (x%y) 0):=by
 have hy : 0<y.natAbs:=by omega
 have lr:x.natAbs%y.natAbs<B^K:=Nat.lt_trans (Nat.mod_lt _ hy) lb
 have lq:x.natAbs / y.natAbs<B^K:=Nat.lt_of_le_of_lt (Nat.div_le_self _ _) la
 have lq1:x.natAbs / y.natAbs<B^(K+1):=Nat.lt_of_lt_of_le lq (Nat.pow_le_pow_right D6 (by omega))
 have lq2:x.natAbs / y.natAbs+1<B^(K+1):=by
  have:B^(K+1)=B^K*B:=Nat.pow_succ ..
  have:B^K*2<=B^K*B:=Nat.mul_le_mul_left _ (by unfold B;decide)
  omega
 have hd:=Nat.div_add_mod x.natAbs y.natAbs
 have hm:=Nat.mod_lt x.natAbs hy
 obtain ⟨q,hq⟩:∃ q,x.natAbs / y.natAbs=q:=⟨_,rfl⟩
 obtain ⟨r,hr'⟩:∃ r,x.natAbs%y.natAbs=r:=⟨_,rfl⟩
 rw [hq] at lq lq1 lq2 hd
 rw [hr'] at lr hd hm
 rw [hr'] at hr0
 have hr:¬ (0:Int)<nb r:=by rw [hr0];decide
 · skip
   have e:=lG (x:=x) (y:=y) (za:=decide (x<0)) (zb:=decide (y<0)) (by simp) (by simp) q r hm (.inr ⟨hx,by omega⟩)
   refine A6 B5 Tryz.func44 [sI x,sI y] [sNNE q r 0,sZ x.sign,sV (.bool true),sZ (nb r),sV (.bool false),sC (.bool (decide (x<0) != decide (y<0))) rfl,sI (if (decide (x<0) != decide (y<0))=true then -((q:Nat):Int) else ((q:Nat):Int))] (.cons ha (.cons hb .nil)) (rs:=[cl 2 103 [ag 1 0,ag 1 1],cl 3 46 [ag 2 0],co 4 (.binOp .lss 3 (.tmp 25) (.const (.int .i64 0)) 3) 4 [on 3,.v false [.lit (.int .i64 0)]] [0,1,2,3] [],cl 5 104 [.v true [.an 2 1]],co 6 (.binOp .gtr 3 (.tmp 29) (.const (.int .i64 0)) 3) 4 [on 5,.v false [.lit (.int .i64 0)]] [0,1,2,3,4,5] [],co 7 (.binOp .neq 4 (.tmp 44) (.tmp 46) 4) 4 [.v false [.an 0 1],.v false [.an 1 1]] [0,1,2,3,4,5,6] [],cl 8 98 [ag 1 2,on 7]]) (out := .tup [(true,[.an 8 0,.an 8 1]),(true,[.an 2 1,.lit (.bool false)]),(false,[.lit (.int .i64 0)])]) (nc:=9) (by kernel_rfl)
    ⟨fun σ W g h hb=>toNNE (hq ▸ hr' ▸ rM W _ _ _ _ K (zn (h 0 rfl)) (zn (h 1 rfl)) (by omega) la lb hy),
    fun σ W g h hb=>(D5 W _ x K (h 0 rfl) (by omega) la).mono fun _ _ ⟨a,g⟩=>⟨_,a,rfl,g⟩,
    fun σ W g h hb=>fun ρ o ho _ hv=>⟨_,A5 ho ((A0 hv).1.trans (h 3 rfl)) (A0 hv).2 rfl,congrArg Value.bool (sgn_neg.trans (decide_eq_true hx))⟩,
    fun σ W g h hb=>(L9 W _ _ K (nnE2 (h 2 rfl)) (by omega) lr).mono fun _ _ ⟨a,g⟩=>⟨_,a,rfl,g⟩,
    fun σ W g h hb=>fun ρ o ho _ hv=>⟨_,A5 ho ((A0 hv).1.trans (h 5 rfl)) (A0 hv).2 rfl,congrArg Value.bool (decide_eq_false hr)⟩,
    fun σ W g h hb=>fun ρ o ho _ hv=>⟨_,kX ho ((A0 hv).1.trans (zsb (h 0 rfl))) ((A0 hv).2.trans (zsb (h 1 rfl))) Tryz.underlying4,rfl⟩,
    fun σ W g h hb=>zar2 (h 7 rfl) (G9 W _ q (K+1) _ (nnE1 (h 2 rfl)) (by omega) lq1),
    trivial⟩ fun τ W g h=>⟨_,_,rfl,e.1 ▸ h 8 rfl,e.2 ▸ mkz (nnE2 (h 2 rfl)) (by simp),g⟩
theorem ZFloor_odd (w:World) (va vb:Value) (x y:Int) (K:Nat) (ha:IntV w va x) (hb:IntV w vb y) (hK:K<=900000) (la:x.natAbs<B^K) (lb:y.natAbs<B^K) (h0:y≠0) (hx:x<0) (hr0 : 0<x.natAbs%y.natAbs) :
 Calls Tryz.prog 44 #[va,vb] w (eU w (x / y) (x%y) 0):=by
 have hy : 0<y.natAbs:=by omega
 have lr:x.natAbs%y.natAbs<B^K:=Nat.lt_trans (Nat.mod_lt _ hy) lb
 have lq:x.natAbs / y.natAbs<B^K:=Nat.lt_of_le_of_lt (Nat.div_le_self _ _) la
 have lq1:x.natAbs / y.natAbs<B^(K+1):=Nat.lt_of_lt_of_le lq (Nat.pow_le_pow_right D6 (by omega))
 have lq2:x.natAbs / y.natAbs+1<B^(K+1):=by
  have:B^(K+1)=B^K*B:=Nat.pow_succ ..
  have:B^K*2<=B^K*B:=Nat.mul_le_mul_left _ (by unfold B;decide)
  omega
 have hd:=Nat.div_add_mod x.natAbs y.natAbs
 have hm:=Nat.mod_lt x.natAbs hy
 obtain ⟨q,hq⟩:∃ q,x.natAbs / y.natAbs=q:=⟨_,rfl⟩
 obtain ⟨r,hr'⟩:∃ r,x.natAbs%y.natAbs=r:=⟨_,rfl⟩
 rw [hq] at lq lq1 lq2 hd
 rw [hr'] at lr hd hm
 rw [hr'] at hr0
 have hr:(0:Int)<nb r:=by have:=(bI hr0).2.2;omega
 · skip
   have e:=lG (x:=x) (y:=y) (za:=decide (x<0)) (zb:=decide (y<0)) (by simp) (by simp) (q+1) (y.natAbs-r) (by omega) (.inr ⟨hx,by rw [Nat.mul_add];omega⟩)
   refine A6 B5 Tryz.func44 [sI x,sI y] [sNNE q r 0,sZ x.sign,sV (.bool true),sZ (nb r),sV (.bool true),sN 1,sN (q+1),sNE (y.natAbs-r) 0,sC (.bool (decide (x<0) != decide (y<0))) rfl,sI (if (decide (x<0) != decide (y<0))=true then -(((q+1):Nat):Int) else (((q+1):Nat):Int))] (.cons ha (.cons hb .nil)) (rs:=[cl 2 103 [ag 1 0,ag 1 1],cl 3 46 [ag 2 0],co 4 (.binOp .lss 3 (.tmp 25) (.const (.int .i64 0)) 3) 4 [on 3,.v false [.lit (.int .i64 0)]] [0,1,2,3] [],cl 5 104 [.v true [.an 2 1]],co 6 (.binOp .gtr 3 (.tmp 29) (.const (.int .i64 0)) 3) 4 [on 5,.v false [.lit (.int .i64 0)]] [0,1,2,3,4,5] [],cl 7 48 [.v false [.lit (.int .u64 1)]],cl 8 105 [ag 1 2,ag 1 7],cl 9 106 [ag 1 1,.v true [.an 2 1]],co 10 (.binOp .neq 4 (.tmp 44) (.tmp 46) 4) 4 [.v false [.an 0 1],.v false [.an 1 1]] [0,1,2,3,4,5,6,7,8,9] [],cl 11 98 [ag 1 8,on 10]]) (out := .tup [(true,[.an 11 0,.an 11 1]),(true,[.an 9 0,.lit (.bool false)]),(false,[.lit (.int .i64 0)])]) (nc:=12) (by kernel_rfl)
    ⟨fun σ W g h hb=>toNNE (hq ▸ hr' ▸ rM W _ _ _ _ K (zn (h 0 rfl)) (zn (h 1 rfl)) (by omega) la lb hy),
    fun σ W g h hb=>(D5 W _ x K (h 0 rfl) (by omega) la).mono fun _ _ ⟨a,g⟩=>⟨_,a,rfl,g⟩,
    fun σ W g h hb=>fun ρ o ho _ hv=>⟨_,A5 ho ((A0 hv).1.trans (h 3 rfl)) (A0 hv).2 rfl,congrArg Value.bool (sgn_neg.trans (decide_eq_true hx))⟩,
    fun σ W g h hb=>(L9 W _ _ K (nnE2 (h 2 rfl)) (by omega) lr).mono fun _ _ ⟨a,g⟩=>⟨_,a,rfl,g⟩,
    fun σ W g h hb=>fun ρ o ho _ hv=>⟨_,A5 ho ((A0 hv).1.trans (h 5 rfl)) (A0 hv).2 rfl,congrArg Value.bool (decide_eq_true hr)⟩,
    fun σ W g h hb=>rH W 1 (by unfold B;decide),
    fun σ W g h hb=>kK W _ _ q 1 (K+1) (nnE1 (h 2 rfl)) (h 7 rfl) (by omega) lq1 (Nat.one_lt_pow (by omega) (by unfold B;decide)),
    fun σ W g h hb=>toNE' (eQ W _ _ _ _ K (zn (h 1 rfl)) (nnE2 (h 2 rfl)) (by omega) lb (by omega)),
    fun σ W g h hb=>fun ρ o ho _ hv=>⟨_,kX ho ((A0 hv).1.trans (zsb (h 0 rfl))) ((A0 hv).2.trans (zsb (h 1 rfl))) Tryz.underlying4,rfl⟩,
    fun σ W g h hb=>zar2 (h 10 rfl) (G9 W _ (q+1) (K+1) _ (h 8 rfl) (by omega) lq2),
    trivial⟩ fun τ W g h=>⟨_,_,rfl,e.1 ▸ h 11 rfl,e.2 ▸ mkz (neE' (h 9 rfl)) (by simp),g⟩
theorem U1 (w:World) (va vb:Value) (x y:Int) (K:Nat) (ha:IntV w va x) (hb:IntV w vb y) (hK:K<=900000) (la:x.natAbs<B^K) (lb:y.natAbs<B^K) (h0:y≠0) :
 Calls Tryz.prog 44 #[va,vb] w (eU w (x / y) (x%y) 0):=by
 by_cases hx:x<0
 · by_cases hr:x.natAbs%y.natAbs=0
   · exact ZFloor_even w va vb x y K ha hb hK la lb h0 hx hr
   · exact ZFloor_odd w va vb x y K ha hb hK la lb h0 hx (by omega)
 · exact ZFloor_low w va vb x y K ha hb hK la lb h0 hx
end Go.Proofs.YtdgdmicbbfoghaaGreatDoor
