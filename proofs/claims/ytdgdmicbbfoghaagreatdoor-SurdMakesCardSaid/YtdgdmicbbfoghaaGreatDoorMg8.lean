/- What the laws lean on, part 8. -/
import Derived.BigQuiet
import Derived.Deep.CutBlock
import Derived.Deep.CutRange
import Derived.Deep.DeepCutAuto
import Derived.Deep.LoopGhost
import Derived.Deep.QuietTactic
import Derived.Deep.RegionHeld3
import Derived.Laws.CopyOwn
import Derived.Laws.Externs
import Derived.Lib.BitFns
import Derived.Lib.Hide
import Derived.Lib.Slices
import Derived.Lib.Small
import Derived.Lib.Strings
import Derived.Lib.Walk
import Derived.Outline
import Derived.Shelf.Bits.Mul64
import Derived.Shelf.Spec.TrailingZeros
import Derived.StillTailTactics
import Derived.WalkKit
import Derived.WalkLawsBesides
import Derived.WalkSpells
import Derived.Test.YtdgdmicbbfoghaaGreatDoorProg
import Derived.Test.YtdgdmicbbfoghaaGreatDoorMg7
set_option linter.unusedVariables false
set_option linter.unusedSimpArgs false
set_option maxRecDepth 100000
namespace Go.Proofs.YtdgdmicbbfoghaaGreatDoor
open Go.RowKit Mat
theorem newton_ge {a R:Nat} (h0 : 0<R):a<((R+a / R) / 2+1)*((R+a / R) / 2+1):=by
 have h1:=Nat.div_add_mod a R
 have h2:a%R<R:=Nat.mod_lt _ h0
 generalize a / R=q at *
 generalize a%R=m at *
 have h3:a<R*(q+1):=by rw [Nat.mul_add,Nat.mul_one];omega
 obtain ⟨t,ht⟩:∃ t,(R+q) / 2=t:=⟨_,rfl⟩
 rw [ht]
 have h4:R+q+1<=2*(t+1):=by omega
 have h5:(R+q+1)*(R+q+1)<=(2*(t+1))*(2*(t+1)):=Nat.mul_le_mul h4 h4
 have h6 : 4*(R*(q+1))<=(R+q+1)*(R+q+1):=by
  rcases Nat.le_total R (q+1) with h | h
  · obtain ⟨e,he⟩:∃ e,q+1=R+e:=⟨q+1-R,by omega⟩
    rw [Nat.add_assoc,he]
    have:(R+(R+e))*(R+(R+e))=4*(R*(R+e))+e*e:=by grind
    omega
  · obtain ⟨e,he⟩:∃ e,R=(q+1)+e:=⟨R-(q+1),by omega⟩
    rw [Nat.add_assoc,he]
    have:((q+1)+e+(q+1))*((q+1)+e+(q+1))=4*(((q+1)+e)*(q+1))+e*e:=by grind
    omega
 have h7:(2*(t+1))*(2*(t+1))=4*((t+1)*(t+1)):=by grind
 omega
theorem newton_stop {a R:Nat} (h0 : 0<R) (h:R<=(R+a / R) / 2):R*R<=a:=by
 have h1:R<=a / R:=by omega
 exact (Nat.le_div_iff_mul_le h0).1 h1
theorem fK (v:Value) (W:World):(Instr.field 26 (.agg #[v]) 0).run Tryz.prog W = .ok v W:=by kernel_rfl
def RetRoot (w:World) (a K:Nat) (e:Ending) (w':World):Prop:=∃ v r,e = .returned v/\NatV w' v r/\IsRoot a r/\w.grownBy w' none
def eV (w:World) (a K:Nat) (e:Ending) (w':World):Prop:=∃ v r,e = .returned v/\NatV w' v r/\0<r/\r<B^(K+1)/\a<(r+1)*(r+1)/\w.grownBy w' none
def rD (a:Nat):Prop:=∀ (w:World) (va:Value) (K:Nat),NatV w va a->0<a->a<B^K->1<=K->K<=536870912->Calls Tryz.prog 93 #[va] w (RetRoot w a K)
set_option maxHeartbeats 4000000 in
theorem above_small (w:World) (va:Value) (a K:Nat) (ha:NatV w va a) (h0 : 0<a) (la:a<B^K) (hK1 : 1<=K) (hK:K<=536870912) (hn:nb a<=64) :
 Calls Tryz.prog 139 #[va] w (eV w a K):=by
 obtain ⟨sa,xs,rfl,hx,rfl⟩:=ha
 obtain ⟨a1,a2,a3⟩:=bI h0
 have hB:=L9 ((w.alloc (.cells #[.slice sa xs.length xs.length] 26)).alloc (.cells #[.slice none 0 0] 26)) _ (val B xs) K ⟨sa,xs,rfl,hx.kept (A8 (World.grownBy_alloc _ _ _) _),rfl⟩ (by omega) la
 obtain ⟨n,hnn⟩:∃ n,nb (val B xs)=n:=⟨_,rfl⟩
 rw [hnn] at hB hn a1 a2 a3
 have HB:=Lib.hid hB
 obtain ⟨p,hp⟩:∃ p,(n+1) / 2=p:=⟨_,rfl⟩
 have e1:((n:Int)+1) / 2=(p:Int):=by omega
 have hp2:p<=32:=by omega
 have hpB : 2^p<B:=by
  have : 2^p<=2^32:=Nat.pow_le_pow_right (by omega) hp2
  have h2:(2:Nat)^32<B:=by decide
  omega
 have e2:IntKind.u64.wrap (1*2^p)=((2^p:Nat):Int):=by
  rw [Int.one_mul, <- Mul64.wrapN _ hpB,Int.natCast_pow];rfl
 have e3:IntKind.u64.wrap (2^p)=((2^p:Nat):Int):=by
  rw [<- Mul64.wrapN _ hpB,Int.natCast_pow];rfl
 have hlt:Hid (val B xs<(2^p+1)*(2^p+1)):=by
  show _<_
  have h1 : 2^n<=2^(p+p):=Nat.pow_le_pow_right (by omega) (by omega)
  rw [Nat.pow_add] at h1
  have h2 : 2^p*2^p<=(2^p+1)*(2^p+1):=Nat.mul_le_mul (by omega) (by omega)
  omega
 have HP:=Lib.hid hpB
 have E2:=Lib.hid e2
 have E3:=Lib.hid e3
 clear hB hnn a1 a2 hp hpB e2 e3 la h0
 have hbox0:=A4 (w.alloc (.cells #[.slice sa xs.length xs.length] 26)) (.cells #[.slice none 0 0] 26) (w.heap.size+1) (by simp)
 have hgw0:w.grownBy ((w.alloc (.cells #[.slice sa xs.length xs.length] 26)).alloc (.cells #[.slice none 0 0] 26)) none:=A8 (World.grownBy_alloc _ _ _) _
 go_enter Tryz.func139,Tryz.ntmps139
 go_wp2_with fail
 refine HB.out.mono ?_
 rintro e w1 ⟨rfl,hg1⟩
 have hbox1:=A1 hg1 hbox0
 have hgw1:=A2 hgw0 hg1
 clear hg1 hgw0 hbox0 HB
 go_wp2_with fail
 rw [E3.out]
 refine (rH _ (2^p) HP.out).mono ?_
 rintro e w2 ⟨v,rfl,⟨sc,zs,rfl,hl2,hv2⟩,hg2⟩
 have hbox2:=A1 hg2 hbox1
 obtain ⟨hc2,hf2⟩:=A7 hbox2
 have hF:Hid (∀ u,eV w (val B xs) K (.returned (.agg #[.slice sc zs.length zs.length])) (w2.setCell ⟨w.heap.size+1,0,none⟩ u)):=by
  intro u
  have hBK:B<=B^(K+1):=by
   have:=Nat.pow_le_pow_right D6 (show 1<=K+1 by omega)
   rwa [Nat.pow_one] at this
  exact ⟨_,2^p,rfl,⟨sc,zs,rfl,hl2.set_other hbox2 (by decide) 0 u,hv2⟩,Nat.two_pow_pos p,Nat.lt_of_lt_of_le HP.out hBK,hlt.out,B1 (A2 hgw1 hg2) (B2 (A9 _ _) _ _) (by omega)⟩
 clear hv2 hg2 hgw1 hbox1 hbox2 HP
 go_wp2_with fail
 exact bodyPost_ret (v := .agg #[.slice sc zs.length zs.length]) (by simp [results,Tryz.results139,go_sem,hc2]) rfl (hF.out _)
theorem above_bd {a u k n K:Nat} (hu:u*u<=a / 2^(2*k)) (ha : 2^(n-1)<=a) (hk:k<=n-1) (hk1 : 1<=k) (la:a<B^K):(u+1)*2^k<B^(K+1):=by
 have hp : 0<2^k:=Nat.two_pow_pos k
 have h1:u<=u*u:=by
  rcases Nat.eq_zero_or_pos u with h | h
  · omega
  · exact Nat.le_mul_of_pos_left u h
 have h2:u*2^k<=a:=by
  have h3:a / 2^(2*k)*2^k<=a:=by
   have h4:a / 2^(2*k)*2^(2*k)<=a:=Nat.div_mul_le_self ..
   have h5 : 2^k<=2^(2*k):=Nat.pow_le_pow_right (by omega) (by omega)
   exact Nat.le_trans (Nat.mul_le_mul_left _ h5) h4
  exact Nat.le_trans (Nat.mul_le_mul_right _ (Nat.le_trans h1 hu)) h3
 have h6 : 2^k<=a:=Nat.le_trans (Nat.pow_le_pow_right (by omega) hk) ha
 rw [Nat.add_mul,Nat.one_mul,Nat.pow_succ]
 have h7:B^K*2<=B^K*B:=Nat.mul_le_mul_left _ (by unfold B;omega)
 omega
theorem above_lt {a u k:Nat} (hu:a / 2^(2*k)<(u+1)*(u+1)):a<((u+1)*2^k+1)*((u+1)*2^k+1):=by
 have hp : 0<2^(2*k):=Nat.two_pow_pos _
 have h1:a<(u+1)*(u+1)*2^(2*k):=(Nat.div_lt_iff_lt_mul hp).1 hu
 have h2:(u+1)*(u+1)*2^(2*k)=((u+1)*2^k)*((u+1)*2^k):=by
  rw [show 2*k=k+k from by omega,Nat.pow_add];grind
 have h3:((u+1)*2^k)*((u+1)*2^k)<=((u+1)*2^k+1)*((u+1)*2^k+1):=Nat.mul_le_mul (by omega) (by omega)
 omega
set_option maxHeartbeats 8000000 in
theorem above_big (w:World) (va:Value) (a K:Nat) (ha:NatV w va a) (h0 : 0<a) (la:a<B^K) (hK1 : 1<=K) (hK:K<=536870912) (hn : 64<nb a) (ih:∀ a',a'<a->rD a') :
 Calls Tryz.prog 139 #[va] w (eV w a K):=by
 obtain ⟨sa,xs,rfl,hx,rfl⟩:=ha
 obtain ⟨a1,a2,a3⟩:=bI h0
 have hlen:=hx.len la
 have hB:=L9 ((w.alloc (.cells #[.slice sa xs.length xs.length] 26)).alloc (.cells #[.slice none 0 0] 26)) _ (val B xs) K ⟨sa,xs,rfl,hx.kept (A8 (World.grownBy_alloc _ _ _) _),rfl⟩ (by omega) la
 have hnK:nb (val B xs)<=64*K:=by
  rcases Nat.lt_or_ge (64*K) (nb (val B xs)) with h | h
  · have h1 : 2^(64*K)<=2^(nb (val B xs)-1):=Nat.pow_le_pow_right (by omega) (by omega)
    rw [Nat.pow_mul, <- bD] at h1
    omega
  · exact h
 have hxp:=Q8 hx h0
 obtain ⟨n,hnn⟩:∃ n,nb (val B xs)=n:=⟨_,rfl⟩
 rw [hnn] at hB hn a1 a2 a3 hnK
 obtain ⟨k,hk⟩:∃ k,n / 4=k:=⟨_,rfl⟩
 have e1:(n:Int) / 4=(k:Int):=by omega
 have hk1 : 1<=k:=by omega
 have hkn:k<=n-1:=by omega
 have hkK:k<=16*K:=by omega
 have HB:=Lib.hid hB
 have hsm:val B xs / 2^(2*k)<val B xs:=by
  refine Nat.div_lt_self h0 ?_
  have : 2^1<=2^(2*k):=Nat.pow_le_pow_right (by omega) (by omega)
  omega
 have hpos : 0<val B xs / 2^(2*k):=by
  refine Nat.div_pos (Nat.le_trans (Nat.pow_le_pow_right (by omega) (by omega)) a1) (Nat.two_pow_pos _)
 have HI:=Lib.hid (ih _ hsm)
 have Hpos:=Lib.hid hpos
 have Hla:=Lib.hid la
 have Hsm:=Lib.hid hsm
 have Ha1:=Lib.hid a1
 clear hB hnn a1 a2 ih hk hpos la hsm h0
 obtain ⟨b1,o1,cs1,rfl,hb1,hat1⟩:=hx.rd.get 0 (by omega)
 have hbox0:=A4 (w.alloc (.cells #[.slice (some ⟨b1,o1,none⟩) xs.length xs.length] 26)) (.cells #[.slice none 0 0] 26) (w.heap.size+1) (by simp)
 have hboxa0:=(Below.heap_alloc _ (.cells #[.slice none 0 0] 26) w.heap.size (by simp)).trans (A4 w (.cells #[.slice (some ⟨b1,o1,none⟩) xs.length xs.length] 26) w.heap.size rfl)
 have hgw0:w.grownBy ((w.alloc (.cells #[.slice (some ⟨b1,o1,none⟩) xs.length xs.length] 26)).alloc (.cells #[.slice none 0 0] 26)) none:=A8 (World.grownBy_alloc _ _ _) _
 have f1:decide (n<=64)=false:=decide_eq_false (by omega)
 go_enter Tryz.func139,Tryz.ntmps139
 go_wp2_with fail
 refine HB.out.mono ?_
 rintro e w1 ⟨rfl,hg1⟩
 have hbox1:=A1 hg1 hbox0
 have hboxa1:=A1 hg1 hboxa0
 have hgw1:=A2 hgw0 hg1
 obtain ⟨hca,hfa⟩:=A7 hboxa1
 clear hg1 hgw0 hbox0 hboxa0 HB
 go_wp2_with fail
 refine (cI _ b1 o1 _ _ cs1 xs rfl (hb1.kept hgw1 (by simp)) hat1 hxp (by omega)).mono ?_
 rintro e w2 ⟨g,cap,cs2,rfl,hge,hb2,hat2,hcap,hg2⟩
 have hbox2:=A1 hg2 hbox1
 have hgw2:=A2 hgw1 hg2
 have hsz1:w.heap.size+1<w1.heap.size:=(Array.getElem?_eq_some_iff.1 hbox1).1
 have hge2:w.heap.size+1<g:=by omega
 have nk:(2:Int)*(k:Int)=((2*k:Nat):Int):=by omega
 have NK:=Lib.hid nk
 clear hg2 hgw1 hbox1 hboxa1 hca hfa hge hsz1 nk
 go_wp2_with fail
 rw [NK.out]
 refine (T8 _ g 0 _ _ xs cs2 (2*k) rfl hb2 hat2 hx.dig hcap (by omega) (by omega)).mono ?_
 rintro e w3 ⟨sc,m,cap3,cs3,zs,rfl,hm3,hl3,hlx,hd3,hv3,hs3,_,hb3,hat3,hg3⟩
 have hbox3:=P7 hg3 hbox2 (by omega)
 have hgw3:=B1 hgw2 hg3 (by omega)
 have HV:=Lib.hid hv3
 have HL:=Lib.hid hl3
 have hr:=Lowered.rdo hl3 hs3 hb3 hat3
 clear hv3 hl3 hs3 hg3 hbox2 hgw2 hb2 hat2
 go_wp2_with fail
 refine (S5 _ _ m _ zs HL.out hr (by omega) hm3 hd3).mono ?_
 rintro e w4 ⟨v4,rfl,hN4,hg4⟩
 rw [HV.out] at hN4
 have hbox4:=A1 hg4 hbox3
 have hgw4:=A2 hgw3 hg4
 clear hg4 hgw3 hbox3 hr hb3 hat3
 go_wp2_with fail
 refine (HI.out _ v4 K hN4 Hpos.out (Nat.lt_trans Hsm.out Hla.out) hK1 hK).mono ?_
 rintro e w5 ⟨v5,u,rfl,⟨s5,zs5,rfl,hl5,hv5⟩,⟨hu1,hu2⟩,hg5⟩
 have hbox5:=A1 hg5 hbox4
 have hgw5:=A2 hgw4 hg5
 have Hu1:=Lib.hid hu1
 have Hu2:=Lib.hid hu2
 have HV5:=Lib.hid hv5
 clear hu1 hu2 hv5 hN4 hg5 hgw4 hbox4
 have hu1K:u+1<B^(K+1):=Nat.lt_of_le_of_lt (Nat.le_mul_of_pos_right _ (Nat.two_pow_pos k)) (above_bd Hu1.out Ha1.out hkn hk1 Hla.out)
 have Hu1K:=Lib.hid hu1K
 clear hu1K
 go_wp2_with fail
 have c6:(w5.alloc (.cells #[.slice s5 zs5.length zs5.length] 26)).cell? ⟨w5.heap.size,0,none⟩=some (.slice s5 zs5.length zs5.length):=by go_simp
 have hl6:=hl5.kept (World.grownBy_alloc w5 (.cells #[.slice s5 zs5.length zs5.length] 26) none)
 have hgw6:=A8 hgw5 (.cells #[.slice s5 zs5.length zs5.length] 26)
 have hbox6:=A1 (World.grownBy_alloc w5 (.cells #[.slice s5 zs5.length zs5.length] 26) none) hbox5
 generalize (w5.alloc (.cells #[.slice s5 zs5.length zs5.length] 26))=w6 at *
 have hne6:w5.heap.size≠w.heap.size+1:=by have:=(Array.getElem?_eq_some_iff.1 hbox5).1;omega
 generalize w5.heap.size=g6 at *
 clear hgw5 hbox5 hl5
 have H5:∀ W,w6.grownBy W none->NatV W (.agg #[.slice s5 zs5.length zs5.length]) u:=fun W hW=>⟨s5,zs5,rfl,hl6.kept hW,HV5.out⟩
 have H5:=Lib.hid H5
 have hfld:=fK
 go_region_held3 (fun w'=>w'.cell? ⟨g6,0,none⟩=some (.slice s5 zs5.length zs5.length))
  (first | go_keep | (rw [World.cell?_setCell_other _ _ _ _ (by simp only [ne_eq,Addr.mk.injEq];omega)];assumption) | exact hg10.cell (by assumption) (by simp) | exact hg9.cell (by assumption) (by simp) | exact hg8.cell (by assumption) (by simp) | exact hg7.cell (by assumption) (by simp))
  (first
   | (go_at_call 48;refine (Of_one _).mono ?_;rintro e w7 ⟨v7,rfl,hN7,hg7⟩)
   | (go_at_call 105;go_must (refine (kK _ _ _ u 1 (K+1) (H5.out _ (H6 w6 hg7 rfl rfl rfl rfl)) hN7 (by omega) (Nat.lt_of_succ_lt Hu1K.out) (Nat.lt_of_le_of_lt (Nat.succ_le_succ (Nat.zero_le u)) Hu1K.out)).mono ?_);rintro e w8 ⟨_,rfl,⟨s8,zs8,rfl,hl8,hv8⟩,hg8⟩)
   | (go_at_call 162;refine (cO _ s8 _ _ zs8 k rfl hl8.rd hl8.dig (by have:=hl8.len (K:=K+1) (by rw [hv8];exact Hu1K.out);omega) (by omega)).mono ?_;rintro e w9 ⟨g9,n9,cs9,zs9,rfl,hge9,hb9,hat9,hl9,rfl,hd9,hv9,hg9⟩)
   | (go_at_call 97;refine (S5 _ _ _ _ zs9 hl9 (Rdo.of hb9 hat9) (by have:=hl8.len (K:=K+1) (by rw [hv8];exact Hu1K.out);omega) (Nat.le_refl _) hd9).mono ?_;rintro e w10 ⟨_,rfl,⟨s10,zs10,rfl,hl10,hv10⟩,hg10⟩;have hbox10:=A1 (A2 (A2 (A2 (H6 w6 hg7 rfl rfl rfl rfl) hg8) hg9) hg10) hbox6;obtain ⟨hc10,hf10⟩:=A7 hbox10))
 have hgw10:=A2 (A2 (A2 (A2 hgw6 (H6 w6 hg7 rfl rfl rfl rfl)) hg8) hg9) hg10
 have hF:Hid (∀ u',eV w (val B xs) K (.returned (.agg #[.slice s10 zs10.length zs10.length])) (w10.setCell ⟨w.heap.size+1,0,none⟩ u')):=by
  intro u'
  refine ⟨_,(u+1)*2^k,rfl,⟨s10,zs10,rfl,hl10.set_other hbox10 (by decide) 0 u', ?_⟩,Nat.mul_pos (by omega) (Nat.two_pow_pos k),above_bd Hu1.out Ha1.out hkn hk1 Hla.out,above_lt Hu2.out,B1 hgw10 (B2 (A9 _ _) _ _) (by omega)⟩
  rw [hv10,hv9,hv8]
 clear hgw10 hbox10 hbox6 hg7 hg8 hg9 hg10 hv10 hv9 hv8 hgw6
 go_wp2_with fail
 exact bodyPost_ret (v := .agg #[.slice s10 zs10.length zs10.length]) (by simp [results,Tryz.results139,go_sem,hc10]) rfl (hF.out _)
theorem above_any (w:World) (va:Value) (a K:Nat) (ha:NatV w va a) (h0 : 0<a) (la:a<B^K) (hK1 : 1<=K) (hK:K<=536870912) (ih:∀ a',a'<a->rD a') :
 Calls Tryz.prog 139 #[va] w (eV w a K):=by
 rcases Nat.lt_or_ge 64 (nb a) with h | h
 · exact above_big w va a K ha h0 la hK1 hK h ih
 · exact above_small w va a K ha h0 la hK1 hK h
def Summed (w:World) (n:Nat) (s6:Value) (wx:World):Prop:=
 ∃ (g6 bs os:Nat) (zs:List Nat) (cs:Array Value),s6 = .pointer (some ⟨g6,0,none⟩)/\wx.heap[g6]?=some (.cells #[.slice (some ⟨bs,os,none⟩) zs.length zs.length] 26 (0,0))/\Blk wx bs cs/\At cs os zs/\Lm wx (some ⟨bs,os,none⟩) zs/\val B zs=n/\w.heap.size<=bs/\w.heap.size<=g6/\w.grownBy wx none
theorem uM {w3 w4 w5:World} {n:Nat} {s5:Option Addr} {zs:List Nat} (hG:w3.grownBy w5 none) (hl:Lm w5 s5 zs) (hv:val B zs=n) (hf:∀ ad,s5=some ad->w4.heap.size<=ad.block) (h34:w3.grownBy w4 none) (h0 : 0<n) (g:Nat) (hg:g=w5.heap.size) :
 Summed w3 n (.pointer (some ⟨g,0,none⟩)) (w5.alloc (.cells #[.slice s5 zs.length zs.length] 26)):=by
 subst hg
 have hp:=Q8 hl (by rw [hv];exact h0)
 obtain ⟨b,o,cs,rfl,hb,ha⟩:=hl.rd.get 0 hp
 have:=hf _ rfl
 have h1:=h34.size
 exact ⟨_,b,o,zs,cs,rfl,A4 _ _ _ rfl,hb.alloc _,ha,hl.kept (World.grownBy_alloc _ _ _),hv,by simp only at this;omega,hG.size,A8 hG _⟩
theorem oI {w3 w4 w5:World} {n:Nat} {s5:Option Addr} {zs:List Nat} (hG:w3.grownBy w5 none) (hl:Lm w5 s5 zs) (hv:val B zs=n) (hf:∀ ad,s5=some ad->w4.heap.size<=ad.block) (h34:w3.grownBy w4 none) (h0 : 0<n) (g:Nat) (hg:w3.heap.size<=g) {v:Value} (hb:w5.heap[g]?=some (.cells #[v] 26 (0,0))) :
 Summed w3 n (.pointer (some ⟨g,0,none⟩)) (w5.setCell ⟨g,0,none⟩ (.slice s5 zs.length zs.length)):=by
 have hp:=Q8 hl (by rw [hv];exact h0)
 obtain ⟨b,o,cs,rfl,hk,ha⟩:=hl.rd.get 0 hp
 have:=hf _ rfl
 have h1:=h34.size
 refine ⟨_,b,o,zs,cs,rfl, ?_,hk.set_other hb (by decide) 0 _,ha,hl.set_other hb (by decide) 0 _,hv,by simp only at this;omega,hg,B1 hG (B2 (A9 _ _) _ _) hg⟩
 simp [World.setCell,Array.getElem?_modify,hb]
set_option maxHeartbeats 8000000 in
theorem rootOf_step (a:Nat) (ih:∀ a',a'<a->rD a'):rD a:=by
 intro w va K ha h0 la hK1 hK
 obtain ⟨sa,xs,rfl,hx,rfl⟩:=ha
 have hlen:=hx.len la
 have hgw0:w.grownBy ((w.alloc (.cells #[.slice sa xs.length xs.length] 26)).alloc (.cells #[.slice none 0 0] 26)) none:=A8 (World.grownBy_alloc _ _ _) _
 have hbox0:=A4 (w.alloc (.cells #[.slice sa xs.length xs.length] 26)) (.cells #[.slice none 0 0] 26) (w.heap.size+1) (by simp)
 have hboxa0:=(Below.heap_alloc _ (.cells #[.slice none 0 0] 26) w.heap.size (by simp)).trans (A4 w (.cells #[.slice sa xs.length xs.length] 26) w.heap.size rfl)
 have hAb:=Lib.hid (above_any _ _ (val B xs) K ⟨sa,xs,rfl,hx.kept hgw0,rfl⟩ h0 la hK1 hK ih)
 have H0:=Lib.hid h0
 have Hla:=Lib.hid la
 have hfld:=fK
 clear h0 la ih
 go_enter Tryz.func93,Tryz.ntmps93
 go_wp2_with fail
 refine hAb.out.mono ?_
 rintro e w1 ⟨_,R,rfl,⟨sr,rs,rfl,hlr,hvr⟩,hR0,hRK,hRa,hg1⟩
 have hbox1:=A1 hg1 hbox0
 have hboxa1:=A1 hg1 hboxa0
 have hgw1:=A2 hgw0 hg1
 obtain ⟨hca,hfa⟩:=A7 hboxa1
 have hsz1:w.heap.size+1<w1.heap.size:=(Array.getElem?_eq_some_iff.1 hbox1).1
 have HVR:=Lib.hid hvr
 have HRK:=Lib.hid hRK
 have HRa:=Lib.hid hRa
 clear hAb hg1 hgw0 hbox0 hboxa0 hvr hRK hRa
 go_wp2_with fail
 have hl2:=hlr.kept (World.grownBy_alloc w1 (.cells #[.slice sr rs.length rs.length] 26) none)
 have hgw2:=A8 hgw1 (.cells #[.slice sr rs.length rs.length] 26)
 have hbox2:=A1 (World.grownBy_alloc w1 (.cells #[.slice sr rs.length rs.length] 26) none) hbox1
 have hboxa2:=A1 (World.grownBy_alloc w1 (.cells #[.slice sr rs.length rs.length] 26) none) hboxa1
 have hboxr2:=A4 w1 (.cells #[.slice sr rs.length rs.length] 26) w1.heap.size rfl
 generalize (w1.alloc (.cells #[.slice sr rs.length rs.length] 26))=w2 at *
 generalize w1.heap.size=g3 at *
 clear hbox1 hboxa1 hgw1 hlr hca hfa
 have hHR:Hid (val B xs<(R+1)*(R+1)):=HRa
 clear HRa
 go_loopg [4] R (fun gh _ wr=>∃ (R:Nat) (sr:Option Addr) (rs:List Nat),Lm wr sr rs/\Hid (val B rs=R)/\0<R/\Hid (R<B^(K+1))/\Hid (val B xs<(R+1)*(R+1))/\R<=gh/\wr.heap[w.heap.size]?=some (.cells #[.slice sa xs.length xs.length] 26 (0,0))/\wr.heap[w.heap.size+1]?=some (.cells #[.slice none 0 0] 26 (0,0))/\wr.heap[g3]?=some (.cells #[.slice sr rs.length rs.length] 26 (0,0))/\w.grownBy wr none)
 case atStart=>exact ⟨R,sr,rs,hl2,HVR,hR0,HRK,hHR,Nat.le_refl _,hboxa2,hbox2,hboxr2,hgw2⟩
 case round=>
  clear hl2 HVR hR0 HRK hHR hboxa2 hbox2 hboxr2 hgw2
  obtain ⟨R,sr,rs,hlr,hvr,hR0,hRK,hRa,hgh,hboxa,hbox,hboxr,hgw⟩:=hrel
  obtain ⟨ca,fa⟩:=A7 hboxa
  obtain ⟨cr,fr⟩:=A7 hboxr
  have hrp:=Q8 hlr (by rw [hvr.out];exact hR0)
  have hrlen:=hlr.len (K:=K+1) (by rw [hvr.out];exact hRK.out)
  go_wp2_with fail
  refine (iK _ sa sr _ _ _ _ xs rs (hx.kept hgw) hlr rfl rfl hrp (fun h=>h) (Nat.le_refl _) (by omega) (by omega)).mono ?_
  rintro e w3 ⟨sq,sm,nq,cq,nm,cm,qs,ms,rfl,hlq,hcq,hnq,hlm,hcm,hnm,hrq,hrm,hdq,hdm,hvq,hvm,hg3,_⟩
  have ha3:=A1 hg3 hboxa
  have hb3:=A1 hg3 hbox
  have hr3:=A1 hg3 hboxr
  have hl3:=hlr.kept hg3
  have hgw3:=A2 hgw hg3
  have HLQ:=Lib.hid hlq
  have HVQ:=Lib.hid hvq
  clear hlq hvq hvm hlm hrm hdm hg3 hboxa hbox hboxr hlr hgw ca fa cr fr
  obtain ⟨cr,fr⟩:=A7 hr3
  have hKK:B^(K+1)<=B^(K+2):=Nat.pow_le_pow_right D6 (by omega)
  have hK0:B^K<=B^(K+1):=Nat.pow_le_pow_right D6 (by omega)
  have hqX:val B xs / R<=val B xs:=Nat.div_le_self ..
  have hqK:Hid (val B qs<B^(K+2)):=by show _<_;have:=Hla.out;rw [HVQ.out,hvr.out];omega
  have hRK2:Hid (R<B^(K+2)):=by show _<_;have:=hRK.out;omega
  have hsK:Hid (R+val B xs / R<B^(K+2)):=by
   show _<_
   have h1:=hRK.out;have h2:=Hla.out
   have h3:B^(K+1)*2<=B^(K+2):=by rw [Nat.pow_succ B (K+1)];exact Nat.mul_le_mul_left _ (by unfold B;omega)
   omega
  have H3:Hid (∀ W,w3.grownBy W none->NatV W (.agg #[.slice sr rs.length rs.length]) R):=fun W hW=>⟨sr,rs,rfl,hl3.kept hW,hvr.out⟩
  have hrqp:Hid (∀ W,w3.grownBy W none->Rdo W sq qs):=fun W hW=>hrq.kept hW
  clear hKK hK0 hqX hrq
  go_wp2_with fail
  have HR3:∀ W,w3.grownBy W none->W.cell? ⟨g3,0,none⟩=some (.slice sr rs.length rs.length):=fun W hW=>hW.cell cr (by simp)
  have HR3:=Lib.hid HR3
  go_cut [6] (fun s6 wx=>Summed w3 (R+val B xs / R) s6 wx)
  case first=>
   go_region_held3 (fun w'=>w'.cell? ⟨g3,0,none⟩=some (.slice sr rs.length rs.length))
    (first | go_keep | exact HR3.out _ hG5 | exact HR3.out _ hG4 | exact HR3.out _ (A8 hG5 _) | exact HR3.out _ (A8 hG4 _) | exact HR3.out _ (World.grownBy_alloc _ _ _) | exact HR3.out _ (C9 (World.grownBy_alloc _ _ _)) | exact HR3.out _ (B1 hG5 (B2 (A9 _ _) _ _) hG4.size) | exact HR3.out _ (B1 hG5 (B2 (A9 _ _) _ _) (Nat.le_refl _)))
    (first
     | (go_at_call 97;(with_reducible refine (S5 w3.drew sq nq cq qs HLQ.out (hrqp.out w3.drew (pX rfl rfl rfl rfl)) (by omega) hcq hdq).mono ?_);rintro e w4 ⟨v4,rfl,hN4,hg4⟩;have hG4:w3.grownBy w4 none:=H6 w3 hg4 rfl rfl rfl rfl)
     | (go_at_call 97;(with_reducible refine (S5 (w3.alloc (.cells #[.slice none 0 0] 26)).drew sq nq cq qs HLQ.out (hrqp.out (w3.alloc (.cells #[.slice none 0 0] 26)).drew (C9 (World.grownBy_alloc _ _ _))) (by omega) hcq hdq).mono ?_);rintro e w4 ⟨v4,rfl,hN4,hg4⟩;have hG4:w3.grownBy w4 none:=A2 (C9 (World.grownBy_alloc w3 _ _)) hg4;have q4b:=A1 hg4 (show ((w3.alloc (.cells #[.slice none 0 0] 26)).drew).heap[w3.heap.size]?=_ from A4 w3 (.cells #[.slice none 0 0] 26) _ rfl);obtain ⟨q4c,q4f⟩:=A7 q4b)
     | (go_at_call 105;(with_reducible refine (gO w4 _ _ R (val B qs) (K+2) (H3.out _ hG4) hN4 (by omega) hRK2.out hqK.out).mono ?_);rintro e w5 ⟨s5,zs5,rfl,hl5,hv5,hf5,hg5⟩;have q5b:=A1 hg5 q4b;obtain ⟨q5c,q5f⟩:=A7 q5b;have hG5:=A2 hG4 hg5)
     | (go_at_call 105;(with_reducible refine (gO w4 _ _ R (val B qs) (K+2) (H3.out _ hG4) hN4 (by omega) hRK2.out hqK.out).mono ?_);rintro e w5 ⟨s5,zs5,rfl,hl5,hv5,hf5,hg5⟩;have hG5:=A2 hG4 hg5)
     | (go_at_call 105;(with_reducible refine (gO (w4.alloc (.cells #[.slice none 0 0] 26)) _ _ R (val B qs) (K+2) (H3.out _ (A8 hG4 _)) (hN4.kept (World.grownBy_alloc _ _ _)) (by omega) hRK2.out hqK.out).mono ?_);rintro e w5 ⟨s5,zs5,rfl,hl5,hv5,hf5,hg5⟩;have q5b:=A1 hg5 (A4 w4 (.cells #[.slice none 0 0] 26) _ rfl);obtain ⟨q5c,q5f⟩:=A7 q5b;have hG5:=A2 (A8 hG4 _) hg5))
   · go_wp2_with fail;go_meet;exact uM hG5 hl5 (by rw [hv5,HVQ.out,hvr.out]) hf5 hG4 (Nat.add_pos_left hR0 _) _ rfl
   · go_wp2_with fail;go_meet;exact oI hG5 hl5 (by rw [hv5,HVQ.out,hvr.out]) hf5 (A8 hG4 _) (Nat.add_pos_left hR0 _) _ hG4.size q5b
   · go_wp2_with fail;go_meet;exact oI hG5 hl5 (by rw [hv5,HVQ.out,hvr.out]) hf5 hG4 (Nat.add_pos_left hR0 _) _ (Nat.le_refl _) q5b
  case rest=>
   obtain ⟨g6,bs,os,zs,cs,rfl,h6,hb6,ha6,hl6,hv6,hbs,hg6,hgx⟩:=hcut
   obtain ⟨c6,f6⟩:=A7 h6
   have hzl:=hl6.len (K:=K+2) (by rw [hv6];exact hsK.out)
   have HV6:=Lib.hid hv6
   have hs3:w.heap.size+1<w3.heap.size:=(Array.getElem?_eq_some_iff.1 hb3).1
   have hs3r:g3<w3.heap.size:=(Array.getElem?_eq_some_iff.1 hr3).1
   clear hv6 HLQ HVQ hqK H3 hrqp HR3 cr fr hcq hnq hcm hnm hdq
   go_wp2_with fail
   refine (T8 _ bs os _ _ zs cs 1 rfl hb6 ha6 hl6.dig (Nat.le_refl _) (by omega) (by omega)).mono ?_
   rintro e w7 ⟨sc,m,cap7,cs7,zs7,rfl,hm7,hl7,hlx7,hd7,hv7,hs7,_,hb7,hat7,hg7⟩
   have hg37:=B1 hgx hg7 hbs
   have hb7':=A1 hg37 hb3
   have ha7:=A1 hg37 ha3
   have hr7:=A1 hg37 hr3
   have hgw7:=A2 hgw3 hg37
   have hlr7:=hl3.kept hg37
   have HV7:=Lib.hid hv7
   have HL7:=Lib.hid hl7
   have hrr:=Lowered.rdo hl7 hs7 hb7 hat7
   clear hv7 hl7 hs7 hg7 hg37 hgx hb3 ha3 hr3 hgw3 hl3 hb6 ha6 hb7 hat7 c6 f6 h6 hl6
   go_wp2_with fail
   refine (S5 _ _ m _ zs7 HL7.out hrr (by omega) hm7 hd7).mono ?_
   rintro e w8 ⟨v8,rfl,hN8,hg8⟩
   obtain ⟨hb8,ha8,hr8,hgw8,hlr8⟩:=And.intro (A1 hg8 hb7') (And.intro (A1 hg8 ha7) (And.intro (A1 hg8 hr7) (And.intro (A2 hgw7 hg8) (hlr7.kept hg8))))
   obtain ⟨cr,fr⟩:=A7 hr8
   rw [HV7.out,HV6.out] at hN8
   have hN8':NatV w8 v8 ((R+val B xs / R) / 2):=hN8
   obtain ⟨s8,zs8,rfl,hl8,hv8⟩:=hN8'
   have HV8:=Lib.hid hv8
   have hz8:val B zs8<B^(K+2):=by rw [HV8.out];have:=hsK.out;omega
   have HZ8:=Lib.hid hz8
   clear hb7' ha7 hr7 hgw7 hlr7 hrr hg8 hN8 hv8 hz8
   have hgA:=World.grownBy_alloc w8 (.cells #[.slice s8 zs8.length zs8.length] 26) none
   have hb9:=A1 hgA hb8
   have ha9:=A1 hgA ha8
   have hr9:=A1 hgA hr8
   have hn9:=A4 w8 (.cells #[.slice s8 zs8.length zs8.length] 26) _ rfl
   have hgw9:=A2 hgw8 hgA
   have hlr9:=hlr8.kept hgA
   have hl9:=hl8.kept hgA
   have hsz8:g3<w8.heap.size:=(Array.getElem?_eq_some_iff.1 hr8).1
   obtain ⟨cr9,fr9⟩:=A7 hr9
   clear hb8 ha8 hr8 hgw8 hlr8 hl8 cr fr hgA
   go_wp2_with fail
   generalize (w8.alloc (.cells #[.slice s8 zs8.length zs8.length] 26))=w9 at *
   generalize w8.heap.size=g9 at *
   refine (wH w9 _ _ ((R+val B xs / R) / 2) R (K+2) ⟨s8,zs8,rfl,hl9,HV8.out⟩ ⟨sr,rs,rfl,hlr9,hvr.out⟩ (by omega) (by have:=HZ8.out;rw [HV8.out] at this;exact this) hRK2.out).mono ?_
   rintro e w10 ⟨rfl,hg10⟩
   have hb10:=A1 hg10 hb9
   have ha10:=A1 hg10 ha9
   have hr10:=A1 hg10 hr9
   have hn10:=A1 hg10 hn9
   have hgw10:=A2 hgw9 hg10
   have hlr10:=hlr9.kept hg10
   have hl10:=hl9.kept hg10
   clear hb9 ha9 hr9 hn9 hgw9 hlr9 hl9 cr9 fr9 hg10
   obtain ⟨cr,fr⟩:=A7 hr10
   obtain ⟨cb,fb⟩:=A7 hb10
   obtain ⟨cn,fn⟩:=A7 hn10
   have hgg:w.heap.size<=g3:=by omega
   by_cases hlt:(R+val B xs / R) / 2<R
   · have t:decide (0<=K5 ((R+val B xs / R) / 2) R)=false:=by rw [bX hlt];rfl
     have hge:=newton_ge (a:=val B xs) hR0
     have hpos : 0<(R+val B xs / R) / 2:=by
      rcases Nat.eq_zero_or_pos ((R+val B xs / R) / 2) with h | h
      · rw [h] at hge;have:=H0.out;omega
      · exact h
     have hlt2:Hid ((R+val B xs / R) / 2<gk):=Nat.lt_of_lt_of_le hlt hgh
     have hltK:Hid ((R+val B xs / R) / 2<B^(K+1)):=Nat.lt_trans hlt hRK.out
     have HGE:Hid (val B xs<((R+val B xs / R) / 2+1)*((R+val B xs / R) / 2+1)):=hge
     clear hge hlt
     go_wp2_with fail
     go_roundg ((R+val B xs / R) / 2)
     case measure=>exact hlt2.out
     case rel=>
      refine ⟨(R+val B xs / R) / 2,s8,zs8,hl10.set_other hr10 (by decide) 0 _,HV8,hpos,hltK,HGE,Nat.le_refl _, ?_, ?_, ?_,B1 hgw10 (B2 (A9 _ _) _ _) hgg⟩
      · exact (Below.heap_setCell _ _ _ _ (by simp only;omega)).trans ha10
      · exact (Below.heap_setCell _ _ _ _ (by simp only;omega)).trans hb10
      · simp [World.setCell,Array.getElem?_modify,hr10]
   · have t:decide (0<=K5 ((R+val B xs / R) / 2) R)=true:=by
      rcases Nat.lt_or_ge R ((R+val B xs / R) / 2) with h | h
      · rw [bZ h];rfl
      · rw [gE (by omega)];rfl
     have hst:=newton_stop (a:=val B xs) hR0 (Nat.le_of_not_lt hlt)
     have hF:Hid (∀ u,RetRoot w (val B xs) K (.returned (.agg #[.slice sr rs.length rs.length])) (w10.setCell ⟨w.heap.size+1,0,none⟩ u)):=by
      intro u
      exact ⟨_,R,rfl,⟨sr,rs,rfl,hlr10.set_other hb10 (by decide) 0 u,hvr.out⟩,⟨hst,hRa.out⟩,B1 hgw10 (B2 (A9 _ _) _ _) (by omega)⟩
     clear hst hlt
     go_wp2_with fail
     exact bodyPost_ret (v := .agg #[.slice sr rs.length rs.length]) (by simp [results,Tryz.results93,go_sem,cb]) rfl (hF.out _)
theorem rootOf_any (a:Nat):rD a:=Nat.strongRecOn a (fun a ih=>rootOf_step a ih)
def wE (w:World) (n k:Nat) (e:Ending) (w':World):Prop:=∃ v u,e = .returned (.tuple #[v,u])/\NatV w' v n/\NatV w' u k/\w.grownBy w' none
def gJ (w:World) (a:Nat) (e:Ending) (w':World):Prop:=∃ r,IsRoot a r/\wE w r (a-r*r) e w'
theorem IsRoot.le {a r:Nat} (h:IsRoot a r):r<=a:=by
 have:=h.1
 rcases Nat.eq_zero_or_pos r with h0 | h0
 · omega
 · exact Nat.le_trans (Nat.le_mul_of_pos_left r h0) this
def PairIn (w:World) (g1 g2:Nat) (s1:Option Addr) (q1:List Nat) (n2:Nat) (w':World):Prop:=
 ∃ (s2:Option Addr) (q2:List Nat),w'.heap[g1]?=some (.cells #[.slice s1 q1.length q1.length] 26 (0,0))/\w'.heap[g2]?=some (.cells #[.slice s2 q2.length q2.length] 26 (0,0))/\Lm w' s1 q1/\Lm w' s2 q2/\val B q2=n2/\w.grownBy w' none
theorem pair_12 {w w':World} {g1 g2 n2:Nat} {s1 s2:Option Addr} {q1 q2:List Nat} {u1 u2:Value} (hne:g1≠g2) (h1:w'.heap[g1]?=some (.cells #[u1] 26 (0,0))) (h2:w'.heap[g2]?=some (.cells #[u2] 26 (0,0))) (l1:Lm w' s1 q1) (l2:Lm w' s2 q2) (hv:val B q2=n2) (hg:w.grownBy w' none) (k1:w.heap.size<=g1) (k2:w.heap.size<=g2) :
 PairIn w g1 g2 s1 q1 n2 ((w'.setCell ⟨g1,0,none⟩ (.slice s1 q1.length q1.length)).setCell ⟨g2,0,none⟩ (.slice s2 q2.length q2.length)):=by
 have e1:=jU h1 (.slice s1 q1.length q1.length)
 have e2:=iH h2 (Ne.symm hne) (.slice s1 q1.length q1.length)
 exact ⟨s2,q2,iH e1 hne _,jU e2 _,(l1.set_other h1 (by decide) 0 _).set_other e2 (by decide) 0 _,(l2.set_other h1 (by decide) 0 _).set_other e2 (by decide) 0 _,hv,B1 (B1 hg (B2 (A9 _ _) _ _) k1) (B2 (A9 _ _) _ _) k2⟩
set_option maxHeartbeats 2000000 in
theorem Root_zero (w:World) (va:Value) (ha:NatV w va 0) :
 Calls Tryz.prog 37 #[va] w (gJ w 0):=by
 obtain ⟨sa,xs,rfl,hx,h0⟩:=ha
 obtain rfl:=(R8 B D6 xs hx.top).1 h0
 clear h0
 simp only [List.length_nil]
 go_enter Tryz.func37,Tryz.ntmps37
 go_wp2_with fail
 exact bodyPost_ret (v := .tuple #[.agg #[.slice none 0 0],.agg #[.slice none 0 0]]) (by simp [results,Tryz.results37,go_sem]) rfl ⟨0,⟨by omega,by omega⟩,_,_,rfl,NatV.zero _,NatV.zero _,by repeat (first | exact World.grownBy_alloc _ _ _ | refine A8 ?_ _ | refine B1 (g:=w.heap.size+1+1) ?_ (B2 (A9 _ _) _ _) (by omega) | refine B1 (g:=w.heap.size+1) ?_ (B2 (A9 _ _) _ _) (by omega))⟩
set_option maxHeartbeats 4000000 in
theorem Root_some (w:World) (va:Value) (a K:Nat) (ha:NatV w va a) (h0 : 0<a) (la:a<B^K) (hK1 : 1<=K) (hK:K<=536870912) :
 Calls Tryz.prog 37 #[va] w (gJ w a):=by
 obtain ⟨sa,xs,rfl,hx,rfl⟩:=ha
 have hlen:=hx.len la
 have hxp:=Q8 hx h0
 obtain ⟨b1,o1,cs1,rfl,hb1,hat1⟩:=hx.rd.get 0 (by omega)
 have H0:=Lib.hid h0
 have Hla:=Lib.hid la
 have f1:((xs.length:Int) == 0)=false:=beq_eq_false_iff_ne.2 (by omega)
 clear h0 la
 have hgw0:w.grownBy (((w.alloc (.cells #[.slice (some ⟨b1,o1,none⟩) xs.length xs.length] 26)).alloc (.cells #[.slice none 0 0] 26)).alloc (.cells #[.slice none 0 0] 26)) none:=A8 (A8 (World.grownBy_alloc _ _ _) _) _
 have hboxa0:=((Below.heap_alloc _ (.cells #[.slice none 0 0] 26) w.heap.size (by simp;omega)).trans (Below.heap_alloc _ (.cells #[.slice none 0 0] 26) w.heap.size (by simp))).trans (A4 w (.cells #[.slice (some ⟨b1,o1,none⟩) xs.length xs.length] 26) w.heap.size rfl)
 have hbox10:=(Below.heap_alloc _ (.cells #[.slice none 0 0] 26) (w.heap.size+1) (by simp)).trans (A4 (w.alloc (.cells #[.slice (some ⟨b1,o1,none⟩) xs.length xs.length] 26)) (.cells #[.slice none 0 0] 26) (w.heap.size+1) (by simp))
 have hbox20:=A4 ((w.alloc (.cells #[.slice (some ⟨b1,o1,none⟩) xs.length xs.length] 26)).alloc (.cells #[.slice none 0 0] 26)) (.cells #[.slice none 0 0] 26) (w.heap.size+1+1) (by simp)
 go_enter Tryz.func37,Tryz.ntmps37
 go_wp2_with fail
 refine (rootOf_any _ _ _ K ⟨_,xs,rfl,hx.kept hgw0,rfl⟩ H0.out Hla.out hK1 hK).mono ?_
 rintro e w1 ⟨v,r,rfl,hN1,hR,hg1⟩
 have hR:=Lib.hid hR
 obtain ⟨sr,rs,rfl,hl1,hv1⟩:=hN1
 have hgw1:=A2 hgw0 hg1
 have hboxa1:=A1 hg1 hboxa0
 have hbox11:=A1 hg1 hbox10
 have hbox21:=A1 hg1 hbox20
 have HV1:=Lib.hid hv1
 have hgA:=World.grownBy_alloc w1 (.cells #[.slice sr rs.length rs.length] 26) none
 have hgw2:=A2 hgw1 hgA
 have hboxa2:=A1 hgA hboxa1
 have hbox12:=A1 hgA hbox11
 have hbox22:=A1 hgA hbox21
 have hboxr2:=A4 w1 (.cells #[.slice sr rs.length rs.length] 26) _ rfl
 have hl2:=hl1.kept hgA
 have hsz1:w.heap.size+1+1<w1.heap.size:=(Array.getElem?_eq_some_iff.1 hbox21).1
 obtain ⟨ca2,fa2⟩:=A7 hboxa2
 clear hg1 hgw0 hboxa0 hbox10 hbox20 hv1 hboxa1 hbox11 hbox21 hgw1 hl1 hgA
 go_wp2_with fail
 generalize (w1.alloc (.cells #[.slice sr rs.length rs.length] 26))=w2 at *
 generalize w1.heap.size=g2 at *
 refine (cI _ b1 o1 _ _ cs1 xs rfl (hb1.kept hgw2 (by simp)) hat1 hxp (by omega)).mono ?_
 rintro e w3 ⟨g,cap,cs3,rfl,hge,hb3,hat3,hcap,hg3⟩
 have hgw3:=A2 hgw2 hg3
 have hbox13:=A1 hg3 hbox12
 have hbox23:=A1 hg3 hbox22
 have hboxr3:=A1 hg3 hboxr2
 have hl3:=hl2.kept hg3
 have hsz2:g2<w2.heap.size:=(Array.getElem?_eq_some_iff.1 hboxr2).1
 have hgne:g2<g:=by omega
 obtain ⟨cr3,fr3⟩:=A7 hboxr3
 have hfld:=fK
 have HG3:=Lib.hid hg3
 have HGE:=Lib.hid hge
 have HL2:=Lib.hid hl2
 have hrK:Hid (r<B^K):=Nat.lt_of_le_of_lt hR.out.le Hla.out
 clear hg3 hgw2 hboxa2 hbox12 hbox22 hboxr2 hl2 ca2 fa2 hsz2 hge
 go_wp2_with fail
 refine (uB w3 _ _ r r K ⟨sr,rs,rfl,hl3,HV1.out⟩ ⟨sr,rs,rfl,hl3,HV1.out⟩ (by omega) hrK.out hrK.out).mono ?_
 rintro e w4 ⟨sp,ps,rfl,hl4,hv4,hf4,hg4⟩
 have hlp:Rd w4 sp ps g:=by
  rcases hl4.rd with h | ⟨b,off,cs,e,h1,h2⟩
  · exact Or.inl h
  · exact Or.inr ⟨b,off,cs,e,by have:=hf4 _ e;have:=hb3.lt;simp only at *;omega,h1,h2⟩
 have hgw4:=A2 hgw3 hg4
 have hbox14:=A1 hg4 hbox13
 have hbox24:=A1 hg4 hbox23
 have hboxr4:=A1 hg4 hboxr3
 have hl34:=hl3.kept hg4
 have hb4:=hb3.kept hg4 (by simp)
 have hple:Hid (val B ps<=val B xs):=by show _<=_;rw [hv4];exact hR.out.1
 have hplen:ps.length<=xs.length:=bS hl4 (hx.kept hgw4) hple.out
 have HV4:=Lib.hid hv4
 have HG4:=Lib.hid hg4
 clear hg4 hgw3 hbox13 hbox23 hboxr3 hl3 hb3 cr3 fr3 hv4
 go_wp2_with fail
 refine (aO w4 g 0 _ _ xs cs3 sp _ _ ps rfl rfl hb4 hat3 hlp hplen (by omega) hx.dig hl4.dig hple.out).mono ?_
 rintro e w5 ⟨zs,cs5,rfl,hb5,hw5,hg5,hl5,hd5,hv5⟩
 have hbox15:=P7 hg5 hbox14 (by omega)
 have hbox25:=P7 hg5 hbox24 (by omega)
 have hboxr5:=P7 hg5 hboxr4 (by omega)
 have hgw5:=B1 hgw4 hg5 (by omega)
 have hlr5:Lm w5 sr rs:=HL2.out.kept (B1 (A2 HG3.out HG4.out) hg5 HGE.out)
 have HV5:Hid (val B zs=val B xs-r*r):=by show _=_;rw [<- HV4.out];omega
 have HL5:=Lib.hid hl5
 have hr5:=Rdo.of hb5 hw5.lies
 obtain ⟨cr5,fr5⟩:=A7 hboxr5
 obtain ⟨cb15,fb15⟩:=A7 hbox15
 obtain ⟨cb25,fb25⟩:=A7 hbox25
 have hlr5':Hid (∀ W,w5.grownBy W none->Lm W sr rs):=fun W hW=>hlr5.kept hW
 clear hv5 hl5 hg5 hgw4 hbox14 hbox24 hboxr4 hl34 HG3 HG4 HL2 HGE hb4 hlp hl4 hw5 hat3
 go_wp2_with fail
 go_cut [] (fun wx=>PairIn w (w.heap.size+1) (w.heap.size+1+1) sr rs (val B xs-r*r) wx)
 case first=>
  go_region_held3 (fun w'=>w'.cell? ⟨g2,0,none⟩=some (.slice sr rs.length rs.length))
   (first | go_keep | (rw [World.cell?_setCell_other _ _ _ _ (by simp only [ne_eq,Addr.mk.injEq];omega)];assumption) | (rw [World.cell?_setCell_other _ _ _ _ (by simp only [ne_eq,Addr.mk.injEq];omega),World.cell?_setCell_other _ _ _ _ (by simp only [ne_eq,Addr.mk.injEq];omega)];assumption) | exact (H6 w5 hg6 rfl rfl rfl rfl).cell cr5 (by simp) | exact hg6.cell (by assumption) (by simp))
   (first
    | (go_at_call 97;(with_reducible refine (S5 (w5.setCell ⟨w.heap.size+1,0,none⟩ (.slice sr rs.length rs.length)).drew _ _ _ zs HL5.out ((hr5.set_other hbox15 (by decide) 0 _).kept (C9 (A9 _ _))) (by omega) (by omega) hd5).mono ?_);rintro e w6 ⟨_,rfl,⟨s6,q6,rfl,hl6,hv6⟩,hg6⟩;have q1:=A1 hg6 (show ((w5.setCell ⟨w.heap.size+1,0,none⟩ (.slice sr rs.length rs.length)).drew).heap[w.heap.size+1]?=_ from jU hbox15 _);have q2:=A1 hg6 (show ((w5.setCell ⟨w.heap.size+1,0,none⟩ (.slice sr rs.length rs.length)).drew).heap[w.heap.size+1+1]?=_ from iH hbox25 (by omega) _);obtain ⟨q1c,q1f⟩:=A7 q1;obtain ⟨q2c,q2f⟩:=A7 q2)
    | (go_at_call 97;(with_reducible refine (S5 w5.drew _ _ _ zs HL5.out (hr5.kept (C9 (A9 _ _))) (by omega) (by omega) hd5).mono ?_);rintro e w6 ⟨_,rfl,⟨s6,q6,rfl,hl6,hv6⟩,hg6⟩;have hG6:=H6 w5 hg6 rfl rfl rfl rfl;have q1:=A1 hG6 hbox15;have q2:=A1 hG6 hbox25;obtain ⟨q1c,q1f⟩:=A7 q1;obtain ⟨q2c,q2f⟩:=A7 q2))
  go_wp2_with fail
  go_meet
  exact pair_12 (by omega) q1 q2 (hlr5'.out _ hG6) hl6 (hv6.trans HV5.out) (A2 hgw5 hG6) (by omega) (by omega)
 case rest=>
  obtain ⟨s2,q2,h1,h2,l1,l2,hv,hg⟩:=hcut
  obtain ⟨c1,f1⟩:=A7 h1
  obtain ⟨c2,f2⟩:=A7 h2
  have HF:Hid (gJ w (val B xs) (.returned (.tuple #[.agg #[.slice sr rs.length rs.length],.agg #[.slice s2 q2.length q2.length]])) wc):=⟨r,hR.out,_,_,rfl,⟨sr,rs,rfl,l1,HV1.out⟩,⟨s2,q2,rfl,l2,hv⟩,hg⟩
  go_wp2_with fail
  exact bodyPost_ret (v := .tuple #[.agg #[.slice sr rs.length rs.length],.agg #[.slice s2 q2.length q2.length]]) (by simp [results,Tryz.results37,go_sem,c1,c2]) rfl HF.out
def Tab (w:World):Prop:=TabAt 3 Lib.deBruijn64tab w
theorem Tab.kept {w w':World} {row:Option Nat} (h:Tab w) (hg:w.grownBy w' row) (hr:some 3≠row):Tab w':=fun j hj=>hg.cell (h j hj) hr
theorem Tab.size {w:World} (h:Tab w) : 3<w.heap.size:=by
 have:=h 0 (by decide)
 unfold World.cell? at this
 rcases Nat.lt_or_ge 3 w.heap.size with h1 | h1
 · exact h1
 · rw [Array.getElem?_eq_none h1] at this;simp at this
set_option maxHeartbeats 1000000 in
theorem tz_core (x k idx:Nat) (w:World) (hx0:((x:Int) == 0)=false)
 (key:IntKind.u64.wrap (bits BinOp.and IntKind.u64 (x:Int) (IntKind.u64.wrap (-(x:Int)))*285870213051353865) / 288230376151711744=(idx:Int))
 (hi:idx<64) (hk:k<64) (hcell:w.cell? ⟨3,idx,none⟩=some (.int .u8 k)) :
 Calls Tryz.prog 182 #[.int .u64 x] w fun e w'=>e = .returned (.int .i64 k)/\w'=w:=by
 go_enter Tryz.func182,Tryz.ntmps182
 go_wp2_with (simp only [key])
 go_ret
 exact ⟨rfl,rfl⟩
theorem tz_any (x:Nat) (hx:x<B) (h0:x≠0) (w:World) (hT:Tab w) :
 Calls Tryz.prog 182 #[.int .u64 x] w fun e w'=>e = .returned (.int .i64 (Lib.ctz 64 x))/\w'=w:=by
 have hx':x<18446744073709551616:=hx
 obtain ⟨hlow,hk⟩:=Lib.lowest_bit 64 x h0 hx'
 obtain ⟨hi,htab⟩:=Lib.deBruijn64_at _ hk
 have hcell:=hT _ hi
 rw [htab] at hcell
 exact tz_core x _ _ w (by simp;omega) (tz64_key x _ hx' h0 hlow) hi hk hcell
theorem qM (x:Nat) (hx:x<B) (h0:x≠0):∃ m,x=2^Lib.ctz 64 x*(2*m+1)/\Lib.ctz 64 x<64:=by
 have hx':x<2^64:=hx
 have:=Lib.ctzFrom_spec 64 x (by omega) hx'
 unfold Lib.ctz
 rw [if_neg h0]
 exact this
theorem twos_spec {xs:List Nat} (dx:Dig B xs) (k x:Nat) (hk:k<xs.length) (ex:xs[k]=x) (h0:val B (xs.take k)=0) (hx:x≠0):∃ m,val B xs=2^(k*64+Lib.ctz 64 x)*(2*m+1)/\Lib.ctz 64 x<64:=by
 have hxB:x<B:=ex ▸ dx.get k _
 obtain ⟨m,hm,ht⟩:=qM x hxB hx
 generalize Lib.ctz 64 x=t at *
 have h1:=L4 B xs k (by omega)
 rw [h0,Nat.zero_add,List.drop_eq_getElem_cons hk,ex] at h1
 have h2:val B (x :: xs.drop (k+1))=x+B*val B (xs.drop (k+1)):=rfl
 rw [h2] at h1
 obtain ⟨d,hd⟩:∃ d,64=t+(d+1):=⟨63-t,by omega⟩
 have hB:B=2^t*(2^d*2):=by rw [<- Nat.pow_succ, <- Nat.pow_add, <- hd, <- bD]
 have hBk:B^k=2^(k*64):=by rw [bD, <- Nat.pow_mul,Nat.mul_comm]
 refine ⟨m+2^d*val B (xs.drop (k+1)), ?_,ht⟩
 rw [h1,hBk,Nat.pow_add,Nat.mul_assoc]
 congr 1
 rw [hB]
 generalize val B (xs.drop (k+1))=r
 rw [hm]
 generalize 2^t=a
 generalize 2^d=b
 grind
def TwosOf (w:World) (v:Nat) (n:Nat) (e:Ending) (w':World):Prop:=∃ t m:Nat,e = .returned (.int .i64 (t:Int))/\v=2^t*(2*m+1)/\t<64*n/\w=w'
set_option maxHeartbeats 1000000 in
theorem iW (w:World) (sa:Option Addr) (n cap:Nat) (xs:List Nat) (hn:xs.length=n) (hx:Rdo w sa xs) (dx:Dig B xs) (h0 : 0<val B xs) (bn:n<=1073741824) (hT:Tab w) :
 Calls Tryz.prog 174 #[.slice sa n cap] w (TwosOf w (val B xs) n):=by
 have Hn:=Lib.hid hn
 have H0:=Lib.hid h0
 have HT:=Lib.hid hT
 have hn0 : 0<n:=by
  rw [<- hn]
  rcases Nat.eq_zero_or_pos xs.length with h | h
  · rw [List.length_eq_zero_iff.1 h] at h0;simp [val] at h0
  · exact h
 clear hn h0 hT
 go_enter Tryz.func174,Tryz.ntmps174
 go_wp2_with fail
 go_loopw [3] (fun i wr=>∃ (k:Nat),k<n/\i = .int .i64 k/\w=wr/\Hid (val B (xs.take k)=0)) (fun i _=>n-(intOf i).toNat)
 case atStart=>exact ⟨0,hn0,rfl,rfl,by show _=_;rw [List.take_zero];rfl⟩
 case round=>
  obtain ⟨k,hk,rfl,rfl,hv⟩:=hrel
  obtain ⟨b1,o1,rfl,c1⟩:=hx.cell (by rw [Hn.out];omega)
  have c1:=c1 k (by rw [Hn.out];omega)
  obtain ⟨x,ex⟩:∃ x,xs[k]'(by rw [Hn.out];omega)=x:=⟨_,rfl⟩
  rw [ex] at c1
  have hxB:x<B:=ex ▸ dx.get k _
  have EX:=Lib.hid ex
  clear ex
  by_cases hz:x=0
  · subst hz
    have hv2:val B (xs.take (k+1))=0:=by rw [C0 B xs k (by rw [Hn.out];omega),EX.out,hv.out];omega
    have hk2:k+1<n:=by
     rcases Nat.lt_or_ge (k+1) n with h | h
     · exact h
     · have:=H0.out
       rw [List.take_of_length_le (by rw [Hn.out];omega)] at hv2
       omega
    have HV2:=Lib.hid hv2
    clear hv2
    go_wp2_with fail
    go_roundw
    case rel=>exact ⟨k+1,by omega,by go_num,by trivial,HV2⟩
    case measure=>simp [intOf];omega
  · have t:((x:Int) == 0)=false:=beq_eq_false_iff_ne.2 (by omega)
    obtain ⟨m,hm,ht⟩:=twos_spec dx k x (by rw [Hn.out];omega) EX.out hv.out hz
    obtain ⟨q,hq⟩:∃ q,Lib.ctz 64 x=q:=⟨_,rfl⟩
    have hC:=tz_any x hxB hz w HT.out
    rw [hq] at hm ht hC
    have HC:=Lib.hid hC
    have HM:=Lib.hid hm
    clear hC hm hq hxB hz
    go_wp2_with fail
    refine HC.out.mono ?_
    rintro e w' ⟨rfl,rfl⟩
    go_wp2_with fail
    go_ret
    exact ⟨k*64+q,m,congrArg Ending.returned (congrArg (Value.int IntKind.i64) (by omega)),HM.out,by omega,rfl⟩
theorem jL {x y t m:Nat} (hy:y%2=1) (hxy:y<x) (h:x-y=2^t*(2*m+1)):Nat.gcd (2*m+1) y=Nat.gcd x y:=by
 have h1:Nat.gcd x y=Nat.gcd (x-y) y:=(Nat.gcd_sub_self_left (Nat.le_of_lt hxy)).symm
 rw [h1,h]
 have hc:Nat.Coprime (2^t) y:=by
  apply Nat.Coprime.pow_left
  rw [Nat.coprime_comm]
  unfold Nat.Coprime
  rw [Nat.gcd_comm,Nat.gcd_rec,hy]
  rfl
 rw [Nat.Coprime.gcd_mul_left_cancel _ hc]
set_option maxHeartbeats 1000000 in
theorem pL (w:World) (x0 y0:Nat) (hx:x0<B) (hy:y0<B) (ox:x0%2=1) (oy:y0%2=1) (hT:Tab w) :
 Calls Tryz.prog 183 #[.int .u64 x0,.int .u64 y0] w fun e w'=>e = .returned (.int .u64 (Nat.gcd x0 y0:Int))/\w=w':=by
 have HT:=Lib.hid hT
 clear hT
 obtain ⟨g,hg⟩:∃ g,Nat.gcd x0 y0=g:=⟨_,rfl⟩
 rw [hg]
 have HG:=Lib.hid hg
 clear hg
 go_enter Tryz.func183,Tryz.ntmps183
 go_wp2_with fail
 go_loopw [0,1] (fun a b wr=>∃ (x y:Nat),a = .int .u64 x/\b = .int .u64 y/\x<B/\y<B/\x%2=1/\y%2=1/\w=wr/\Hid (Nat.gcd x y=g)) (fun a b _=>(intOf a).toNat+(intOf b).toNat)
 case atStart=>exact ⟨x0,y0,rfl,rfl,hx,hy,ox,oy,rfl,HG⟩
 case round=>
  obtain ⟨x,y,rfl,rfl,hxB,hyB,ox,oy,rfl,hg⟩:=hrel
  rcases Nat.lt_trichotomy y x with h | h | h
  · have f1:((x:Int) == (y:Int))=false:=beq_eq_false_iff_ne.2 (by omega)
    have f2:decide (x<y)=false:=decide_eq_false (by omega)
    have f3:IntKind.u64.wrap ((x:Int)-(y:Int))=((x-y:Nat):Int):=by rw [IntKind.wrap_u64];unfold B at *;omega
    obtain ⟨d,hd⟩:∃ d,x-y=d:=⟨_,rfl⟩
    rw [hd] at f3
    have hC:=tz_any d (by omega) (by omega) w HT.out
    obtain ⟨m,hm,hq64⟩:=qM d (by omega) (by omega)
    obtain ⟨q,hq⟩:∃ q,Lib.ctz 64 d=q:=⟨_,rfl⟩
    rw [hq] at hm hC hq64
    have HC:=Lib.hid hC
    have HM:=Lib.hid hm
    have HD:=Lib.hid hd
    have HX:=Lib.hid h
    clear hC hm hd h
    go_wp2_with fail
    refine HC.out.mono ?_
    rintro e w' ⟨rfl,rfl⟩
    go_wp2_with fail
    have hgc:Hid (Nat.gcd (2*m+1) y=g):=by show _=_;rw [jL oy HX.out (HD.out.trans HM.out)];exact hg.out
    have hdv:d / 2^q=2*m+1:=by rw [HM.out];exact Nat.mul_div_cancel_left _ (Nat.two_pow_pos q)
    have hle : 2*m+1<=d:=by rw [HM.out];exact Nat.le_mul_of_pos_left _ (Nat.two_pow_pos q)
    have hdx:d<x:=by have:=HD.out;omega
    have hdi:(d:Int) / 2^q=((2*m+1:Nat):Int):=by rw [<- hdv];norm_cast
    go_roundw
    case rel=>
     refine ⟨2*m+1,y, ?_,rfl,by omega,hyB,by omega,oy,by trivial,hgc⟩
     rw [hdi]
    case measure=>
     rw [hdi]
     simp only [intOf]
     omega
  · subst h
    have f1:((y:Int) == (y:Int))=true:=beq_self_eq_true _
    rw [Nat.gcd_self] at hg
    have HG2:=hg.out
    subst HG2
    go_wp2_with fail
    go_ret
    exact ⟨rfl,rfl⟩
  · have f1:((x:Int) == (y:Int))=false:=beq_eq_false_iff_ne.2 (by omega)
    have f2:decide (x<y)=true:=decide_eq_true (by omega)
    have f3:IntKind.u64.wrap ((y:Int)-(x:Int))=((y-x:Nat):Int):=by rw [IntKind.wrap_u64];unfold B at *;omega
    obtain ⟨d,hd⟩:∃ d,y-x=d:=⟨_,rfl⟩
    rw [hd] at f3
    have hC:=tz_any d (by omega) (by omega) w HT.out
    obtain ⟨m,hm,hq64⟩:=qM d (by omega) (by omega)
    obtain ⟨q,hq⟩:∃ q,Lib.ctz 64 d=q:=⟨_,rfl⟩
    rw [hq] at hm hC hq64
    have HC:=Lib.hid hC
    have HM:=Lib.hid hm
    have HD:=Lib.hid hd
    have HX:=Lib.hid h
    clear hC hm hd h
    go_wp2_with fail
    refine HC.out.mono ?_
    rintro e w' ⟨rfl,rfl⟩
    go_wp2_with fail
    have hgc:Hid (Nat.gcd (2*m+1) x=g):=by show _=_;rw [jL ox HX.out (HD.out.trans HM.out),Nat.gcd_comm];exact hg.out
    have hdv:d / 2^q=2*m+1:=by rw [HM.out];exact Nat.mul_div_cancel_left _ (Nat.two_pow_pos q)
    have hle : 2*m+1<=d:=by rw [HM.out];exact Nat.le_mul_of_pos_left _ (Nat.two_pow_pos q)
    have hdx:d<y:=by have:=HD.out;omega
    have hdi:(d:Int) / 2^q=((2*m+1:Nat):Int):=by rw [<- hdv];norm_cast
    go_roundw
    case rel=>
     refine ⟨2*m+1,x, ?_,rfl,by omega,hxB,by omega,ox,by trivial,hgc⟩
     rw [hdi]
    case measure=>
     rw [hdi]
     simp only [intOf]
     omega
structure OddIn (N:Nat) (w:World) (b n:Nat) (xs:List Nat) (cs:Array Value):Prop where
 lo:N<=b
 blk:Blk w b cs
 lies:At cs 0 xs
 len:Hid (xs.length=n)
 top:Top xs
 dig:Dig B xs
 odd:Hid (val B xs%2=1)
 bnd:n<=1073741824
theorem OddIn.lm {N:Nat} {w:World} {b n:Nat} {xs:List Nat} {cs:Array Value} (h:OddIn N w b n xs cs):Lm w (some ⟨b,0,none⟩) xs:=
 ⟨Rdo.of h.blk h.lies,by intro e;have:=h.odd.out;rw [e] at this;simp [val] at this,h.top,h.dig⟩
theorem OddIn.pos {N:Nat} {w:World} {b n:Nat} {xs:List Nat} {cs:Array Value} (h:OddIn N w b n xs cs) : 0<n:=by
 have:=h.odd.out
 rw [<- h.len.out]
 rcases Nat.eq_zero_or_pos xs.length with e | e
 · rw [List.length_eq_zero_iff.1 e] at this;simp [val] at this
 · exact e
theorem OddIn.kept {N:Nat} {w w':World} {b n:Nat} {xs:List Nat} {cs:Array Value} {row:Option Nat} (h:OddIn N w b n xs cs) (hg:w.grownBy w' row) (hr:some b≠row):OddIn N w' b n xs cs:=
 ⟨h.lo,h.blk.kept hg hr,h.lies,h.len,h.top,h.dig,h.odd,h.bnd⟩
theorem OddIn.size {N:Nat} {w:World} {b n:Nat} {xs:List Nat} {cs:Array Value} (h:OddIn N w b n xs cs):N<=w.heap.size:=Nat.le_trans h.lo (Nat.le_of_lt h.blk.lt)
theorem Tab.below {N:Nat} {w w':World} (h:Tab w) (hb:Below N w w') (hN : 3<N):Tab w':=by
 intro j hj
 have:=h j hj
 unfold World.cell? at *
 rw [hb.block 3 hN]
 exact this
theorem OddIn.one {N:Nat} {w:World} {b:Nat} {xs:List Nat} {cs:Array Value} (h:OddIn N w b 1 xs cs):∃ x,val B xs=x/\w.cell? ⟨b,0,none⟩=some (.int .u64 (x:Int))/\x<B/\x%2=1:=by
 obtain ⟨x,rfl⟩:=List.length_eq_one_iff.1 h.len.out
 have e:val B [x]=x:=by simp [val]
 refine ⟨x,e, ?_,h.dig x (by simp),by have:=h.odd.out;rw [e] at this;exact this⟩
 have:=h.blk.at h.lies 0 (by simp)
 simpa using this
theorem bM {zs:List Nat} {k:Nat} {v:Nat} (h:val B (zs.take k)=v) (h0 : 0<v) : 0<k:=by
 rcases Nat.eq_zero_or_pos k with e | e
 · rw [e,List.take_zero] at h;simp [val] at h;omega
 · exact e
theorem one_lies (g:Nat):At #[.int .u64 (g:Int)] 0 [g]:=fun i hi=>by
 obtain rfl:i=0:=by simpa using hi
 rfl
def RetOdd (N:Nat) (w:World) (g n:Nat) (e:Ending) (w':World):Prop:=
 ∃ (s:Option Addr) (k:Nat) (zs:List Nat),e = .returned (.slice s k k)/\zs.length=k/\k<=n/\Rdo w' s zs/\Dig B zs/\val B zs=g/\Below N w w'
set_option maxHeartbeats 4000000 in
theorem oddGcd_any (w:World) (N px nx:Nat) (xs:List Nat) (cx:Array Value) (py ny:Nat) (ys:List Nat) (cy:Array Value) (hx:OddIn N w px nx xs cx) (hy:OddIn N w py ny ys cy) (hne:px≠py) (hN : 3<N) (hT:Tab w) (M:Nat) (hMx:nx<=M) (hMy:ny<=M) :
 Calls Tryz.prog 175 #[.slice (some ⟨px,0,none⟩) nx nx,.slice (some ⟨py,0,none⟩) ny ny] w (RetOdd N w (Nat.gcd (val B xs) (val B ys)) M):=by
 have HT:=Lib.hid hT
 obtain ⟨g,hg⟩:∃ g,Nat.gcd (val B xs) (val B ys)=g:=⟨_,rfl⟩
 rw [hg]
 have HG:=Lib.hid hg
 have hNs:=hx.size
 clear hg hT
 go_enter Tryz.func175,Tryz.ntmps175
 go_wp2_with fail
 go_loopg [0,1] (val B xs+val B ys) (fun gh a b wr=>∃ (px nx:Nat) (xs:List Nat) (cx:Array Value) (py ny:Nat) (ys:List Nat) (cy:Array Value),a = .slice (some ⟨px,0,none⟩) nx nx/\b = .slice (some ⟨py,0,none⟩) ny ny/\OddIn N wr px nx xs cx/\OddIn N wr py ny ys cy/\px≠py/\nx<=M/\ny<=M/\Hid (Nat.gcd (val B xs) (val B ys)=g)/\Below N w wr/\Hid (val B xs+val B ys<=gh))
 case atStart=>exact ⟨px,nx,xs,cx,py,ny,ys,cy,rfl,rfl,hx,hy,hne,hMx,hMy,HG,Below.refl _ _,Nat.le_refl _⟩
 case round=>
  clear hx hy hne HG hMx hMy
  obtain ⟨px,nx,xs,cx,py,ny,ys,cy,rfl,rfl,hx,hy,hne,hMx,hMy,hg,hb,hgh⟩:=hrel
  have hxp:=hx.pos
  have hyp:=hy.pos
  by_cases h1:nx=1/\ny=1
  · obtain ⟨rfl,rfl⟩:=h1
    obtain ⟨x,e1,c1,hxB,ox⟩:=hx.one
    obtain ⟨y,e2,c2,hyB,oy⟩:=hy.one
    rw [e1,e2] at hg
    have hTW:Hid (∀ W,wr.grownBy W none->Tab W):=fun W hW=>(HT.out.below hb hN).kept hW (by simp)
    have hBW:Hid (∀ W,wr.grownBy W none->Below N w W):=fun W hW=>hb.trans (I4 hW hx.size)
    clear hx hy hb
    go_wp2_with fail
    go_region_held3 (fun w'=>w'.cell? ⟨px,0,none⟩=some (.int .u64 (x:Int))/\w'.cell? ⟨py,0,none⟩=some (.int .u64 (y:Int)))
     (first | go_keep)
     (first | (go_at_call 183;(with_reducible refine (pL wr.drew x y hxB hyB ox oy (hTW.out _ (C9 (A9 _ _)))).mono ?_);rintro e w' ⟨rfl,rfl⟩))
    go_wp2_with fail
    go_ret
    have hox : 0<x:=by omega
    have hgxB:Nat.gcd x y<B:=Nat.lt_of_le_of_lt (Nat.gcd_le_left y hox) hxB
    exact ⟨_,1,[Nat.gcd x y],rfl,rfl,hMx,Rdo.of (Blk.drew (lN _ _)) (one_lies _),Dig.cons hgxB (Dig.nil _),by simp [val];exact hg.out,hBW.out _ (C9 (World.grownBy_alloc _ _ _))⟩
  · have hh:decide ((1:Int)<(nx:Int))=true\/(decide ((1:Int)<(nx:Int))=false/\decide ((1:Int)<(ny:Int))=true):=by
     by_cases h2 : 1<nx
     · exact Or.inl (decide_eq_true (by omega))
     · exact Or.inr ⟨decide_eq_false (by omega),decide_eq_true (by omega)⟩
    clear h1
    rcases hh with f1 | ⟨f1,f2⟩
    all_goals
     rcases Nat.lt_trichotomy (val B ys) (val B xs) with h | h | h
     · have hmin:val B ys<val B xs:=h
       have t2:K5 (val B xs) (val B ys)=1:=bZ hmin
       have T2:=Lib.hid t2
       have HM:=Lib.hid hmin
       have hyl:ny<=nx:=by have:=bS hy.lm hx.lm (Nat.le_of_lt hmin);rw [hy.len.out,hx.len.out] at this;exact this
       clear t2 hmin h
       go_wp2_with fail
       refine (iL _ _ _ nx ny xs ys hx.len.out hy.len.out hx.lm hy.lm (by have:=hx.bnd;omega) (by have:=hy.bnd;omega)).mono ?_
       rintro e w' ⟨rfl,q,rfl⟩
       rw [T2.out]
       have hx1:=hx.kept (D4 wr q none) (by simp)
       have hy1:=hy.kept (D4 wr q none) (by simp)
       have hb1:=hb.trans (I4 (D4 wr q none) (Nat.le_trans hNs hb.size))
       generalize wr.drewN q=w1 at *
       clear hx hy hb
       go_wp2_with fail
       refine (aO w1 px 0 nx nx xs cx (some ⟨py,0,none⟩) ny ny ys hx1.len.out hy1.len.out hx1.blk hx1.lies (Or.inr ⟨py,0,cy,rfl,Ne.symm hne,hy1.blk,hy1.lies⟩) hyl (by have:=hx1.bnd;omega) hx1.dig hy1.dig (Nat.le_of_lt HM.out)).mono ?_
       rintro e w2 ⟨zs,cs2,rfl,hk2,hw2,hg2,hl2,hd2,hv2⟩
       have hy2:=hy1.kept hg2 (by simp;omega)
       have hb2:=hb1.trans (N7 hg2 hx1.lo hx1.size)
       have hlo:=hx1.lo
       have hbx:=hx1.bnd
       have hsz2:=hy2.size
       have hln2:zs.length=nx:=hl2.trans hx1.len.out
       have HL2:=Lib.hid hln2
       have hev:Hid (val B zs%2=0/\0<val B zs/\val B zs=val B xs-val B ys):=by
        have h3:=hx1.odd.out;have h4:=hy1.odd.out;have h5:=HM.out
        refine ⟨?_, ?_, ?_⟩<;>omega
       have HOY:=hy1.odd
       clear hg2 hl2 hln2 hv2 hb1 hx1 hy1
       go_wp2_with fail
       refine (eL w2 (some ⟨px,0,none⟩) nx nx zs HL2.out (Rdo.of hk2 hw2.lies) (by omega) (Nat.le_refl _)).mono ?_
       rintro e w3 ⟨k,hk,rfl,ht3,hv3,rfl⟩
       have hkp : 0<k:=bM hv3 hev.out.2.1
       rw [eS hkp]
       have hlk:(zs.take k).length=k:=by rw [List.length_take];omega
       have HLK:=Lib.hid hlk
       have hkn:k<=nx:=by rw [HL2.out] at hk;exact hk
       have hat3:=hw2.lies.take k
       have hd3:=hd2.take k
       have HV3:=Lib.hid hv3
       have hT2:=HT.out.below hb2 hN
       clear hv3 hk hlk
       go_wp2_with fail
       refine (iW w2 _ k k (zs.take k) HLK.out (Rdo.of hk2 hat3) hd3 (by rw [HV3.out];exact hev.out.2.1) (by omega) hT2).mono ?_
       rintro e w3 ⟨tt,mm,rfl,hf3,htt,rfl⟩
       have HF3:=Lib.hid hf3
       clear hf3
       go_wp2_with fail
       refine (T8 w2 px 0 k k (zs.take k) cs2 tt HLK.out hk2 hat3 hd3 (Nat.le_refl _) (by omega) (by omega)).mono ?_
       rintro e w4 ⟨s4,m4,cap4,cs4,zs4,rfl,hm4,hl4,hlx4,hd4,hv4,hs4,_,hk4,hat4,hg4⟩
       have hv4':val B zs4=2*mm+1:=by rw [hv4,HF3.out];exact Nat.mul_div_cancel_left _ (Nat.two_pow_pos tt)
       have hp4 : 0<m4:=by
        rcases Nat.eq_zero_or_pos m4 with e | e
        · rw [List.length_eq_zero_iff.1 (hl4.trans e)] at hv4';simp [val] at hv4'
        · exact e
       obtain rfl:=hs4 hp4
       have hy4:=hy2.kept hg4 (by simp;omega)
       have hb4:=hb2.trans (N7 hg4 hlo hsz2)
       have hm4k:m4<=k:=by rw [HLK.out] at hlx4;exact hlx4
       have HL4:=Lib.hid hl4
       have HV4:=Lib.hid hv4'
       clear hv4 hv4' hl4 hs4 hg4 hy2 hb2 hlx4 hk2 hw2 hd2 hat3 hd3 hT2
       go_wp2_with fail
       refine (eL w4 (some ⟨px,0,none⟩) m4 cap4 zs4 HL4.out (Rdo.of hk4 hat4) (by omega) hm4).mono ?_
       rintro e w5 ⟨k5,hk5,rfl,ht5,hv5,rfl⟩
       have hkp5 : 0<k5:=bM hv5 (by rw [HV4.out];omega)
       rw [eS hkp5]
       have hk5m:k5<=m4:=by rw [HL4.out] at hk5;exact hk5
       have hlk5:(zs4.take k5).length=k5:=by rw [List.length_take];omega
       have hnew:OddIn N w4 px k5 (zs4.take k5) cs4:=⟨hlo,hk4,hat4.take k5,hlk5,ht5,hd4.take k5,by show _=_;rw [hv5,HV4.out];omega,by omega⟩
       have hgn:Hid (Nat.gcd (val B (zs4.take k5)) (val B ys)=g):=by
        show _=_
        have h6:=hev.out.2.2
        rw [<- HV3.out,HF3.out] at h6
        rw [hv5,HV4.out,jL HOY.out HM.out h6.symm];exact hg.out
       have hms:Hid (val B (zs4.take k5)+val B ys<gk):=by
        show _<_
        have h6:=hev.out.2.2
        have h7:=HV3.out
        have h8 : 2*mm+1<=2^tt*(2*mm+1):=Nat.le_mul_of_pos_left _ (Nat.two_pow_pos tt)
        have h9:=HF3.out
        have h10:=HM.out
        have h11:val B ys%2=1:=HOY.out
        have h12:=hgh.out
        rw [hv5,HV4.out];omega
       clear hv5 hlk5 hk5 ht5 hk4 hat4 hd4
       go_wp2_with fail
       go_roundg (val B (zs4.take k5)+val B ys)
       case measure=>exact hms.out
       case rel=>exact ⟨px,k5,zs4.take k5,cs4,py,ny,ys,cy,rfl,rfl,hnew,hy4,hne,by omega,hMy,hgn,hb4,Nat.le_refl _⟩
     · have t2:K5 (val B xs) (val B ys)=0:=gE h.symm
       have T2:=Lib.hid t2
       have hgx:val B xs=g:=by rw [<- hg.out, <- h,Nat.gcd_self]
       have HGX:=Lib.hid hgx
       clear t2 h hgx
       go_wp2_with fail
       refine (iL _ _ _ nx ny xs ys hx.len.out hy.len.out hx.lm hy.lm (by have:=hx.bnd;omega) (by have:=hy.bnd;omega)).mono ?_
       rintro e w' ⟨rfl,q,rfl⟩
       rw [T2.out]
       have hF:Hid (RetOdd N w g M (.returned (.slice (some ⟨px,0,none⟩) nx nx)) (wr.drewN q)):=⟨_,nx,xs,rfl,hx.len.out,hMx,(Rdo.of hx.blk hx.lies).kept (D4 _ _ _),hx.dig,HGX.out,hb.trans (I4 (D4 wr q none) (Nat.le_trans hNs hb.size))⟩
       go_wp2_with fail
       go_ret
       exact hF
     · have hmin:val B xs<val B ys:=h
       have t2:K5 (val B xs) (val B ys) = -1:=bX hmin
       have T2:=Lib.hid t2
       have HM:=Lib.hid hmin
       have hyl:nx<=ny:=by have:=bS hx.lm hy.lm (Nat.le_of_lt hmin);rw [hx.len.out,hy.len.out] at this;exact this
       clear t2 hmin h
       go_wp2_with fail
       refine (iL _ _ _ nx ny xs ys hx.len.out hy.len.out hx.lm hy.lm (by have:=hx.bnd;omega) (by have:=hy.bnd;omega)).mono ?_
       rintro e w' ⟨rfl,q,rfl⟩
       rw [T2.out]
       have hx1:=hx.kept (D4 wr q none) (by simp)
       have hy1:=hy.kept (D4 wr q none) (by simp)
       have hb1:=hb.trans (I4 (D4 wr q none) (Nat.le_trans hNs hb.size))
       generalize wr.drewN q=w1 at *
       clear hx hy hb
       go_wp2_with fail
       refine (aO w1 py 0 ny ny ys cy (some ⟨px,0,none⟩) nx nx xs hy1.len.out hx1.len.out hy1.blk hy1.lies (Or.inr ⟨px,0,cx,rfl,hne,hx1.blk,hx1.lies⟩) hyl (by have:=hy1.bnd;omega) hy1.dig hx1.dig (Nat.le_of_lt HM.out)).mono ?_
       rintro e w2 ⟨zs,cs2,rfl,hk2,hw2,hg2,hl2,hd2,hv2⟩
       have hy2:=hx1.kept hg2 (by simp;omega)
       have hb2:=hb1.trans (N7 hg2 hy1.lo hy1.size)
       have hlo:=hy1.lo
       have hbx:=hy1.bnd
       have hsz2:=hy2.size
       have hln2:zs.length=ny:=hl2.trans hy1.len.out
       have HL2:=Lib.hid hln2
       have hev:Hid (val B zs%2=0/\0<val B zs/\val B zs=val B ys-val B xs):=by
        have h3:=hy1.odd.out;have h4:=hx1.odd.out;have h5:=HM.out
        refine ⟨?_, ?_, ?_⟩<;>omega
       have HOY:=hx1.odd
       clear hg2 hl2 hln2 hv2 hb1 hx1 hy1
       go_wp2_with fail
       refine (eL w2 (some ⟨py,0,none⟩) ny ny zs HL2.out (Rdo.of hk2 hw2.lies) (by omega) (Nat.le_refl _)).mono ?_
       rintro e w3 ⟨k,hk,rfl,ht3,hv3,rfl⟩
       have hkp : 0<k:=bM hv3 hev.out.2.1
       rw [eS hkp]
       have hlk:(zs.take k).length=k:=by rw [List.length_take];omega
       have HLK:=Lib.hid hlk
       have hkn:k<=ny:=by rw [HL2.out] at hk;exact hk
       have hat3:=hw2.lies.take k
       have hd3:=hd2.take k
       have HV3:=Lib.hid hv3
       have hT2:=HT.out.below hb2 hN
       clear hv3 hk hlk
       go_wp2_with fail
       refine (iW w2 _ k k (zs.take k) HLK.out (Rdo.of hk2 hat3) hd3 (by rw [HV3.out];exact hev.out.2.1) (by omega) hT2).mono ?_
       rintro e w3 ⟨tt,mm,rfl,hf3,htt,rfl⟩
       have HF3:=Lib.hid hf3
       clear hf3
       go_wp2_with fail
       refine (T8 w2 py 0 k k (zs.take k) cs2 tt HLK.out hk2 hat3 hd3 (Nat.le_refl _) (by omega) (by omega)).mono ?_
       rintro e w4 ⟨s4,m4,cap4,cs4,zs4,rfl,hm4,hl4,hlx4,hd4,hv4,hs4,_,hk4,hat4,hg4⟩
       have hv4':val B zs4=2*mm+1:=by rw [hv4,HF3.out];exact Nat.mul_div_cancel_left _ (Nat.two_pow_pos tt)
       have hp4 : 0<m4:=by
        rcases Nat.eq_zero_or_pos m4 with e | e
        · rw [List.length_eq_zero_iff.1 (hl4.trans e)] at hv4';simp [val] at hv4'
        · exact e
       obtain rfl:=hs4 hp4
       have hy4:=hy2.kept hg4 (by simp;omega)
       have hb4:=hb2.trans (N7 hg4 hlo hsz2)
       have hm4k:m4<=k:=by rw [HLK.out] at hlx4;exact hlx4
       have HL4:=Lib.hid hl4
       have HV4:=Lib.hid hv4'
       clear hv4 hv4' hl4 hs4 hg4 hy2 hb2 hlx4 hk2 hw2 hd2 hat3 hd3 hT2
       go_wp2_with fail
       refine (eL w4 (some ⟨py,0,none⟩) m4 cap4 zs4 HL4.out (Rdo.of hk4 hat4) (by omega) hm4).mono ?_
       rintro e w5 ⟨k5,hk5,rfl,ht5,hv5,rfl⟩
       have hkp5 : 0<k5:=bM hv5 (by rw [HV4.out];omega)
       rw [eS hkp5]
       have hk5m:k5<=m4:=by rw [HL4.out] at hk5;exact hk5
       have hlk5:(zs4.take k5).length=k5:=by rw [List.length_take];omega
       have hnew:OddIn N w4 py k5 (zs4.take k5) cs4:=⟨hlo,hk4,hat4.take k5,hlk5,ht5,hd4.take k5,by show _=_;rw [hv5,HV4.out];omega,by omega⟩
       have hgn:Hid (Nat.gcd (val B (zs4.take k5)) (val B xs)=g):=by
        show _=_
        have h6:=hev.out.2.2
        rw [<- HV3.out,HF3.out] at h6
        rw [hv5,HV4.out,jL HOY.out HM.out h6.symm,Nat.gcd_comm];exact hg.out
       have hms:Hid (val B (zs4.take k5)+val B xs<gk):=by
        show _<_
        have h6:=hev.out.2.2
        have h7:=HV3.out
        have h8 : 2*mm+1<=2^tt*(2*mm+1):=Nat.le_mul_of_pos_left _ (Nat.two_pow_pos tt)
        have h9:=HF3.out
        have h10:=HM.out
        have h11:val B xs%2=1:=HOY.out
        have h12:=hgh.out
        rw [hv5,HV4.out];omega
       clear hv5 hlk5 hk5 ht5 hk4 hat4 hd4
       go_wp2_with fail
       go_roundg (val B (zs4.take k5)+val B xs)
       case measure=>exact hms.out
       case rel=>exact ⟨py,k5,zs4.take k5,cs4,px,nx,xs,cx,rfl,rfl,hnew,hy4,Ne.symm hne,by omega,hMx,hgn,hb4,Nat.le_refl _⟩
end Go.Proofs.YtdgdmicbbfoghaaGreatDoor
