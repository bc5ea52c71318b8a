/- What the laws lean on, part 5. -/
import Derived.BigQuiet
import Derived.BigRegion
import Derived.Deep.AppendLies
import Derived.Deep.CutBlock
import Derived.Deep.CutRange
import Derived.Deep.DeepCutAuto
import Derived.Deep.LoopGhost
import Derived.Deep.QuietTactic
import Derived.Deep.RegionHeld3
import Derived.Laws.CopyOwn
import Derived.Laws.Externs
import Derived.Laws.IdiomStrings
import Derived.Lib.BitFns
import Derived.Lib.Hide
import Derived.Lib.Slices
import Derived.Lib.Small
import Derived.Lib.Strings
import Derived.Lib.Walk
import Derived.Outline
import Derived.OwnWalk
import Derived.Shelf.Bits.Mul64
import Derived.StillTailTactics
import Derived.WalkKit
import Derived.WalkLawsBesides
import Derived.WalkSpells
import Derived.Test.YtdgdmicbbfoghaaGreatDoorProg
import Derived.Test.YtdgdmicbbfoghaaGreatDoorMg4
set_option linter.unusedVariables false
set_option linter.unusedSimpArgs false
set_option maxRecDepth 100000
namespace Go.Proofs.YtdgdmicbbfoghaaGreatDoor
open Go.RowKit Mat
set_option maxHeartbeats 2000000 in
theorem iK (w:World) (sa sb:Option Addr) (n ca m cb:Nat) (xs ys:List Nat) (hx:Lm w sa xs) (hy:Lm w sb ys) (hn:xs.length=n) (hm:ys.length=m) (hm0 : 0<m) (hc0:n=0->ca=0) (hca:n<=ca) (bn:n<=1073741000) (bm:m<=1073741000) :
 Calls Tryz.prog 140 #[.slice sa n ca,.slice sb m cb] w (R6 w (val B xs) (val B ys) n):=by
 have Hn:=Lib.hid hn
 have Hm:=Lib.hid hm
 by_cases hlt:n<m
 · have hv:=J0 B D6 xs ys hx.dig hy.top (by omega)
   have hq:Hid (0=val B xs / val B ys):=(Nat.div_eq_of_lt hv).symm
   have hr:Hid (val B xs=val B xs%val B ys):=(Nat.mod_eq_of_lt hv).symm
   clear hv hn hm
   by_cases h0:n=0
   · subst h0
     obtain rfl:xs=[]:=List.length_eq_zero_iff.1 Hn.out
     obtain rfl:=hx.nil rfl
     obtain rfl:=hc0 rfl
     clear hc0
     go_enter Tryz.func140,Tryz.ntmps140
     go_wp2_with fail
     refine (lR _).mono ?_
     rintro e w' ⟨rfl,rfl⟩
     go_wp2_with fail
     go_ret2
     exact ⟨none,none,0,0,0,0,[],[],rfl,rfl,by omega,by omega,rfl,by omega,by omega,Or.inl rfl,Or.inl rfl,Dig.nil _,Dig.nil _,hq.out,hr.out,A9 _ _,FreshAt.none _⟩
   · obtain ⟨b1,o1,cs1,rfl,hb1,hat1⟩:=hx.rd.get 0 (by rw [Hn.out];omega)
     clear hc0
     go_enter Tryz.func140,Tryz.ntmps140
     go_wp2_with fail
     refine (cI _ b1 o1 n _ cs1 xs Hn.out hb1 hat1 (by omega) (by omega)).mono ?_
     rintro e w2 ⟨g,cap,cs2,rfl,hge,hb2,hat2,hcap,hg2⟩
     rw [Hn.out] at hcap ⊢
     have HF:Hid (R6 w (val B xs) (val B ys) n (.returned (.tuple #[.slice none 0 0,.slice (some ⟨g,0,none⟩) n cap])) w2):=
      ⟨none,_,0,0,n,cap,[],xs,rfl,rfl,by omega,by omega,Hn.out,hcap,by omega,Or.inl rfl,Rdo.of hb2 hat2,Dig.nil _,hx.dig,hq.out,hr.out,hg2,FreshAt.some hge⟩
     clear hge hb2 hat2 hg2 hb1 hat1
     go_wp2_with fail
     go_ret2
     exact HF
 · by_cases h1:m=1
   · subst h1
     obtain ⟨b1,o1,cs1,rfl,hb1,hat1⟩:=hx.rd.get 0 (by omega)
     obtain ⟨b2,o2,rfl,cy⟩:=hy.rd.cell (by omega)
     have c0:=cy 0 (by omega)
     obtain ⟨y,rfl⟩:∃ y,ys=[y]:=List.length_eq_one_iff.1 hm
     have hyB:y<B:=hy.dig y (by simp)
     have hy0 : 0<y:=by
      have:=hy.top y (by simp)
      omega
     simp only [List.getElem_cons_zero,Nat.add_zero] at c0
     clear hn hm hc0 cy
     go_enter Tryz.func140,Tryz.ntmps140
     go_wp2_with fail
     refine (cI _ b1 o1 n _ cs1 xs Hn.out hb1 hat1 (by omega) (by omega)).mono ?_
     rintro e w2 ⟨g,cap,cs2,rfl,hge,hbk2,hat2,hcap,hg2⟩
     rw [Hn.out] at hcap ⊢
     have c02:w2.cell? ⟨b2,o2,none⟩=some (.int .u64 (y:Int)):=hg2.cell c0 (by simp)
     clear c0 hb1 hat1
     go_wp2_with fail
     refine (eJ _ g 0 n _ xs cs2 y Hn.out hbk2 hat2 (by omega) hx.dig hyB hy0).mono ?_
     rintro e w3 ⟨zs,cs3,rfl,hb3,hw3,hg3,hl3,hd3,hv3⟩
     have hgw3:=B1 hg2 hg3 hge
     have hrB:val B xs%y<B:=Nat.lt_trans (Nat.mod_lt _ hy0) hyB
     obtain ⟨r,hr⟩:∃ r,val B xs%y=r:=⟨_,rfl⟩
     rw [hr] at hrB ⊢
     have hat4:At #[.int .u64 (r:Int)] 0 [r]:=fun i hi=>by
      obtain rfl:i=0:=by simpa using hi
      rfl
     have HF:Hid (R6 w (val B xs) (val B [y]) n (.returned (.tuple #[.slice (some ⟨g,0,none⟩) n cap,.slice (some ⟨w3.heap.size,0,none⟩) 1 1])) (w3.alloc (.cells #[.int .u64 (r:Int)] 91))):=by
      refine ⟨_,_,n,cap,1,1,zs,[r],rfl,by rw [hl3,Hn.out],hcap,by omega,rfl,by omega,by omega,Rdo.of (hb3.alloc _) hw3.lies,Rdo.of (lN _ _) hat4,hd3,Dig.cons hrB (Dig.nil _), ?_, ?_,A8 hgw3 _,FreshAt.some hgw3.size⟩
      · rw [hv3];simp [val]
      · simp [val,hr]
     clear hge hbk2 hat2 hg2 hgw3 hb3 hw3 hg3 hl3 hv3 c02 hr
     go_wp2_with fail
     go_ret2
     exact HF
   · obtain ⟨m',rfl⟩:∃ m',m=m'+2:=⟨m-2,by omega⟩
     obtain ⟨d,rfl⟩:∃ d,n=m'+2+d:=⟨n-(m'+2),by omega⟩
     have f1:((m':Int)+2 == 1)=false:=beq_eq_false_iff_ne.2 (by omega)
     clear hc0 h1
     go_enter Tryz.func140,Tryz.ntmps140
     go_wp2_with fail
     refine (qI _ sa sb ca cb xs ys m' d hx hy hm hn bn).mono ?_
     rintro e w' ⟨sq,sr,nq,cq,nr,cr,qs,rs,rfl,h⟩
     have HF:Hid (R6 w (val B xs) (val B ys) (m'+2+d) (.returned (.tuple #[.slice sq nq cq,.slice sr nr cr])) w'):=⟨sq,sr,nq,cq,nr,cr,qs,rs,rfl,h⟩
     clear h hn hm
     go_wp2_with fail
     go_ret2
     exact HF
def rE (w:World) (n k:Nat) (code:Int) (e:Ending) (w':World):Prop:=∃ v u,e = .returned (.tuple #[v,u,.int .i64 code])/\NatV w' v n/\NatV w' u k/\w.grownBy w' none
set_option maxHeartbeats 2000000 in
theorem rM (w:World) (va vb:Value) (a b K:Nat) (ha:NatV w va a) (hb:NatV w vb b) (hK:K<=1073741000) (la:a<B^K) (lb:b<B^K) (h0 : 0<b) :
 Calls Tryz.prog 103 #[va,vb] w (rE w (a / b) (a%b) 0):=by
 obtain ⟨sa,xs,rfl,hx,rfl⟩:=ha
 obtain ⟨sb,ys,rfl,hy,rfl⟩:=hb
 have h1:=hx.len la
 have h2:=hy.len lb
 have h3:=Q8 hy h0
 clear la lb h0
 have hgw:w.grownBy ((((w.alloc (.cells #[.slice sa xs.length xs.length] 26)).alloc (.cells #[.slice sb ys.length ys.length] 26)).alloc (.cells #[.slice none 0 0] 26)).alloc (.cells #[.slice none 0 0] 26)) none:=A8 (A8 (A8 (World.grownBy_alloc _ _ _) _) _) _
 have hbox1:=(Below.heap_alloc _ (.cells #[.slice none 0 0] 26) (w.heap.size+1+1) (by simp)).trans (A4 ((w.alloc (.cells #[.slice sa xs.length xs.length] 26)).alloc (.cells #[.slice sb ys.length ys.length] 26)) (.cells #[.slice none 0 0] 26) (w.heap.size+1+1) (by simp))
 have hbox2:=A4 (((w.alloc (.cells #[.slice sa xs.length xs.length] 26)).alloc (.cells #[.slice sb ys.length ys.length] 26)).alloc (.cells #[.slice none 0 0] 26)) (.cells #[.slice none 0 0] 26) (w.heap.size+1+1+1) (by simp)
 have f1:((ys.length:Int) == 0)=false:=beq_eq_false_iff_ne.2 (by omega)
 go_enter Tryz.func103,Tryz.ntmps103
 go_wp2_with fail
 refine (iK _ sa sb _ _ _ _ xs ys (hx.kept hgw) (hy.kept hgw) rfl rfl h3 (fun h=>h) (Nat.le_refl _) (by omega) (by omega)).mono ?_
 rintro e w2 ⟨sq,sr,nq,cq,nr,cr,qs,rs,rfl,hlq,hcq,hnq,hlr,hcr,hnr,hrq,hrr,hdq,hdr,hvq,hvr,hg2,_⟩
 have hgw2:=A2 hgw hg2
 have hb1:=A1 hg2 hbox1
 have hb2:=A1 hg2 hbox2
 have HLQ:=Lib.hid hlq
 have HLR:=Lib.hid hlr
 have HVQ:=Lib.hid hvq
 have HVR:=Lib.hid hvr
 clear hlq hlr hvq hvr hg2 hgw hbox1 hbox2
 go_wp2_with fail
 refine (S5 _ sq nq cq qs HLQ.out hrq (by omega) hcq hdq).mono ?_
 rintro e w3 ⟨v,rfl,⟨s1,q1,rfl,hl3,hv3⟩,hg3⟩
 have hgw3:=A2 hgw2 hg3
 have hb13:=A1 hg3 hb1
 have hb23:=A1 hg3 hb2
 have hrr3:=hrr.kept hg3
 have HV3:=Lib.hid (hv3.trans HVQ.out)
 clear hv3 hg3 hgw2 hb1 hb2 hrr hrq
 go_wp2_with fail
 refine (S5 _ sr nr cr rs HLR.out hrr3 (by omega) hcr hdr).mono ?_
 rintro e w4 ⟨v,rfl,⟨s2,q2,rfl,hl4,hv4⟩,hg4⟩
 have hgw4:=A2 hgw3 hg4
 have hb14:=A1 hg4 hb13
 have hb24:=A1 hg4 hb23
 have hl34:=hl3.kept hg4
 have HV4:=Lib.hid (hv4.trans HVR.out)
 obtain ⟨hc1,hf1⟩:=A7 hb14
 obtain ⟨hc2,hf2⟩:=A7 hb24
 have HF:Hid (∀ u1 u2,rE w (val B xs / val B ys) (val B xs%val B ys) 0 (.returned (.tuple #[.agg #[.slice s1 q1.length q1.length],.agg #[.slice s2 q2.length q2.length],.int .i64 0])) ((w4.setCell ⟨w.heap.size+1+1,0,none⟩ u1).setCell ⟨w.heap.size+1+1+1,0,none⟩ u2)):=by
  intro u1 u2
  have hb5:(w4.setCell ⟨w.heap.size+1+1,0,none⟩ u1).heap[w.heap.size+1+1+1]?=some (.cells #[.slice none 0 0] 26 (0,0)):=by
   rw [Below.heap_setCell _ _ _ _ (by simp)];exact hb24
  exact ⟨_,_,rfl,⟨s1,q1,rfl,(hl34.set_other hb14 (by decide) 0 u1).set_other hb5 (by decide) 0 u2,HV3.out⟩,⟨s2,q2,rfl,(hl4.set_other hb14 (by decide) 0 u1).set_other hb5 (by decide) 0 u2,HV4.out⟩,
   B1 (B1 hgw4 (B2 (A9 _ _) _ _) (by omega)) (B2 (A9 _ _) _ _) (by omega)⟩
 clear hv4 hg4 hgw3 hgw4 hb13 hb23 hb14 hb24 hrr3
 go_wp2_with fail
 exact bodyPost_ret (v := .tuple #[.agg #[.slice s1 q1.length q1.length],.agg #[.slice s2 q2.length q2.length],.int .i64 0]) (by simp [results,Tryz.results103,go_sem,hc1,hc2]) rfl (HF.out _ _)
def nb (a:Nat):Nat:=if a=0 then 0 else Nat.log2 a+1
theorem nb_zero:nb 0=0:=rfl
theorem bI {a:Nat} (h : 0<a) : 2^(nb a-1)<=a/\a<2^nb a/\1<=nb a:=by
 unfold nb
 rw [if_neg (by omega),Nat.add_sub_cancel]
 exact ⟨Nat.log2_self_le (by omega),Nat.lt_log2_self,by omega⟩
theorem nb_of {a k:Nat} (h1 : 2^k<=a) (h2:a<2^(k+1)):nb a=k+1:=by
 obtain ⟨a1,a2,a3⟩:=bI (a:=a) (Nat.lt_of_lt_of_le (Nat.two_pow_pos k) h1)
 rcases Nat.lt_trichotomy (nb a) (k+1) with h | h | h
 · have : 2^nb a<=2^k:=Nat.pow_le_pow_right (by omega) (by omega)
   omega
 · exact h
 · have : 2^(k+1)<=2^(nb a-1):=Nat.pow_le_pow_right (by omega) (by omega)
   omega
theorem nb_limbs {xs:List Nat} (dx:Dig B xs) (n t:Nat) (hn:xs.length=n+1) (ht:xs.getD n 0=t) (h0:t≠0):nb (val B xs)=n*64+Lib.bitLen t:=by
 have h1:=G8 B xs n (by omega)
 rw [List.take_of_length_le (by omega),ht] at h1
 have h2:=S1 B (xs.take n) (dx.take n)
 rw [List.length_take,Nat.min_eq_left (by omega)] at h2
 have htB:t<B:=by rw [<- ht];exact dx.getD D6 n
 obtain ⟨s1,s2,s3⟩:=W8 (t+1) t (by omega) h0 (by rw [<- bD];exact htB)
 obtain ⟨L,hL⟩:∃ L,Lib.bitLen t=L+1:=⟨Lib.bitLen t-1,by omega⟩
 rw [hL,Nat.add_sub_cancel] at s1
 rw [hL] at s2 ⊢
 have hB:B^n=2^(n*64):=by rw [bD, <- Nat.pow_mul,Nat.mul_comm]
 rw [show n*64+(L+1)=(n*64+L)+1 from by omega]
 refine nb_of ?_ ?_
 · rw [h1,Nat.pow_add, <- hB]
   have:B^n*2^L<=B^n*t:=Nat.mul_le_mul_left _ s1
   omega
 · rw [h1,show n*64+L+1=n*64+(L+1) from by omega,Nat.pow_add, <- hB]
   have:B^n*(t+1)<=B^n*2^(L+1):=Nat.mul_le_mul_left _ s2
   rw [Nat.mul_add,Nat.mul_one] at this
   omega
set_option maxHeartbeats 1000000 in
theorem L9 (w:World) (va:Value) (a K:Nat) (ha:NatV w va a) (hK:K<=1073741824) (la:a<B^K) :
 Calls Tryz.prog 104 #[va] w fun e w'=>e = .returned (.int .i64 (nb a:Int))/\w.grownBy w' none:=by
 obtain ⟨sa,xs,rfl,hx,rfl⟩:=ha
 have h1:=hx.len la
 clear la
 by_cases h0:xs.length=0
 · obtain rfl:xs=[]:=List.length_eq_zero_iff.1 h0
   simp only [List.length_nil]
   go_enter Tryz.func104,Tryz.ntmps104
   go_wp2_with fail
   go_ret
   exact ⟨rfl,World.grownBy_alloc _ _ _⟩
 · obtain ⟨n,hn⟩:∃ n,xs.length=n+1:=⟨xs.length-1,by omega⟩
   obtain ⟨b,o,rfl,cx⟩:=hx.rd.cell (by omega)
   obtain ⟨t,ht⟩:∃ t,xs.getD n 0=t:=⟨_,rfl⟩
   have ct:=cx n (by omega)
   rw [W5,ht] at ct
   have ht0:t≠0:=by
    refine hx.top _ ?_
    rw [List.getLast?_eq_getElem?,hn,Nat.add_sub_cancel,List.getElem?_eq_getElem (by omega),W5,ht]
   have htB:t<B:=by rw [<- ht];exact hx.dig.getD D6 _
   have HB:=Lib.hid (nb_limbs hx.dig n t hn ht ht0)
   have hl:=gH t htB
   rw [hn]
   rw [hn] at h1
   have ct2:=(World.grownBy_alloc w (.cells #[.slice (some ⟨b,o,none⟩) (n+1) (n+1)] 26) none).cell ct (by simp)
   have f1:((n:Int)+1 == 0)=false:=beq_eq_false_iff_ne.2 (by omega)
   clear cx ht hn h0 ct
   go_enter Tryz.func104,Tryz.ntmps104
   go_wp2_with fail
   refine (tH t htB _).mono ?_
   rintro e w' ⟨rfl,rfl⟩
   go_wp2_with fail
   go_ret
   refine ⟨?_,World.grownBy_alloc _ _ _⟩
   rw [HB.out]
   exact congrArg Ending.returned (congrArg (Value.int IntKind.i64) (by omega))
def IsRoot (a r:Nat):Prop:=r*r<=a/\a<(r+1)*(r+1)
theorem pX {w W:World} (h:W.heap=w.heap) (h1:W.os=w.os) (h2:W.tape=w.tape) (h3:W.output=w.output):w.grownBy W none:=⟨h1,h2,h3,by rw [h];exact Nat.le_refl _,fun k _ _=>by rw [h]⟩
theorem H6 (w:World) {W W':World} (hg:W.grownBy W' none) (h:W.heap=w.heap) (h1:W.os=w.os) (h2:W.tape=w.tape) (h3:W.output=w.output):w.grownBy W' none:=A2 (pX h h1 h2 h3) hg
theorem jU {w:World} {g:Nat} {v0:Value} {t:TypeId} (h:w.heap[g]?=some (.cells #[v0] t (0,0))) (v:Value):(w.setCell ⟨g,0,none⟩ v).heap[g]?=some (.cells #[v] t (0,0)):=by
 simp [World.setCell,Array.getElem?_modify,h]
theorem iH {w:World} {g k:Nat} {o:Obj} (h:w.heap[k]?=some o) (hk:k≠g) (v:Value):(w.setCell ⟨g,0,none⟩ v).heap[k]?=some o:=(Below.heap_setCell _ _ _ _ (by simpa using hk)).trans h
theorem N7 {a b:World} {N g:Nat} (h:a.grownBy b (some g)) (hN:N<=g) (hs:N<=a.heap.size):Below N a b:=
 ⟨h.os,h.tape,h.output,h.size,fun k hk=>h.block k (by omega) (by intro e;cases e;omega)⟩
theorem I4 {a b:World} {N:Nat} (h:a.grownBy b none) (hs:N<=a.heap.size):Below N a b:=
 ⟨h.os,h.tape,h.output,h.size,fun k hk=>h.block k (by omega) (by simp)⟩
theorem iL (w:World) (sa sb:Option Addr) (n m:Nat) (xs ys:List Nat) (hn:xs.length=n) (hm:ys.length=m) (hx:Lm w sa xs) (hy:Lm w sb ys) (bn:n<=1099511627776) (bm:m<=1099511627776) :
 Calls Tryz.prog 114 #[.slice sa n n,.slice sb m m] w (rN w (val B xs) (val B ys)):=by
 subst hn;subst hm;exact W7 w sa sb xs ys hx hy bn bm
theorem FreshAt.mono {n m:Nat} {s:Option Addr} (h:FreshAt n s) (hm:m<=n):FreshAt m s:=fun ad e=>⟨Nat.le_trans hm (h ad e).1,(h ad e).2⟩
theorem FreshAt.sa {n k:Nat} {s:Option Addr} (h:FreshAt n s):FreshAt n (Sa s k):=by
 unfold Sa;split
 · exact FreshAt.none n
 · exact h
theorem Lm.lt {w:World} {s:Option Addr} {xs:List Nat} (h:Lm w s xs) {ad:Addr} (e:s=some ad):ad.block<w.heap.size:=by
 rcases h.rd with hn | ⟨b,off,cs,e1,h1,_⟩
 · rw [h.nil hn] at e;cases e
 · rw [e1] at e;cases e;exact h1.lt
theorem Lm.pos {w:World} {s:Option Addr} {xs:List Nat} (h:Lm w s xs) (h0 : 0<xs.length) : 0<val B xs:=by
 rcases Nat.eq_zero_or_pos (val B xs) with e | e
 · rw [(R8 B D6 xs h.top).1 e] at h0;simp at h0
 · exact e
def ClonedLm (w:World) (n:Nat) (xs:List Nat) (e:Ending) (w':World):Prop:=
 ∃ (s:Option Addr) (cap:Nat),e = .returned (.slice s n cap)/\Lm w' s xs/\n<=cap/\(n=0->cap=0)/\FreshAt w.heap.size s/\w.grownBy w' none
theorem kJ (w:World) (sa:Option Addr) (n:Nat) (xs:List Nat) (hn:xs.length=n) (hx:Lm w sa xs) (bn:n<=1099511627776) :
 Calls Tryz.prog 94 #[.slice sa n n] w (ClonedLm w n xs):=by
 rcases Nat.eq_zero_or_pos n with h0 | h0
 · subst h0
   obtain rfl:=List.length_eq_zero_iff.1 hn
   obtain rfl:=hx.nil rfl
   refine (lR w).mono ?_
   rintro e w' ⟨rfl,rfl⟩
   exact ⟨none,0,rfl,hx,Nat.le_refl _,fun _=>rfl,FreshAt.none _,A9 _ _⟩
 · obtain ⟨b1,o1,cs1,rfl,hb1,hat1⟩:=hx.rd.get 0 (by omega)
   refine (cI w b1 o1 n n cs1 xs hn hb1 hat1 h0 bn).mono ?_
   rintro e w' ⟨g,cap,cs2,rfl,hge,hb2,hat2,hcap,hg2⟩
   rw [hn] at hcap ⊢
   exact ⟨_,cap,rfl,⟨Rdo.of hb2 hat2,by rintro rfl;simp at hn;omega,hx.top,hx.dig⟩,hcap,fun e=>absurd e (by omega),FreshAt.some hge,hg2⟩
def nU (w:World) (a:Nat) (e:Ending) (w':World):Prop:=
 (∃ x:Nat,e = .returned (.tuple #[.int .u64 (x:Int),.bool (decide (a<B))])/\(a<B->x=a)/\(¬ a<B->x=0))/\w.grownBy w' none
set_option maxHeartbeats 1000000 in
theorem Word_any (w:World) (va:Value) (a K:Nat) (ha:NatV w va a) (hK:K<=1073741824) (la:a<B^K) :
 Calls Tryz.prog 181 #[va] w (nU w a):=by
 obtain ⟨sa,xs,rfl,hx,rfl⟩:=ha
 have h1:=hx.len la
 clear la
 rcases Nat.lt_trichotomy xs.length 1 with h | h | h
 · obtain rfl:xs=[]:=List.length_eq_zero_iff.1 (by omega)
   have e0:val B []=0:=rfl
   have hF:Hid (nU w (val B []) (.returned (.tuple #[.int .u64 0,.bool true])) (w.alloc (.cells #[.slice sa 0 0] 26))):=⟨⟨0,by rw [e0];rfl,fun _=>rfl,fun _=>rfl⟩,World.grownBy_alloc _ _ _⟩
   simp only [List.length_nil]
   go_enter Tryz.func181,Tryz.ntmps181
   go_wp2_with fail
   go_ret2
   exact hF.out
 · obtain ⟨x,rfl⟩:=List.length_eq_one_iff.1 h
   obtain ⟨b,o,rfl,cx⟩:=hx.rd.cell (by simp)
   have ct:=cx 0 (by simp)
   have ev:val B [x]=x:=by simp [val]
   have hxB:x<B:=hx.dig x (by simp)
   have ct2:=(World.grownBy_alloc w (.cells #[.slice (some ⟨b,o,none⟩) 1 1] 26) none).cell ct (by simp)
   simp only [List.getElem_cons_zero,Nat.add_zero] at ct2
   have hF:Hid (nU w (val B [x]) (.returned (.tuple #[.int .u64 (x:Int),.bool true])) (w.alloc (.cells #[.slice (some ⟨b,o,none⟩) 1 1] 26))):=by
    refine ⟨⟨x, ?_,fun _=>ev.symm,fun h=>absurd (by rw [ev];exact hxB) h⟩,World.grownBy_alloc _ _ _⟩
    rw [ev,decide_eq_true hxB]
   clear cx ct hxB ev
   simp only [List.length_singleton]
   go_enter Tryz.func181,Tryz.ntmps181
   go_wp2_with fail
   go_ret2
   exact hF.out
 · obtain ⟨n,hn⟩:∃ n,xs.length=n:=⟨_,rfl⟩
   have hge:¬ val B xs<B:=by
    have h2:=kM B xs (by rintro rfl;simp at h) hx.top
    have h3:B^1<=B^(xs.length-1):=Nat.pow_le_pow_right D6 (by omega)
    rw [Nat.pow_one] at h3
    omega
   have hF:Hid (nU w (val B xs) (.returned (.tuple #[.int .u64 0,.bool false])) (w.alloc (.cells #[.slice sa n n] 26))):=by
    refine ⟨⟨0,by rw [decide_eq_false hge];rfl,fun h=>absurd h hge,fun _=>rfl⟩,World.grownBy_alloc _ _ _⟩
   rw [hn] at h h1 ⊢
   have f1:((n:Int) == 0)=false:=beq_eq_false_iff_ne.2 (by omega)
   have f2:((n:Int) == 1)=false:=beq_eq_false_iff_ne.2 (by omega)
   clear hn hge
   go_enter Tryz.func181,Tryz.ntmps181
   go_wp2_with fail
   go_ret2
   exact hF.out
def uv (x:Nat):Value := .int .u64 (x:Int)
theorem own_put {w:World} {base g n cap:Nat} {cs:Array Value} {zs:List Nat} (hb:Blk w g (Put cs 0 zs)) (hz:zs.length=n) (hn:n<=cap) (hc:cap<=maxLen) (hs:cs.size=cap) (hl:base<=g) :
 w.ownsRow base 91 1 (.slice (some ⟨g,0,none⟩) n cap) n (zs.map uv):=by
 refine ⟨by rw [List.length_map,hz,Nat.mul_one],Or.inr ⟨g,cap,Put cs 0 zs,rfl,hl,hb,hn,hc,by rw [dQ,hs,Nat.mul_one], ?_⟩⟩
 have hat:=iR zs cs 0 (by omega)
 apply List.ext_getElem?
 intro i
 rw [Nat.mul_one,List.getElem?_take]
 by_cases hi:i<n
 · rw [if_pos hi,List.getElem?_map,List.getElem?_eq_getElem (l:=zs) (by omega)]
   have:=hat i (by omega)
   rw [Nat.zero_add] at this
   rw [Array.getElem?_toList,this]
   rfl
 · rw [if_neg hi,List.getElem?_eq_none (by rw [List.length_map];omega)]
theorem own_row {w:World} {base:Nat} {s:Option Addr} {n cap:Nat} {xs:List Nat} (h:w.ownsRow base 91 1 (.slice s n cap) n (xs.map uv)) (hn : 0<n) :
 ∃ g cs,s=some ⟨g,0,none⟩/\base<=g/\Blk w g cs/\n<=cap/\cap<=maxLen/\cs.size=cap/\At cs 0 xs:=by
 obtain ⟨h1,h2 | ⟨g,cap',cur,e,hg,hb,hc,hm,hs,ht⟩⟩:=h
 · omega
 · cases e
   refine ⟨g,cur,rfl,hg,hb,hc,hm,by omega, ?_⟩
   intro i hi
   rw [List.length_map,Nat.mul_one] at h1
   have h3:(cur.toList.take (n*1))[i]?=(xs.map uv)[i]?:=by rw [ht]
   rw [Nat.mul_one,List.getElem?_take,if_pos (by omega),Array.getElem?_toList,List.getElem?_map,List.getElem?_eq_getElem hi] at h3
   rw [Nat.zero_add];exact h3
theorem tD {w:World} {base:Nat} {v:Value} {n:Nat} {xs:List Value} (h:w.ownsRow base 91 1 v n xs) (o:Obj):(w.alloc o).ownsRow base 91 1 v n xs:=by
 obtain ⟨h1,h2 | ⟨g,cap',cur,e,hg,hb,hr⟩⟩:=h
 · exact ⟨h1,Or.inl h2⟩
 · exact ⟨h1,Or.inr ⟨g,cap',cur,e,hg,(Below.heap_alloc w o g (Array.getElem?_eq_some_iff.1 hb).1).trans hb,hr⟩⟩
theorem one_uv {ad:Nat} : ∀ u ∈ ([uv ad]:List Value),u.oneCell'=true:=by intro u hu;simp at hu;subst hu;rfl
def eR (w:World) (base:Nat) (xs:List Nat) (by' add:Nat) (e:Ending) (w':World):Prop:=
 ∃ (s:Option Addr) (n cap:Nat) (zs:List Nat),e = .returned (.slice s n cap)/\w'.ownsRow base 91 1 (.slice s n cap) n (zs.map uv)/\zs.length=n/\n<=xs.length+1/\Dig B zs/\val B zs=val B xs*by'+add/\Below base w w'/\(n=0->s=none/\cap=0)
theorem scale_step (k v x by' add s:Nat) (h:v+add*B^k=s) :
 v+B^k*E7 (C8 x by') add 0+(R1 x by'+G6 (C8 x by') add 0)*B^(k+1)=s+B^k*(x*by'):=by
 have e1:=kZ x by'
 have e2:E7 (C8 x by') add 0+B*G6 (C8 x by') add 0=C8 x by'+add+0:=Nat.mod_add_div ..
 generalize E7 (C8 x by') add 0=r2 at *
 generalize G6 (C8 x by') add 0=c2 at *
 generalize C8 x by'=r1 at *
 generalize R1 x by'=q1 at *
 rw [<- e1,Nat.pow_succ]
 grind
set_option maxHeartbeats 2000000 in
theorem scaled_some (w:World) (base g n cap:Nat) (cs:Array Value) (xs:List Nat) (by' add:Nat) (hn:xs.length=n) (h0 : 0<n) (hg0:base<=g) (hb:Blk w g cs) (hx:At cs 0 xs) (hnc:n<=cap) (hcm:cap<=maxLen) (hcs:cs.size=cap) (dx:Dig B xs) (bn:n<=1000000) (hby:by'<B) (had:add<B) :
 Calls Tryz.prog 155 #[.slice (some ⟨g,0,none⟩) n cap,.int .u64 (by':Int),.int .u64 (add:Int)] w (eR w base xs by' add):=by
 have Hn:=Lib.hid hn
 have hbyN:by'<18446744073709551616:=hby
 have HCM:=Lib.hid hcm
 have hsz:=hb.lt
 obtain ⟨i0,hi,hz0,hz1,hz2⟩:=info_parts Tryz.infoU64
 clear hn hcm
 go_enter Tryz.func155,Tryz.ntmps155
 go_wp2_with fail
 go_loopw [2,14] (fun c i wr=>∃ (k ad:Nat) (zs:List Nat),k<=n/\i = .int .i64 k/\c = .int .u64 ad/\ad<B/\Hid (zs.length=k)/\Dig B zs/\Blk wr g (Put cs 0 zs)/\w.grownBy wr (some g)/\Hid (val B zs+ad*B^k=val B (xs.take k)*by'+add))
  (fun _ i _=>n-(intOf i).toNat)
 case atStart=>exact ⟨0,add,[],Nat.zero_le _,rfl,rfl,had,rfl,Dig.nil _,hb,A9 _ _,by show _=_;simp [val]⟩
 case round=>
  obtain ⟨k,ad,zs,hk,rfl,rfl,hc,hzl,hzd,hbk,hg,hv⟩:=hrel
  by_cases hlt:k<n
  · obtain ⟨x,ex⟩:∃ x,xs[k]'(by rw [Hn.out];omega)=x:=⟨_,rfl⟩
    have hxB:x<B:=ex ▸ dx.get k _
    have cx:wr.cell? ⟨g,k,none⟩=some (.int .u64 (x:Int)):=by
     have:=hx k (by rw [Hn.out];omega)
     rw [Nat.zero_add,ex] at this
     rw [hbk.cell,J6 _ _ _ _ (by rw [hzl.out];omega),this]
    have fx:wr.frozen? ⟨g,k,none⟩=false:=hbk.frozen _
    have EX:=Lib.hid ex
    clear ex
    have ha1:∀ w,(callFunc 165 #[.int .u64 (C8 x by':Int),.int .u64 (ad:Int),.int .u64 0]).run Tryz.prog w = .ok (.value (.tuple #[.int .u64 (E7 (C8 x by') ad 0:Int),.int .u64 (G6 (C8 x by') ad 0:Int)])) w:=fun w=>tY _ _ 0 (Nat.zero_le _) w
    obtain ⟨b1,_⟩:=kY hxB hxB hby hc
    have b2:=b1
    have b1:R1 x by'+G6 (C8 x by') ad 0<18446744073709551616:=b1
    go_wp2_with (go_at_call 164;refine (bQ x by' hxB hby _).mono ?_;rintro e w' ⟨rfl,rfl⟩)
    clear ha1 cx fx
    go_roundw
    case rel=>
     refine ⟨k+1,R1 x by'+G6 (C8 x by') ad 0,zs++[E7 (C8 x by') ad 0],by omega,by go_num,by go_num,b2, ?_,hzd.snoc (eO _ _ _), ?_,B2 hg _ _, ?_⟩
     · show _=_;rw [List.length_append,hzl.out];rfl
     · rw [P3,hzl.out,Nat.zero_add];exact hbk.setCell _ _
     · show _=_
       rw [F8,hzl.out,scale_step k _ x by' ad _ hv.out,C0 B xs k (by rw [Hn.out];omega),EX.out,Nat.add_mul,Nat.mul_assoc];omega
    case measure=>simp [intOf];omega
  · obtain rfl:k=n:=by omega
    have hvv:Hid (val B zs+ad*B^k=val B xs*by'+add):=by
     show _=_;rw [hv.out,List.take_of_length_le (by rw [Hn.out];omega)]
    clear hv
    by_cases ha0:ad=0
    · subst ha0
      have hF:Hid (eR w base xs by' add (.returned (.slice (some ⟨g,0,none⟩) k cap)) wr):=by
       refine ⟨_,k,cap,zs,rfl,own_put hbk hzl.out hnc HCM.out hcs hg0,hzl.out,by rw [Hn.out];omega,hzd, ?_,N7 hg hg0 (by omega),fun e=>absurd e (by omega)⟩
       have:=hvv.out;omega
      clear hvv
      go_wp2_with fail
      go_ret
      exact hF.out
    · have f1:decide ((0:Int)<(ad:Int))=true:=decide_eq_true (by omega)
      have hown:=tD (own_put hbk hzl.out hnc HCM.out hcs hg0) (.cells #[.int .u64 (ad:Int)] 91)
      have hnews:∀ j u,([uv ad]:List Value)[j]?=some u->(wr.alloc (.cells #[.int .u64 (ad:Int)] 91)).cell? ((⟨wr.heap.size,0,none⟩:Addr).add j)=some u:=World.news_of_block (heap_alloc_new wr _)
      have HVV:=hvv
      have hbl:Below base w (wr.alloc (.cells #[.int .u64 (ad:Int)] 91)):=(N7 hg hg0 (by omega)).trans (I4 (World.grownBy_alloc _ _ _) (by have:=hg.size;omega))
      have hbs:base<=(wr.alloc (.cells #[.int .u64 (ad:Int)] 91)).heap.size:=by have:=hg.size;simp;omega
      go_wp2_with (at_builtin;refine wpList_append_lies _ rfl _ _ _ rfl base 91 i0 (.int .u64 0) 1 8 Tryz.underlying24 hi hz0 hz1 hz2 rfl (by omega) (.slice (some ⟨g,0,none⟩) k cap) k (zs.map uv) rfl hown ⟨wr.heap.size,0,none⟩ 1 1 [uv ad] rfl rfl hnews one_uv (by omega) (by unfold maxLen;omega) (by omega) hbs (wr.heap.size+1) (by simp) ?_;intro g2 cap2 w2 hown2 hgrow hat hlt2)
      go_ret
      refine ⟨_,k+1,cap2,zs++[ad],rfl, ?_, ?_,by rw [Hn.out];omega,hzd.snoc hc, ?_,hbl.trans (N7 (g:=g) hgrow hg0 hbs),fun e=>absurd e (by omega)⟩
      · rw [List.map_append];exact hown2
      · rw [List.length_append,hzl.out];rfl
      · rw [F8,hzl.out,Nat.mul_comm (B^k)];exact hvv.out
set_option maxHeartbeats 2000000 in
theorem scaled_nil (w:World) (base:Nat) (by' add:Nat) (hbs0:base<=w.heap.size) (had:add<B) :
 Calls Tryz.prog 155 #[.slice none 0 0,.int .u64 (by':Int),.int .u64 (add:Int)] w (eR w base [] by' add):=by
 obtain ⟨i0,hi,hz0,hz1,hz2⟩:=info_parts Tryz.infoU64
 have hnil:w.ownsRow base 91 1 (.slice none 0 0) 0 (([]:List Nat).map uv):=⟨rfl,Or.inl ⟨rfl,rfl⟩⟩
 by_cases ha0:add=0
 · subst ha0
   have hF:Hid (eR w base [] by' 0 (.returned (.slice none 0 0)) w):=⟨none,0,0,[],rfl,hnil,rfl,by simp,Dig.nil _,by simp [val],Below.refl _ _,fun _=>⟨rfl,rfl⟩⟩
   go_enter Tryz.func155,Tryz.ntmps155
   go_wp2_with fail
   go_loopw [2,14] (fun c i wr=>c = .int .u64 0/\i = .int .i64 0/\wr=w) (fun _ _ _=>0)
   case atStart=>exact ⟨rfl,rfl,rfl⟩
   case round=>
    obtain ⟨rfl,rfl,rfl⟩:=hrel
    go_wp2_with fail
    go_ret
    exact hF.out
 · have f1:decide ((0:Int)<(add:Int))=true:=decide_eq_true (by omega)
   have hown:=tD hnil (.cells #[.int .u64 (add:Int)] 91)
   have hnews:∀ j u,([uv add]:List Value)[j]?=some u->(w.alloc (.cells #[.int .u64 (add:Int)] 91)).cell? ((⟨w.heap.size,0,none⟩:Addr).add j)=some u:=World.news_of_block (heap_alloc_new w _)
   have hbl:Below base w (w.alloc (.cells #[.int .u64 (add:Int)] 91)):=I4 (World.grownBy_alloc _ _ _) hbs0
   have hbs:base<=(w.alloc (.cells #[.int .u64 (add:Int)] 91)).heap.size:=by simp;omega
   go_enter Tryz.func155,Tryz.ntmps155
   go_wp2_with fail
   go_loopw [2,14] (fun c i wr=>c = .int .u64 (add:Int)/\i = .int .i64 0/\wr=w) (fun _ _ _=>0)
   case atStart=>exact ⟨rfl,rfl,rfl⟩
   case round=>
    obtain ⟨rfl,rfl,rfl⟩:=hrel
    go_wp2_with (at_builtin;refine wpList_append_lies _ rfl _ _ _ rfl base 91 i0 (.int .u64 0) 1 8 Tryz.underlying24 hi hz0 hz1 hz2 rfl (by omega) (.slice none 0 0) 0 (([]:List Nat).map uv) rfl hown ⟨wr.heap.size,0,none⟩ 1 1 [uv add] rfl rfl hnews one_uv (by omega) (by unfold maxLen;omega) (by omega) hbs (wr.heap.size+1) (by simp) ?_;intro g2 cap2 w2 hown2 hgrow hat hlt2)
    go_ret
    refine ⟨_,1,cap2,[add],rfl,hown2,rfl,by simp,Dig.cons had (Dig.nil _),by simp [val],hbl.trans (I4 hgrow hbs),fun e=>absurd e (by omega)⟩
theorem scaled_any (w:World) (base:Nat) (s:Option Addr) (n cap:Nat) (xs:List Nat) (by' add:Nat) (hn:xs.length=n) (ho:w.ownsRow base 91 1 (.slice s n cap) n (xs.map uv)) (dx:Dig B xs) (bn:n<=1000000) (hby:by'<B) (had:add<B) (hbs:base<=w.heap.size) (hz:n=0->s=none/\cap=0) :
 Calls Tryz.prog 155 #[.slice s n cap,.int .u64 (by':Int),.int .u64 (add:Int)] w (eR w base xs by' add):=by
 rcases Nat.eq_zero_or_pos n with h0 | h0
 · subst h0
   obtain rfl:=List.length_eq_zero_iff.1 hn
   obtain ⟨rfl,rfl⟩:=hz rfl
   exact scaled_nil w base by' add hbs had
 · obtain ⟨g,cs,rfl,hg,hb,hc,hm,hs,hat⟩:=own_row ho h0
   exact scaled_some w base g n cap cs xs by' add hn h0 hg hb hat hc hm hs dx bn hby had
def bts (s:ByteArray):List Nat:=s.data.toList.map UInt8.toNat
theorem C7 (s:ByteArray):(bts s).length=s.size:=by simp [bts]
theorem Q7 (s:ByteArray) (k:Nat) (h:k<s.size):(bts s)[k]'(by rw [C7];exact h)=(s[k]'h).toNat:=by
 unfold bts
 rw [List.getElem_map]
 rfl
theorem bts_one (s:ByteArray):bts s=[48] ↔ s.toList=[48]:=by
 rw [ByteArray.toList_eq]
 unfold bts
 generalize s.data.toList=l
 constructor
 · intro h
   obtain ⟨x,rfl⟩:∃ x,l=[x]:=List.length_eq_one_iff.1 (by have:=congrArg List.length h;simpa using this)
   have:x.toNat=48:=by simpa using h
   have:x=48:=UInt8.toNat_inj.1 this
   rw [this]
 · intro h;rw [h];rfl
theorem nT (s:ByteArray):bts s=[] ↔ s.toList=[]:=by
 rw [ByteArray.toList_eq];unfold bts;simp
theorem Q0 (s:ByteArray) (h : 0<s.size):(bts s).head?=some (s[0]'h).toNat:=by
 have h2 : 0<(bts s).length:=by rw [C7];exact h
 rw [List.head?_eq_getElem?,List.getElem?_eq_getElem h2,Q7 s 0 h]
def S9 (l:List Nat):Prop:=(∀ k (h:k<l.length),48<=l[k]/\l[k]<=57)/\(l=[48]\/(l≠[]/\l.head?≠some 48))
def lP (w:World) (s:ByteArray) (e:Ending) (w':World):Prop:=∃ b:Bool,e = .returned (.bool b)/\(b=true ↔ S9 (bts s))/\w=w'
theorem dec_bad {w:World} {s:ByteArray} (k:Nat) (h:k<s.size) (hx:¬ (48<=(s[k]'h).toNat/\(s[k]'h).toNat<=57)):lP w s (.returned (.bool false)) w:=by
 refine ⟨false,rfl,⟨(fun e=>by cases e),fun hd=>?_⟩,rfl⟩
 have:=hd.1 k (by rw [C7];exact h)
 rw [Q7 s k h] at this
 exact absurd this hx
theorem dec_end {w:World} {s:ByteArray} (hd:∀ j (h:j<s.size),j<s.size->48<=(s[j]'h).toNat/\(s[j]'h).toNat<=57) (b:Bool) (hb:b=true ↔ (s.toList=[48]\/(s.toList≠[]/\(bts s).head?≠some 48))):lP w s (.returned (.bool b)) w:=by
 refine ⟨b,rfl, ?_,rfl⟩
 rw [hb, <- bts_one,ne_eq, <- nT]
 unfold S9
 constructor
 · intro h
   refine ⟨fun k hk=>?_,h⟩
   have hk':k<s.size:=by rw [C7] at hk;exact hk
   rw [Q7 s k hk'];exact hd k hk' hk'
 · exact fun h=>h.2
set_option maxHeartbeats 2000000 in
theorem mL (w:World) (s:ByteArray) (hs:s.size<=4096) :
 Calls Tryz.prog 154 #[.string s] w (lP w s):=by
 go_enter Tryz.func154,Tryz.ntmps154
 go_wp2_with fail
 go_loopw [6] (fun i wr=>∃ k:Nat,k<=s.size/\i = .int .i64 k/\w=wr/\Hid (∀ j (h:j<s.size),j<k->48<=(s[j]'h).toNat/\(s[j]'h).toNat<=57)) (fun i _=>s.size-(intOf i).toNat)
 case atStart=>exact ⟨0,Nat.zero_le _,rfl,rfl,fun j h h0=>absurd h0 (by omega)⟩
 case round=>
  obtain ⟨k,hk,rfl,rfl,hd⟩:=hrel
  by_cases hlt:k<s.size
  · obtain ⟨x,ex⟩:∃ x,(s[k]'hlt).toNat=x:=⟨_,rfl⟩
    by_cases hx : 48<=x/\x<=57
    · have f1:decide ((x:Int)<48)=false:=decide_eq_false (by omega)
      have f2:decide ((57:Int)<(x:Int))=false:=decide_eq_false (by omega)
      go_wp2_with fail
      go_roundw
      case rel=>
       refine ⟨k+1,by omega,by go_num,by trivial,fun j h hj=>?_⟩
       rcases Nat.lt_or_ge j k with h1 | h1
       · exact hd.out j h h1
       · obtain rfl:j=k:=by omega
         rw [ex];exact hx
      case measure=>simp [intOf];omega
    · have HF:Hid (lP w s (.returned (.bool false)) w):=dec_bad k hlt (by rw [ex];exact hx)
      go_wp2_with fail
      all_goals first | (go_ret;exact HF.out) | (exfalso;omega)
  · obtain rfl:k=s.size:=by omega
    have HE:=Lib.hid (dec_end (w:=w) hd.out)
    clear hd
    have hz:s.toList=[]\/0<s.size:=by
     rcases Nat.eq_zero_or_pos s.size with h | h
     · left
       rw [<- nT]
       exact List.length_eq_zero_iff.1 (by rw [C7];exact h)
     · exact Or.inr h
    rcases hz with hz | hz
    · go_wp2_with fail
      all_goals go_ret
      all_goals exact HE.out _ (by simp [*])
    · have hne:s.toList≠[]:=by
       intro h
       rw [<- nT] at h
       have:=C7 s
       rw [h] at this;simp at this;omega
      have hne2:s.toList.isEmpty=false:=by simpa using hne
      go_wp2_with fail
      all_goals go_ret
      all_goals refine HE.out _ ?_
      all_goals rw [Q0 s hz]
      all_goals simp [*]
      all_goals omega
def G7 (l:List Nat):Nat:=l.foldl (fun a d=>a*10+(d-48)) 0
theorem dfold (l:List Nat):∀ a,l.foldl (fun a d=>a*10+(d-48)) a=a*10^l.length+G7 l:=by
 induction l with
 | nil=>intro a;simp [G7]
 | cons d t ih=>
   intro a
   show t.foldl _ (a*10+(d-48))=_
   rw [ih]
   have:G7 (d :: t)=(0*10+(d-48))*10^t.length+G7 t:=ih _
   rw [this,List.length_cons,Nat.pow_succ]
   grind
theorem bA (l m:List Nat):G7 (l++m)=G7 l*10^m.length+G7 m:=by
 show (l++m).foldl _ 0=_
 rw [List.foldl_append];exact dfold m _
theorem tT (l:List Nat) (k x:Nat) (h:k<l.length) (e:l[k]=x):G7 (l.take (k+1))=G7 (l.take k)*10+(x-48):=by
 rw [List.take_succ_eq_append_getElem h,bA,e];simp [G7]
theorem eN (t:ByteArray) (m:Nat):bts (t.extract m t.size)=(bts t).drop m:=by
 apply List.ext_getElem?
 intro i
 rw [List.getElem?_drop]
 by_cases h:m+i<t.size
 · have h1:i<(t.extract m t.size).size:=by rw [ByteArray.size_extract];omega
   rw [List.getElem?_eq_getElem (by rw [C7];exact h1),List.getElem?_eq_getElem (by rw [C7];exact h),Q7 _ _ h1,Q7 _ _ h]
   rw [ByteArray.getElem_extract]
 · rw [List.getElem?_eq_none (by rw [C7,ByteArray.size_extract];omega),List.getElem?_eq_none (by rw [C7];omega)]
set_option maxHeartbeats 2000000 in
theorem rG (w:World) (s:ByteArray) (hs : 4096<s.size) :
 Calls Tryz.prog 121 #[.string s] w (bC w 0 2):=by
 have f1:decide ((4096:Int)<(s.size:Int))=true:=decide_eq_true (by omega)
 go_enter Tryz.func121,Tryz.ntmps121
 go_wp2_with fail
 exact bodyPost_ret (v := .tuple #[.agg #[.slice none 0 0],.int .i64 2]) (by simp [results,Tryz.results121,go_sem]) rfl ⟨_,rfl,NatV.zero _,by repeat (first | exact World.grownBy_alloc _ _ _ | refine A8 ?_ _ | refine B1 (g:=w.heap.size) ?_ (B2 (A9 _ _) _ _) (by omega))⟩
set_option maxHeartbeats 2000000 in
theorem iT (w:World) (s:ByteArray) (hs:s.size<=4096) (hd:¬ S9 (bts s)) :
 Calls Tryz.prog 121 #[.string s] w (bC w 0 3):=by
 have f1:decide ((4096:Int)<(s.size:Int))=false:=decide_eq_false (by omega)
 go_enter Tryz.func121,Tryz.ntmps121
 go_wp2_with fail
 refine (mL _ s hs).mono ?_
 rintro e w' ⟨b,rfl,hb,rfl⟩
 obtain rfl:b=false:=by
  cases b
  · rfl
  · exact absurd (hb.1 rfl) hd
 go_wp2_with fail
 exact bodyPost_ret (v := .tuple #[.agg #[.slice none 0 0],.int .i64 3]) (by simp [results,Tryz.results121,go_sem]) rfl ⟨_,rfl,NatV.zero _,by repeat (first | exact World.grownBy_alloc _ _ _ | refine A8 ?_ _ | refine B1 (g:=w.heap.size) ?_ (B2 (A9 _ _) _ _) (by omega))⟩
theorem own_rdo {w:World} {base:Nat} {s:Option Addr} {n cap:Nat} {xs:List Nat} (h:w.ownsRow base 91 1 (.slice s n cap) n (xs.map uv)):Rdo w s xs/\n<=cap:=by
 rcases Nat.eq_zero_or_pos n with h0 | h0
 · have h1:=h.1
   rw [List.length_map,h0] at h1
   exact ⟨Or.inl (List.length_eq_zero_iff.1 (by omega)),by omega⟩
 · obtain ⟨g,cs,rfl,hg,hb,hc,hm,hs,hat⟩:=own_row h h0
   exact ⟨Rdo.of hb hat,hc⟩
theorem digit_at {s t:ByteArray} {j k d:Nat} (hd:S9 (bts s)) (h:bts t=(bts s).drop j) (hk:k<t.size) (e:(t[k]'hk).toNat=d) : 48<=d/\d<=57:=by
 have h1:=Q7 t k hk
 rw [e] at h1
 have hl:k<(bts t).length:=by rw [C7];exact hk
 have hl2:j+k<(bts s).length:=by rw [h,List.length_drop] at hl;omega
 have h2:(bts t)[k]'hl=(bts s)[j+k]'hl2:=by
  have:(bts t)[k]?=(bts s)[j+k]?:=by rw [h,List.getElem?_drop]
  rw [List.getElem?_eq_getElem hl,List.getElem?_eq_getElem hl2] at this
  exact Option.some.inj this
 rw [<- h1,h2];exact hd.1 _ hl2
theorem dval_two {l:List Nat} {n j k:Nat} (hl:l.length=n) (h:j+k<=n):G7 (l.take (j+k))=G7 (l.take j)*10^k+G7 ((l.drop j).take k):=by
 rw [List.take_add,bA,List.length_take,List.length_drop,Nat.min_eq_left (by omega)]
set_option maxHeartbeats 8000000 in
theorem dC (w:World) (s:ByteArray) (hs:s.size<=4096) (hd:S9 (bts s)) :
 Calls Tryz.prog 121 #[.string s] w (bC w (G7 (bts s)) 0):=by
 have f1:decide ((4096:Int)<(s.size:Int))=false:=decide_eq_false (by omega)
 have hbox0:=A4 w (.cells #[.slice none 0 0] 26) w.heap.size rfl
 have hgw0:=World.grownBy_alloc w (.cells #[.slice none 0 0] 26) none
 have hsz0:(w.alloc (.cells #[.slice none 0 0] 26)).heap.size=w.heap.size+1:=by simp
 have HD:=Lib.hid hd
 have HB:=Lib.hid (C7 s)
 go_enter Tryz.func121,Tryz.ntmps121
 go_wp2_with fail
 refine (mL _ s hs).mono ?_
 rintro e w' ⟨b,rfl,hb,rfl⟩
 obtain rfl:b=true:=hb.2 HD.out
 clear hb hd
 go_wp2_with fail
 generalize (w.alloc (.cells #[.slice none 0 0] 26))=w0 at *
 go_loopg [0,4] s.size (fun gh a b wr=>∃ (t:ByteArray) (j:Nat) (so:Option Addr) (n cap:Nat) (xs:List Nat),a = .string t/\b = .slice so n cap/\Hid (bts t=(bts s).drop j)/\j+t.size=s.size/\t.size<=gh/\n<=j/\Hid (xs.length=n)/\Dig B xs/\Hid (val B xs=G7 ((bts s).take j))/\wr.ownsRow (w.heap.size+1) 91 1 (.slice so n cap) n (xs.map uv)/\(n=0->so=none/\cap=0)/\Below (w.heap.size+1) w0 wr)
 case atStart=>exact ⟨s,0,none,0,0,[],rfl,rfl,by show _=_;rw [List.drop_zero],by omega,Nat.le_refl _,Nat.le_refl _,rfl,Dig.nil _,rfl,⟨rfl,Or.inl ⟨rfl,rfl⟩⟩,fun _=>⟨rfl,rfl⟩,Below.refl _ _⟩
 case round=>
  obtain ⟨t,j,so,n,cap,xs,rfl,rfl,hbt,hjt,hgh,hnj,hxn,hxd,hxv,hown,hz,hbl⟩:=hrel
  by_cases h0:t.size=0
  · have f2:decide ((0:Int)<(t.size:Int))=false:=decide_eq_false (by omega)
    obtain ⟨hrd,hcap⟩:=own_rdo hown
    have hgw:=H8 hgw0 hbl (by omega)
    have hbox:=P1 hbl hbox0 (by omega)
    have HV:Hid (val B xs=G7 (bts s)):=by
     show _=_
     rw [hxv.out,List.take_of_length_le (by rw [HB.out];omega)]
    clear hown hbl hxv hbt
    go_wp2_with fail
    refine (S5 wr so n cap xs hxn.out hrd (by omega) hcap hxd).mono ?_
    rintro e w4 ⟨v,rfl,⟨sc,zs,rfl,hl4,hv4⟩,hg4⟩
    have hbox4:=A1 hg4 hbox
    obtain ⟨hc4,hf4⟩:=A7 hbox4
    have hF:=Lib.hid (pA (code:=0) (A2 hgw hg4) hbox4 (by decide) (Nat.le_refl _) hl4 (hv4.trans HV.out) (.slice sc zs.length zs.length))
    clear hv4 hbox4 hbox hg4 hgw hbox0 hgw0
    go_wp2_with fail
    exact bodyPost_ret (v := .tuple #[.agg #[.slice sc zs.length zs.length],.int .i64 0]) (by simp [results,Tryz.results121,go_sem,hc4]) rfl hF.out
  · have f2:decide ((0:Int)<(t.size:Int))=true:=decide_eq_true (by omega)
    obtain ⟨m,hm⟩:∃ m,min 9 t.size=m:=⟨_,rfl⟩
    have hm9:m<=9:=by omega
    have hmt:m<=t.size:=by omega
    have hm1 : 0<m:=by omega
    have hmi:min (9:Int) (t.size:Int)=(m:Int):=by omega
    have HBT:=Lib.hid (C7 t)
    clear hm
    go_wp2_with fail
    go_loopw [6,7,24] (fun sc v i wi=>∃ (k c x:Nat),k<=m/\i = .int .i64 k/\sc = .int .u64 c/\v = .int .u64 x/\Hid (c=10^k)/\c<=1000000000/\x<c/\Hid (x=G7 ((bts t).take k))/\wr=wi) (fun _ _ i _=>m-(intOf i).toNat)
    case atStart=>exact ⟨0,1,0,Nat.zero_le _,rfl,rfl,rfl,rfl,by omega,by omega,rfl,rfl⟩
    case round=>
     obtain ⟨k,c,x,hk,rfl,rfl,rfl,hc,hcb,hxc,hx,rfl⟩:=hrel
     by_cases hlt:k<m
     · obtain ⟨d,ed⟩:∃ d,(t[k]'(by omega)).toNat=d:=⟨_,rfl⟩
       have hds : 48<=d/\d<=57:=digit_at HD.out hbt.out (by omega) ed
       have hc10:c*10<=1000000000:=by
        have h1 : 10^(k+1)<=10^9:=Nat.pow_le_pow_right (by omega) (by omega)
        rw [hc.out, <- Nat.pow_succ];exact h1
       have hx2:Hid (x*10+(d-48)=G7 ((bts t).take (k+1))):=by
        show _=_
        rw [tT (bts t) k d (by rw [HBT.out];omega) (by rw [Q7 t k (by omega)];exact ed),hx.out]
       have hc2:Hid (c*10=10^(k+1)):=by show _=_;rw [hc.out,Nat.pow_succ]
       have g1:IntKind.u8.wrap ((d:Int)-48)=((d-48:Nat):Int):=by rw [IntKind.wrap_u8];omega
       obtain ⟨q,hq⟩:∃ q,d-48=q:=⟨_,rfl⟩
       rw [hq] at g1 hx2
       have hq9:q<=9:=by omega
       clear hq
       go_wp2_with fail
       go_roundw
       case rel=>exact ⟨k+1,c*10,x*10+q,by omega,by go_num,by go_num,by go_num,hc2,hc10,by omega,hx2,by trivial⟩
       case measure=>simp [intOf];omega
     · obtain rfl:k=m:=by omega
       go_wp2_with fail
       refine (scaled_any wr (w.heap.size+1) so n cap xs c x hxn.out hown hxd (by omega) (Nat.lt_of_le_of_lt hcb (by decide)) (Nat.lt_trans hxc (Nat.lt_of_le_of_lt hcb (by decide))) (by have:=hbl.size;omega) hz).mono ?_
       rintro e w2 ⟨s2,n2,cap2,zs,rfl,hown2,hl2,hn2,hd2,hv2,hbl2,hz2⟩
       have hx3:Hid (val B zs=G7 ((bts s).take (j+k))):=by
        show _=_
        rw [hv2,hxv.out,hc.out,hx.out,hbt.out, <- dval_two HB.out (by omega)]
       have HL2:=Lib.hid hl2
       have hn2':n2<=n+1:=by rw [hxn.out] at hn2;exact hn2
       have hbl3:=hbl.trans hbl2
       clear hv2 hl2 hn2 hown hbl hbl2 hxv hc hx
       have hbe:Hid (bts (t.extract k t.size)=(bts s).drop (j+k)):=by
        show _=_;rw [eN,hbt.out,List.drop_drop]
       have hse:(t.extract k t.size).size=t.size-k:=by rw [ByteArray.size_extract];omega
       go_wp2_with fail
       go_roundg (t.size-k)
       case measure=>omega
       case rel=>exact ⟨t.extract k t.size,j+k,s2,n2,cap2,zs,rfl,rfl,hbe,by omega,by omega,by omega,HL2,hd2,hx3,hown2,hz2,hbl3⟩
def bv (x:Nat):Value := .int .u8 (x:Int)
def BBlk (w:World) (b:Nat) (cs:Array Value):Prop:=w.heap[b]?=some (.cells cs 5 (0,0))
theorem BBlk.cell {w:World} {b:Nat} {cs:Array Value} (h:BBlk w b cs) (o:Nat):w.cell? ⟨b,o,none⟩=cs[o]?:=by
 unfold BBlk at h;simp [World.cell?,h]
theorem BBlk.frozen {w:World} {b:Nat} {cs:Array Value} (h:BBlk w b cs) (o:Nat):w.frozen? ⟨b,o,none⟩=false:=by
 unfold BBlk at h;simp [World.frozen?,h]
theorem BBlk.setCell {w:World} {b:Nat} {cs:Array Value} (h:BBlk w b cs) (o:Nat) (v:Value):BBlk (w.setCell ⟨b,o,none⟩ v) b (cs.setIfInBounds o v):=by
 unfold BBlk at *
 simp [World.setCell,Array.getElem?_modify,h]
def Reved (w:World) (g:Nat) (ds:List Nat) (cs:Array Value) (e:Ending) (w':World):Prop:=
 ∃ cs',e = .returned (.tuple #[])/\BBlk w' g cs'/\cs'.size=cs.size/\(∀ p (h:p<ds.length),cs'[p]?=some (bv (ds[ds.length-1-p]'(by omega))))/\w.grownBy w' (some g)
set_option maxHeartbeats 4000000 in
theorem Reverse_any (w:World) (g n cap:Nat) (cs:Array Value) (ds:List Nat) (hn:ds.length=n) (h0 : 0<n) (bn:n<=1099511627776) (hb:BBlk w g cs) (hat:∀ p (h:p<ds.length),cs[p]?=some (bv ds[p])) (hcap:n<=cap) :
 Calls Tryz.prog 113 #[.slice (some ⟨g,0,none⟩) n cap] w (Reved w g ds cs):=by
 have Hn:=Lib.hid hn
 go_enter Tryz.func113,Tryz.ntmps113
 go_wp2_with fail
 have hn1:(n:Int)-1=((n-1:Nat):Int):=by omega
 go_loopw [2,3] (fun i j wr=>∃ (k q:Nat) (cur:Array Value),k+q+1=n/\k<=q+1/\i = .int .i64 k/\j = .int .i64 q/\BBlk wr g cur/\cur.size=cs.size/\w.grownBy wr (some g)/\Hid (∀ p (h:p<ds.length),cur[p]?=some (bv (if p<k\/q<p then ds[ds.length-1-p]'(by omega) else ds[p])))) (fun i _ _=>n-(intOf i).toNat)
 case atStart=>exact ⟨0,n-1,cs,by omega,by omega,rfl,by rw [hn1],hb,rfl,A9 _ _,fun p h=>by rw [if_neg (by omega)];exact hat p h⟩
 case round=>
  obtain ⟨k,q,cur,hkq,hk,rfl,rfl,hbk,hsz,hg,hc⟩:=hrel
  by_cases hlt:k<q
  · have f1:decide ((k:Int)<(q:Int))=true:=decide_eq_true (by omega)
    obtain ⟨x,hx⟩:∃ x,ds[k]'(by omega)=x:=⟨_,rfl⟩
    obtain ⟨y,hy⟩:∃ y,ds[q]'(by omega)=y:=⟨_,rfl⟩
    have cx:wr.cell? ⟨g,k,none⟩=some (.int .u8 (x:Int)):=by
     rw [hbk.cell,hc.out k (by omega),if_neg (by omega),hx];rfl
    have cy:wr.cell? ⟨g,q,none⟩=some (.int .u8 (y:Int)):=by
     rw [hbk.cell,hc.out q (by omega),if_neg (by omega),hy];rfl
    have fx:wr.frozen? ⟨g,k,none⟩=false:=hbk.frozen _
    have fy:wr.frozen? ⟨g,q,none⟩=false:=hbk.frozen _
    have hnen:¬ q=k:=by omega
    have hnek:¬ k=q:=by omega
    have l1:k<n:=by omega
    have l2:q<n:=by omega
    go_wp2_with fail
    go_region
    have hq1:(q:Int)-1=((q-1:Nat):Int):=by omega
    have hkz:k<cur.size:=by
     have:=hbk.cell k
     rw [cx] at this
     exact (Array.getElem?_eq_some_iff.1 this.symm).1
    have hqz:q<cur.size:=by
     have:=hbk.cell q
     rw [cy] at this
     exact (Array.getElem?_eq_some_iff.1 this.symm).1
    have hrel2:Hid (∀ p (h:p<ds.length),((cur.setIfInBounds k (.int .u8 (y:Int))).setIfInBounds q (.int .u8 (x:Int)))[p]?=some (bv (if p<k+1\/q-1<p then ds[ds.length-1-p]'(by omega) else ds[p]))):=by
     intro p h
     by_cases hp:p=q
     · subst hp
       rw [Array.getElem?_setIfInBounds_self_of_lt (by simpa using hqz),if_pos (by omega)]
       have e:ds.length-1-p=k:=by omega
       simp only [e,hx];rfl
     · rw [Array.getElem?_setIfInBounds_ne (by omega)]
       by_cases hp2:p=k
       · subst hp2
         rw [Array.getElem?_setIfInBounds_self_of_lt hkz,if_pos (by omega)]
         have e:ds.length-1-p=q:=by omega
         simp only [e,hy];rfl
       · rw [Array.getElem?_setIfInBounds_ne (by omega),hc.out p h]
         by_cases hp3:p<k\/q<p
         · rw [if_pos hp3,if_pos (by omega)]
         · rw [if_neg hp3,if_neg (by omega)]
    have hb2:BBlk ((wr.setCell ⟨g,k,none⟩ (.int .u8 (y:Int))).setCell ⟨g,q,none⟩ (.int .u8 (x:Int))).drew g ((cur.setIfInBounds k (.int .u8 (y:Int))).setIfInBounds q (.int .u8 (x:Int))):=(hbk.setCell k _).setCell q _
    have hg2:w.grownBy ((wr.setCell ⟨g,k,none⟩ (.int .u8 (y:Int))).setCell ⟨g,q,none⟩ (.int .u8 (x:Int))).drew (some g):=C9 (B2 (B2 hg _ _) _ _)
    clear cx cy fx fy hc hbk hg
    go_wp2_with fail
    go_roundw
    case rel=>exact ⟨k+1,q-1,_,by omega,by omega,by go_num,(by first | rfl | rw [hq1]),hb2,by simp [hsz],hg2,hrel2⟩
    case measure=>simp [intOf];omega
  · have f1:decide ((k:Int)<(q:Int))=false:=decide_eq_false (by omega)
    have hF:Hid (Reved w g ds cs (.returned (.tuple #[])) wr):=by
     refine ⟨cur,rfl,hbk,hsz,fun p h=>?_,hg⟩
     rw [hc.out p h]
     by_cases hp:p<k\/q<p
     · rw [if_pos hp]
     · rw [if_neg hp]
       have:ds.length-1-p=p:=by omega
       simp only [this]
    go_wp2_with fail
    go_end0
    exact hF
theorem Tryz.infoU8:(Tryz.prog.info? 5).map (fun i=>(i.zero,i.size,i.bytes))=some (some (.int .u8 0),1,1):=by kernel_rfl
theorem info_parts8:∃ i,Tryz.prog.info? 5=some i/\i.zero=some (.int .u8 0)/\i.size=1/\i.bytes=1:=by
 have h:=Tryz.infoU8
 obtain ⟨i,hi,he⟩:=Option.map_eq_some_iff.1 h
 have e1:=congrArg Prod.fst he
 have e2:=congrArg (fun x=>x.2.1) he
 have e3:=congrArg (fun x=>x.2.2) he
 exact ⟨i,hi,e1,e2,e3⟩
def cv (d:Nat):Value := .int .u8 ((48+d:Nat):Int)
theorem one_cv {d:Nat} : ∀ u ∈ ([cv d]:List Value),u.oneCell'=true:=by intro u hu;simp at hu;subst hu;rfl
theorem mO {w:World} {g gd base n cap:Nat} {cs:Array Value} {xs:List Value} (hb:Blk w g cs) (ho:w.ownsRow base 5 1 (.slice (some ⟨gd,0,none⟩) n cap) n xs):some g≠some gd:=by
 intro e
 cases e
 obtain ⟨_,⟨e,_⟩ | ⟨g',cap',cur,e,hg,hk,_⟩⟩:=ho
 · cases e
 · cases e
   unfold Blk at hb
   rw [hb] at hk
   simp at hk
theorem own_alloc8 {w:World} {base:Nat} {v:Value} {n:Nat} {xs:List Value} (h:w.ownsRow base 5 1 v n xs) (o:Obj):(w.alloc o).ownsRow base 5 1 v n xs:=by
 obtain ⟨h1,h2 | ⟨g,cap',cur,e,hg,hb,hr⟩⟩:=h
 · exact ⟨h1,Or.inl h2⟩
 · exact ⟨h1,Or.inr ⟨g,cap',cur,e,hg,(Below.heap_alloc w o g (Array.getElem?_eq_some_iff.1 hb).1).trans hb,hr⟩⟩
theorem kU {w:World} {base gd n cap:Nat} {e:TypeId} {xs:List Value} (ho:w.ownsRow base e 1 (.slice (some ⟨gd,0,none⟩) n cap) n xs):base<=gd/\gd<w.heap.size:=by
 obtain ⟨_,⟨e,_⟩ | ⟨g',cap',cur,e,hg,hk,_⟩⟩:=ho
 · cases e
 · cases e;exact ⟨hg,(Array.getElem?_eq_some_iff.1 hk).1⟩
theorem own_kept8 {w w':World} {base gd n cap:Nat} {xs:List Value} {row:Option Nat} (ho:w.ownsRow base 5 1 (.slice (some ⟨gd,0,none⟩) n cap) n xs) (hg:w.grownBy w' row) (hr:some gd≠row):w'.ownsRow base 5 1 (.slice (some ⟨gd,0,none⟩) n cap) n xs:=by
 obtain ⟨h1,⟨e,_⟩ | ⟨g',cap',cur,e,hg',hk,hh⟩⟩:=ho
 · cases e
 · cases e
   exact ⟨h1,Or.inr ⟨gd,cap,cur,rfl,hg',(hg.block gd (Array.getElem?_eq_some_iff.1 hk).1 hr).trans hk,hh⟩⟩
theorem ten_step {v x p d q:Nat} (hd:x%10=d) (hq:x / 10=q):v+p*d+q*(p*10)=v+x*p:=by
 have:=Nat.div_add_mod x 10
 rw [hd,hq] at this
 rw [<- this]
 grind
theorem text_bound {v x K nd:Nat} (h:v+x*10^nd<B^K) (hx : 0<x):nd<20*K:=by
 have h1 : 10^nd<B^K:=by
  have : 1*10^nd<=x*10^nd:=Nat.mul_le_mul_right _ hx
  omega
 have h2:B^K<=(10^20)^K:=Nat.pow_le_pow_left (by decide) K
 rw [<- Nat.pow_mul] at h2
 rcases Nat.lt_or_ge nd (20*K) with h3 | h3
 · exact h3
 · have : 10^(20*K)<=10^nd:=Nat.pow_le_pow_right (by omega) h3
   omega
theorem text_round {v v' q r X nd V:Nat} (h:v+X*10^nd=V) (hq:X / 1000000000=q) (hr:X%1000000000=r) (hv:v'=v+r*10^nd):v'+q*10^(nd+9)=V:=by
 have:=Nat.div_add_mod X 1000000000
 rw [hq,hr] at this
 rw [<- h, <- this,hv,Nat.pow_add,show (10:Nat)^9=1000000000 from rfl]
 generalize 10^nd=p
 grind
def txt (ds:List Nat):ByteArray:=⟨(((ds.map (48 + ·)).reverse).map UInt8.ofNat).toArray⟩
theorem bts_txt {ds:List Nat} (hd:Dig 10 ds):bts (txt ds)=(ds.map (48 + ·)).reverse:=by
 unfold bts txt
 simp only [List.map_map]
 rw [<- List.map_reverse,List.map_map]
 apply List.map_congr_left
 intro d h
 have:=hd d (by simpa using h)
 show (UInt8.ofNat (48+d)).toNat=48+d
 simp
 omega
theorem dval_rev (ds:List Nat):G7 ((ds.map (48 + ·)).reverse)=val 10 ds:=by
 induction ds with
 | nil=>rfl
 | cons d t ih=>
   rw [List.map_cons,List.reverse_cons,bA,ih]
   simp [G7,val]
   omega
theorem text_end {ds:List Nat} {m V:Nat} (hl:ds.length=m+1) (hd:Dig 10 ds) (hv:val 10 ds=V) (hm:ds[m]'(by omega)≠0):S9 (bts (txt ds))/\G7 (bts (txt ds))=V:=by
 rw [bts_txt hd,dval_rev]
 refine ⟨⟨fun k hk=>?_,Or.inr ⟨by intro e;have:=congrArg List.length e;rw [List.length_reverse,List.length_map,hl] at this;simp at this, ?_⟩⟩,hv⟩
 · have h:=List.getElem_mem hk
   rw [List.mem_reverse,List.mem_map] at h
   obtain ⟨d,h1,h2⟩:=h
   have:=hd d h1
   omega
 · rw [List.head?_reverse,List.getLast?_eq_getElem?,List.length_map,hl,Nat.add_sub_cancel,List.getElem?_map,List.getElem?_eq_getElem (by omega)]
   simp only [Option.map_some,ne_eq,Option.some.injEq]
   omega
theorem txt_at {ds:List Nat} (hd:Dig 10 ds) (j:Nat) (hj:j<(((ds.map (48 + ·)).reverse).map UInt8.ofNat).length):bv ((ds.map (48 + ·))[(ds.map (48 + ·)).length-1-j]'(by simp at hj ⊢;omega)) = .int .u8 ((((ds.map (48 + ·)).reverse).map UInt8.ofNat)[j].toNat:Int):=by
 have hl:j<ds.length:=by simpa using hj
 have hlt : 48+ds[ds.length-1-j]'(by omega)<256:=by
  have:=hd.get (ds.length-1-j) (by omega)
  omega
 simp only [List.getElem_map,List.getElem_reverse,List.length_map]
 unfold bv
 congr 1
 simp only [UInt8.toNat_ofNat']
 omega
theorem own_cells8 {w:World} {base gd n cap:Nat} {ds:List Nat} (ho:w.ownsRow base 5 1 (.slice (some ⟨gd,0,none⟩) n cap) n (ds.map cv)) (hl:ds.length=n):∃ cur,BBlk w gd cur/\(∀ p (h:p<ds.length),cur[p]?=some (cv ds[p]))/\n<=cap:=by
 obtain ⟨_,⟨e,_⟩ | ⟨g',cap',cur,e,hg,hk,hc,hm,hs,ht⟩⟩:=ho
 · cases e
 · cases e
   refine ⟨cur,hk,fun p h=>?_,hc⟩
   have h3:(cur.toList.take (n*1))[p]?=(ds.map cv)[p]?:=by rw [ht]
   rw [Nat.mul_one,List.getElem?_take,if_pos (by omega),Array.getElem?_toList,List.getElem?_map,List.getElem?_eq_getElem h] at h3
   exact h3
theorem own_take8 {w:World} {base gd n m cap:Nat} {ds:List Nat} (ho:w.ownsRow base 5 1 (.slice (some ⟨gd,0,none⟩) n cap) n (ds.map cv)) (hm:m<=n):w.ownsRow base 5 1 (.slice (some ⟨gd,0,none⟩) m cap) m ((ds.take m).map cv):=by
 obtain ⟨h1,⟨e,_⟩ | ⟨g',cap',cur,e,hg,hk,hc,hmx,hs,ht⟩⟩:=ho
 · cases e
 · cases e
   rw [List.length_map] at h1
   refine ⟨by rw [List.length_map,List.length_take];omega,Or.inr ⟨gd,cap,cur,rfl,hg,hk,by omega,hmx,hs, ?_⟩⟩
   rw [List.map_take, <- ht,List.take_take]
   congr 1
   omega
def kF (w:World) (a:Nat) (e:Ending) (w':World):Prop:=∃ s:ByteArray,e = .returned (.string s)/\S9 (bts s)/\G7 (bts s)=a/\w.grownBy w' none
set_option maxHeartbeats 2000000 in
theorem Text_zero (w:World) (va:Value) (ha:NatV w va 0) :
 Calls Tryz.prog 57 #[va] w (kF w 0):=by
 obtain ⟨sa,xs,rfl,hx,h0⟩:=ha
 obtain rfl:=(R8 B D6 xs hx.top).1 h0
 clear h0
 have hF:Hid (kF w 0 (.returned (.string { data := #[48] })) (w.alloc (.cells #[.slice sa 0 0] 26))):=by
  refine ⟨_,rfl,⟨fun k hk=>?_,Or.inl rfl⟩,rfl,World.grownBy_alloc _ _ _⟩
  have:k=0:=by have:k<1:=hk;omega
  subst this
  exact ⟨Nat.le_refl 48,(by decide:(48:Nat)<=57)⟩
 simp only [List.length_nil]
 go_enter Tryz.func57,Tryz.ntmps57
 go_wp2_with fail
 go_ret
 exact hF.out
set_option maxHeartbeats 8000000 in
theorem Text_some (w:World) (va:Value) (a K:Nat) (ha:NatV w va a) (h0 : 0<a) (hK:K<=1000000) (la:a<B^K) :
 Calls Tryz.prog 57 #[va] w (kF w a):=by
 obtain ⟨sa,xs0,rfl,hx,rfl⟩:=ha
 have h1:=hx.len la
 have hxp:=hx.pos
 obtain ⟨n,hn⟩:∃ n,xs0.length=n:=⟨_,rfl⟩
 have hn0 : 0<n:=by rw [<- hn];exact Q8 hx h0
 rw [hn] at h1 ⊢
 obtain ⟨b1,o1,cs1,rfl,hb1,hat1⟩:=hx.rd.get 0 (by omega)
 obtain ⟨V,hV⟩:∃ V,val B xs0=V:=⟨_,rfl⟩
 rw [hV] at h0 la ⊢
 have H0:=Lib.hid h0
 have Hla:=Lib.hid la
 have HV:=Lib.hid hV
 have Hn:=Lib.hid hn
 have f0:((n:Int) == 0)=false:=beq_eq_false_iff_ne.2 (by omega)
 obtain ⟨i1,hi,hz0,hz1,hz2⟩:=info_parts8
 have hgw0:=World.grownBy_alloc w (.cells #[.slice (some ⟨b1,o1,none⟩) n n] 26) none
 clear h0 la hn hV hxp
 go_enter Tryz.func57,Tryz.ntmps57
 go_wp2_with fail
 refine (cI _ b1 o1 n n cs1 xs0 Hn.out (hb1.kept hgw0 (by simp)) hat1 hn0 (by omega)).mono ?_
 rintro e w2 ⟨g1,c1,cs2,rfl,hge,hb2,hat2,hcap,hg2⟩
 rw [Hn.out] at hcap ⊢
 have hgw2:=A2 hgw0 hg2
 have hge':w.heap.size+1<=g1:=by simpa using hge
 have hsz2:w.heap.size+1<=w2.heap.size:=by have:=hb2.lt;omega
 clear hg2 hgw0 hge hb1 hat1
 go_wp2_with (at_make;refine wpList_make_own _ rfl _ _ 140 rfl (w.heap.size+1) 5 i1 (.int .u8 0) 1 Tryz.underlying140 hi hz0 hz1 .i64 .i64 _ (20*n+9) rfl rfl (by omega) (by rw [hz2];omega) (by unfold maxLen;omega) hsz2 ?_;intro w3 hown3 hg3)
 have hb3:=hb2.kept hg3 (by simp)
 have hgw3:=A2 hgw2 hg3
 clear hb2 hgw2 hg3
 have hsz3:w.heap.size+1<=w3.heap.size:=by have:=hb3.lt;omega
 generalize w2.heap.size=gd0 at *
 go_loopg [3,4] V (fun gh a b wr=>∃ (sl:Option Addr) (nl cl:Nat) (xs:List Nat) (cs:Array Value) (gd nd cd:Nat) (ds:List Nat),a = .slice sl nl cl/\b = .slice (some ⟨gd,0,none⟩) nd cd/\Hid (xs.length=nl)/\nl<=cl/\(0<nl->sl=some ⟨g1,0,none⟩)/\Blk wr g1 cs/\At cs 0 xs/\Top xs/\Dig B xs/\nl<=n/\wr.ownsRow (w.heap.size+1) 5 1 (.slice (some ⟨gd,0,none⟩) nd cd) nd (ds.map cv)/\Hid (ds.length=nd)/\Dig 10 ds/\Hid (val 10 ds+val B xs*10^nd=V)/\nd<=20*K+9/\Below (w.heap.size+1) w3 wr/\Hid (val B xs<=gh))
 case atStart=>exact ⟨_,n,c1,xs0,cs2,gd0,0,20*n+9,[],rfl,rfl,Hn,hcap,fun _=>rfl,hb3,hat2,hx.top,hx.dig,Nat.le_refl _,hown3,rfl,Dig.nil _,by show _=_;rw [HV.out];simp [val],by omega,Below.refl _ _,by show _<=_;rw [HV.out];exact Nat.le_refl _⟩
 case round=>
  clear hb3 hat2 hown3 hcap
  obtain ⟨sl,nl,cl,xs,cs,gd,nd,cd,ds,rfl,rfl,hxl,hcl,hsl,hb,hat,htp,hdx,hnl,hown,hdl,hdd,hv,hnd,hbl,hgh⟩:=hrel
  by_cases h0:nl=0
  · subst h0
    obtain rfl:=List.length_eq_zero_iff.1 hxl.out
    have hvd:Hid (val 10 ds=V):=by
     show _=_
     have:=hv.out
     simpa [val] using this
    have hblw:=H8 hgw3 hbl (by omega)
    clear hb hat htp hdx hgh hbl hv hsl
    go_wp2_with fail
    go_loopg [4] nd (fun gh b wz=>∃ (nd2:Nat) (ds2:List Nat),b = .slice (some ⟨gd,0,none⟩) nd2 cd/\Hid (ds2.length=nd2)/\Dig 10 ds2/\wr.ownsRow (w.heap.size+1) 5 1 (.slice (some ⟨gd,0,none⟩) nd2 cd) nd2 (ds2.map cv)/\Hid (val 10 ds2=V)/\nd2<=gh/\nd2<=20*K+9/\wr=wz)
    case atStart=>exact ⟨nd,ds,rfl,hdl,hdd,hown,hvd,Nat.le_refl _,hnd,rfl⟩
    case round=>
     clear hdl hdd hown hvd hnd
     obtain ⟨nd2,ds2,rfl,hdl,hdd,hown,hvd,hgh,hnd,rfl⟩:=hrel
     obtain ⟨cur,hbk,hcur,hncap⟩:=own_cells8 hown hdl.out
     have hlo:=kU hown
     have hpos : 0<nd2:=by
      rcases Nat.eq_zero_or_pos nd2 with e | e
      · have h2:=hdl.out
        rw [e] at h2
        have h3:=hvd.out
        rw [List.length_eq_zero_iff.1 h2] at h3
        have:=H0.out
        simp [val] at h3;omega
      · exact e
     obtain ⟨m,rfl⟩:∃ m,nd2=m+1:=⟨nd2-1,by omega⟩
     obtain ⟨d,ed⟩:∃ d,ds2[m]'(by rw [hdl.out];omega)=d:=⟨_,rfl⟩
     have hd10:d<10:=ed ▸ hdd.get m _
     obtain ⟨x,hx⟩:∃ x,48+d=x:=⟨_,rfl⟩
     have cx:wr.cell? ⟨gd,m,none⟩=some (.int .u8 (x:Int)):=by
      rw [hbk.cell,hcur m (by rw [hdl.out];omega),ed]
      show some (Value.int IntKind.u8 ((48+d:Nat):Int))=_
      rw [hx]
     by_cases hz:d=0
     · have f2:((x:Int) == 48)=true:=by rw [<- hx,hz];rfl
       have hval:Hid (val 10 (ds2.take m)=V):=by
        show _=_
        have:=C0 10 ds2 m (by rw [hdl.out];omega)
        rw [ed,hz,List.take_of_length_le (by rw [hdl.out];omega),hvd.out] at this
        omega
       have hown2:=own_take8 hown (show m<=m+1 by omega)
       have hl2:Hid ((ds2.take m).length=m):=by show _=_;rw [List.length_take,hdl.out];omega
       clear hx hcur hbk
       go_wp2_with fail
       go_roundg m
       case measure=>omega
       case rel=>exact ⟨m,ds2.take m,rfl,hl2,hdd.take m,hown2,hval,Nat.le_refl _,by omega,rfl⟩
     · have f2:((x:Int) == 48)=false:=beq_eq_false_iff_ne.2 (by omega)
       have hend:=Lib.hid (text_end hdl.out hdd hvd.out (by rw [ed];exact hz))
       have hbs:(ds2.map (48 + ·)).length=m+1:=by rw [List.length_map];exact hdl.out
       have hbat:∀ p (h:p<(ds2.map (48 + ·)).length),cur[p]?=some (bv ((ds2.map (48 + ·))[p])):=by
        intro p h
        rw [List.getElem_map]
        exact hcur p (by simpa using h)
       have HBS:=Lib.hid hbs
       clear hx hcur hbs
       go_wp2_with fail
       refine (Reverse_any wr gd (m+1) cd cur (ds2.map (48 + ·)) HBS.out (by omega) (by omega) hbk hbat hncap).mono ?_
       rintro e w6 ⟨cs6,rfl,hb6,_,hc6,hg6⟩
       have hconv:(convert 140 9 (.slice (some ⟨gd,0,none⟩) (m+1) cd)).run Tryz.prog w6 = .ok (.string (txt ds2)) w6:=by
        have:=run_convert_bytes_back (P:=Tryz.prog) w6 140 9 5 ⟨gd,0,none⟩ cd (((ds2.map (48 + ·)).reverse).map UInt8.ofNat) Tryz.underlying140 Tryz.underlying5 Tryz.underlying9 ?_
        · rw [List.length_map,List.length_reverse,HBS.out] at this
          exact this
        · intro j hj
          have hadd:(⟨gd,0,none⟩:Addr).add j=⟨gd,j,none⟩:=by unfold Addr.add;split<;>simp_all
          have hj2:j<(ds2.map (48 + ·)).length:=by simpa using hj
          rw [hadd,hb6.cell,hc6 j hj2]
          exact congrArg some (txt_at hdd j hj)
       have hF:Hid (kF w V (.returned (.string (txt ds2))) w6):=⟨_,rfl,hend.out.1,hend.out.2,B1 hblw hg6 (by omega)⟩
       clear hb6 hc6 hg6 hbk hbat hend cx
       go_wp2_with fail
       go_ret
       exact hF.out
  · obtain rfl:=hsl (by omega)
    have f1:decide ((0:Int)<(nl:Int))=true:=decide_eq_true (by omega)
    have hxp : 0<val B xs:=by
     rcases Nat.eq_zero_or_pos (val B xs) with e | e
     · have:=(R8 B D6 xs htp).1 e
       have h2:=hxl.out
       rw [this] at h2;simp at h2;omega
     · exact e
    have HXP:=Lib.hid hxp
    have hnd20:nd<20*K:=text_bound (v:=val 10 ds) (by rw [hv.out];exact Hla.out) hxp
    clear hsl hxp
    go_wp2_with fail
    refine (eJ wr g1 0 nl cl xs cs 1000000000 hxl.out hb hat (by omega) hdx (by decide) (by omega)).mono ?_
    rintro e w4 ⟨zs,cs4,rfl,hb4,hw4,hg4,hl4,hd4,hv4⟩
    have hown4:=own_kept8 hown hg4 (Ne.symm (mO hb hown))
    have hbl4:=hbl.trans (N7 hg4 hge' (by have:=hbl.size;omega))
    have hl4':Hid (zs.length=nl):=hl4.trans hxl.out
    have HV4:=Lib.hid hv4
    obtain ⟨r,hr⟩:∃ r,val B xs%1000000000=r:=⟨_,rfl⟩
    have hr9:r<10^9:=by rw [<- hr];exact Nat.mod_lt _ (by decide)
    have HR:=Lib.hid hr
    have HR9:=Lib.hid hr9
    rw [hr]
    clear hg4 hl4 hv4 hown hbl hb hat hr hr9
    go_wp2_with fail
    refine (eL w4 (some ⟨g1,0,none⟩) nl cl zs hl4'.out (Rdo.of hb4 hw4.lies) (by omega) hcl).mono ?_
    rintro e w5 ⟨k,hk,rfl,ht5,hv5,rfl⟩
    have hkn:k<=nl:=by rw [hl4'.out] at hk;exact hk
    have hlk:Hid ((zs.take k).length=k):=by show _=_;rw [List.length_take];omega
    have hat5:=hw4.lies.take k
    have hd5:=hd4.take k
    have HV5:Hid (val B (zs.take k)=val B xs / 1000000000):=hv5.trans HV4.out
    clear hv5 hk hw4 hd4
    go_wp2_with fail
    go_loopw [4,5,25] (fun b v i wi=>∃ (j x gd' nd' cd':Nat) (ds':List Nat),j<=9/\i = .int .i64 j/\v = .int .u64 x/\b = .slice (some ⟨gd',0,none⟩) nd' cd'/\nd'=nd+j/\Hid (ds'.length=nd')/\Dig 10 ds'/\wi.ownsRow (w.heap.size+1) 5 1 (.slice (some ⟨gd',0,none⟩) nd' cd') nd' (ds'.map cv)/\Hid (val 10 ds'+x*10^nd'=val 10 ds+r*10^nd)/\Hid (x<10^(9-j))/\x<1000000000/\Blk wi g1 cs4/\Below (w.heap.size+1) w4 wi) (fun _ _ i _=>9-(intOf i).toNat)
    case atStart=>exact ⟨0,r,gd,nd,cd,ds,by omega,rfl,rfl,rfl,rfl,hdl,hdd,hown4,rfl,HR9.out,HR9.out,hb4,Below.refl _ _⟩
    case round=>
     clear hown4 hb4
     obtain ⟨j,x,gd',nd',cd',ds',hj,rfl,rfl,rfl,hndj,hdl',hdd',hown',hv',hx9,hxs,hb',hbl'⟩:=hrel
     by_cases hlt:j<9
     · obtain ⟨d,hd⟩:∃ d,x%10=d:=⟨_,rfl⟩
       obtain ⟨q,hq⟩:∃ q,x / 10=q:=⟨_,rfl⟩
       have hd10:d<10:=by omega
       have e1:(x:Int)%10=(d:Int):=by omega
       have e2:(x:Int) / 10=(q:Int):=by omega
       have e3:IntKind.u8.wrap (48+(d:Int))=((48+d:Nat):Int):=by rw [IntKind.wrap_u8];omega
       have hq9:Hid (q<10^(9-(j+1))):=by
        show _<_
        have:=hx9.out
        rw [show 9-j=(9-(j+1))+1 from by omega,Nat.pow_succ] at this
        omega
       have hvn:Hid (val 10 (ds'++[d])+q*10^(nd'+1)=val 10 ds+r*10^nd):=by
        show _=_
        rw [F8,hdl'.out,Nat.pow_succ,ten_step hd hq];exact hv'.out
       have hownA:=own_alloc8 hown' (.cells #[cv d] 5)
       have hnews:∀ j u,([cv d]:List Value)[j]?=some u->(wr.alloc (.cells #[cv d] 5)).cell? ((⟨wr.heap.size,0,none⟩:Addr).add j)=some u:=World.news_of_block (heap_alloc_new wr _)
       have hsi:w.heap.size+1<=(wr.alloc (.cells #[cv d] 5)).heap.size:=by have:=(kU hown').1;have:=(kU hown').2;simp;omega
       have hblA:Below (w.heap.size+1) w4 (wr.alloc (.cells #[cv d] 5)):=hbl'.trans (I4 (World.grownBy_alloc _ _ _) (by have:=(kU hown').1;have:=(kU hown').2;omega))
       have hbA:=hb'.alloc (.cells #[cv d] 5)
       have hapA:=mO hbA hownA
       have hlo:=(kU hown').1
       clear hd hq
       go_wp2_with (at_builtin;refine wpList_append_lies _ rfl _ _ _ rfl (w.heap.size+1) 5 i1 (.int .u8 0) 1 1 Tryz.underlying140 hi hz0 hz1 hz2 rfl (by omega) (.slice (some ⟨gd',0,none⟩) nd' cd') nd' (ds'.map cv) rfl hownA ⟨wr.heap.size,0,none⟩ 1 1 [cv d] rfl rfl hnews one_cv (by omega) (by unfold maxLen;omega) (by omega) hsi (wr.heap.size+1) (by simp) ?_;intro g2 cap2 w5 hown5 hgrow hat9 hlt9)
       have hb5:=hbA.kept hgrow hapA
       have hbl5:=hblA.trans (N7 (g:=gd') hgrow hlo hsi)
       have hmap:ds'.map cv++[cv d]=(ds'++[d]).map cv:=by rw [List.map_append];rfl
       rw [hmap] at hown5
       have hl5:Hid ((ds'++[d]).length=nd'+1):=by show _=_;rw [List.length_append,hdl'.out];rfl
       clear hgrow hownA hnews hblA hbA hapA hmap hown' hb' hbl'
       go_roundw
       case rel=>exact ⟨j+1,q,g2,nd'+1,cap2,ds'++[d],by omega,by go_num,by go_num,(by rw [hndj]),by omega,hl5,hdd'.snoc hd10,hown5,hvn,hq9,by omega,hb5,hbl5⟩
       case measure=>simp [intOf];omega
     · obtain rfl:j=9:=by omega
       have hx0:x=0:=by have:=hx9.out;omega
       have hvn:Hid (val 10 ds'+val B (zs.take k)*10^nd'=V):=by
        show _=_
        rw [hndj]
        refine text_round hv.out HV5.out.symm HR.out ?_
        have:=hv'.out
        rw [hx0] at this;omega
       have hlt':Hid (val B (zs.take k)<gk):=by
        show _<_
        rw [HV5.out]
        exact Nat.lt_of_lt_of_le (Nat.div_lt_self HXP.out (by decide)) hgh.out
       have hblF:=hbl4.trans hbl'
       clear hx9 hv' hv hbl4 hbl'
       go_wp2_with fail
       go_roundg (val B (zs.take k))
       case measure=>exact hlt'.out
       case rel=>exact ⟨_,k,k,zs.take k,cs4,gd',nd',cd',ds',rfl,rfl,hlk,Nat.le_refl _,fun e=>eS e,hb',hat5,ht5,hd5,by omega,hown',hdl',hdd',hvn,by omega,hblF,Nat.le_refl _⟩
end Go.Proofs.YtdgdmicbbfoghaaGreatDoor
