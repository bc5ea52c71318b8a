/- What the laws lean on, part 3. -/
import Derived.BigQuiet
import Derived.Deep.CutRange
import Derived.Deep.LoopGhost
import Derived.Deep.QuietTactic
import Derived.Deep.RegionHeld3
import Derived.Laws.CopyOwn
import Derived.Laws.Externs
import Derived.Lib.BitFns
import Derived.Lib.Hide
import Derived.Lib.Slices
import Derived.Lib.Small
import Derived.Lib.Strings
import Derived.Lib.Walk
import Derived.Outline
import Derived.Shelf.Bits.Mul64
import Derived.StillTailTactics
import Derived.WalkKit
import Derived.WalkLawsBesides
import Derived.WalkSpells
import Derived.Test.YtdgdmicbbfoghaaGreatDoorProg
import Derived.Test.YtdgdmicbbfoghaaGreatDoorMg2
set_option linter.unusedVariables false
set_option linter.unusedSimpArgs false
set_option maxRecDepth 100000
namespace Go.Proofs.YtdgdmicbbfoghaaGreatDoor
open Go.RowKit Mat
theorem cT {w:World} {g n:Nat} (h:w.ownsRow g 91 1 (.slice (some ⟨g,0,none⟩) n n) n (madeCells #[.int .u64 0] (n*1)).toList) :
 ∃ cs,Blk w g cs/\cs.size=n/\At cs 0 (List.replicate n 0):=by
 obtain ⟨_,⟨h,_⟩ | ⟨g',cap,cur,hv,hg,hh,hle,hm,hs,ht⟩⟩:=h
 · cases h
 · simp only [Value.slice.injEq,Option.some.injEq,Addr.mk.injEq] at hv
   obtain ⟨⟨rfl,_⟩,_,rfl⟩:=hv
   refine ⟨cur,hh,by simpa using hs, ?_⟩
   intro i hi
   rw [List.length_replicate] at hi
   have e1:(cur.toList.take (n*1))[i]?=some (.int .u64 0):=by
    rw [ht,Array.getElem?_toList]
    simp [madeCells,hi]
    rw [Nat.mod_one];rfl
   rw [List.getElem?_take_of_lt (by omega)] at e1
   simpa using e1
theorem at_splice {cs:Array Value} {xs:List Nat} {m:Nat} (h:At cs 0 (List.replicate m 0)) (hm:cs.size=m) (hl:xs.length<=m) :
 At (splice cs.toList 0 (xs.map fun x:Nat=>Value.int .u64 (x:Int))).toArray 0 (xs++List.replicate (m-xs.length) 0):=by
 intro i hi
 simp only [List.length_append,List.length_replicate] at hi
 simp only [splice,List.take_zero,List.nil_append,Nat.zero_add,List.length_map]
 rw [List.getElem?_toArray]
 by_cases h2:i<xs.length
 · rw [List.getElem?_append_left (by simpa using h2),List.getElem_append_left h2];simp [h2]
 · rw [List.getElem?_append_right (by simpa using h2),List.getElem_append_right (by omega)]
   have:=h i (by simp;omega)
   simp only [Nat.zero_add,List.getElem_replicate] at this
   simp only [List.length_map,List.getElem?_drop,List.getElem_replicate]
   rw [show xs.length+(i-xs.length)=i from by omega]
   simpa using this
theorem Lm.len {w:World} {sa:Option Addr} {xs:List Nat} (h:Lm w sa xs) {K:Nat} (hK:val B xs<B^K):xs.length<=K:=by
 rcases Nat.lt_or_ge K xs.length with h1 | h1
 · have h2:=kM B xs (by rintro rfl;simp at h1) h.top
   have h3:B^K<=B^(xs.length-1):=Nat.pow_le_pow_right D6 (by omega)
   omega
 · exact h1
theorem hat_limbs {w:World} {b off:Nat} {cs:Array Value} {xs:List Nat} (hb:Blk w b cs) (hx:At cs off xs) :
 ∀ j u,(xs.map fun x:Nat=>Value.int .u64 (x:Int))[j]?=some u->w.cell? ((⟨b,off,none⟩:Addr).add j)=some u:=by
 intro j u hj
 rw [List.getElem?_map] at hj
 cases e:xs[j]? with
 | none=>rw [e] at hj;cases hj
 | some x=>
   rw [e] at hj
   obtain ⟨hlt,ex⟩:=List.getElem?_eq_some_iff.1 e
   have:=hb.at hx j hlt
   have e2:(⟨b,off,none⟩:Addr).add j=⟨b,off+j,none⟩:=by unfold Addr.add;split<;>simp_all
   rw [e2,this,ex];exact hj
theorem one_limbs (xs:List Nat):∀ v ∈ (xs.map fun x:Nat=>Value.int .u64 (x:Int)),v.oneCell'=true:=by
 intro u hu;simp at hu;obtain ⟨a,_,rfl⟩:=hu;rfl
theorem addTo_at (w:World) (b off n cap:Nat) (xs:List Nat) (cs:Array Value) (sa:Option Addr) (m cap2:Nat) (ys:List Nat) (hn:xs.length=n) (hmm:ys.length=m)
 (hb:Blk w b cs) (hx:At cs off xs) (hs:Rd w sa ys b) (hl:m<=n) (hm:n<=1099511627776) (dx:Dig B xs) (dy:Dig B ys) :
 Calls Tryz.prog 148 #[.slice (some ⟨b,off,none⟩) n cap,.slice sa m cap2] w (wI w b off xs ys cs):=by
 subst hn;subst hmm;exact addTo_any w b off cap xs cs sa cap2 ys hb hx hs hl hm dx dy
theorem aO (w:World) (b off n cap:Nat) (xs:List Nat) (cs:Array Value) (sa:Option Addr) (m cap2:Nat) (ys:List Nat) (hn:xs.length=n) (hmm:ys.length=m)
 (hb:Blk w b cs) (hx:At cs off xs) (hs:Rd w sa ys b) (hl:m<=n) (hm:n<=1099511627776) (dx:Dig B xs) (dy:Dig B ys) (hle:val B ys<=val B xs) :
 Calls Tryz.prog 95 #[.slice (some ⟨b,off,none⟩) n cap,.slice sa m cap2] w (rA w b off xs ys cs):=by
 subst hn;subst hmm;exact uK w b off cap xs cs sa cap2 ys hb hx hs hl hm dx dy hle
theorem S5 (w:World) (sa:Option Addr) (n cap:Nat) (xs:List Nat) (hl:xs.length=n) (hx:Rdo w sa xs) (hn:n<=1099511627776) (hcap:n<=cap) (dx:Dig B xs) :
 Calls Tryz.prog 97 #[.slice sa n cap] w (RetNat w (val B xs)):=by
 subst hl;exact own_any w sa cap xs hx hn hcap dx
theorem pI (w:World) (sa:Option Addr) (n cap:Nat) (xs:List Nat) (hl:xs.length=n) (hx:Rdo w sa xs) (hn:n<=1099511627776) (hcap:n<=cap) (dx:Dig B xs) :
 Calls Tryz.prog 97 #[.slice sa n cap] w (RetOwn w sa (val B xs)):=by
 subst hl;exact own_own w sa cap xs hx hn hcap dx
theorem ret_setF {w w':World} {sa:Option Addr} {xs:List Nat} {n g:Nat} {c:Array Value} {t:TypeId} (hg:w.grownBy w' none) (hbox:w'.heap[g]?=some (.cells c t (0,0))) (ht:t≠91) (hl:w.heap.size<=g) (h:Lm w' sa xs) (hv:val B xs=n) (hf:∀ ad,sa=some ad->w.heap.size<=ad.block) (u:Value) :
 RetFresh w n (.returned (.agg #[.slice sa xs.length xs.length])) (w'.setCell ⟨g,0,none⟩ u):=
 ⟨sa,xs,rfl,h.set_other hbox ht 0 u,hv,hf,B1 hg (B2 (A9 _ _) _ _) hl⟩
theorem fresh_of {s:Option Addr} {g n:Nat} (h:s=none\/s=some ⟨g,0,none⟩) (hg:n<=g):∀ ad,s=some ad->n<=ad.block:=by
 intro ad e
 rcases h with h | h
 · rw [h] at e;cases e
 · rw [h] at e;cases e;exact hg
theorem eL (w:World) (sa:Option Addr) (n cap:Nat) (xs:List Nat) (hl:xs.length=n) (hx:Rdo w sa xs) (hn:n<=1099511627776) (hcap:n<=cap) :
 Calls Tryz.prog 112 #[.slice sa n cap] w (CutTo w sa xs):=by
 subst hl;exact cut_any w sa cap xs hx hn hcap
theorem cI (w:World) (b off n cap:Nat) (cs:Array Value) (xs:List Nat) (hl:xs.length=n) (hb:Blk w b cs) (hx:At cs off xs) (h0 : 0<n) (hn:n<=1099511627776) :
 Calls Tryz.prog 94 #[.slice (some ⟨b,off,none⟩) n cap] w (Cloned w xs):=by
 subst hl;exact uF w b off cap cs xs hb hx h0 hn
theorem Blk.raw {w:World} {b:Nat} {cs:Array Value} (h:Blk w b cs):w.heap[b]?=some (.cells cs.toList.toArray 91 (0,0)):=h
theorem copy_pos {w:World} {ls:Option Addr} {lx:List Nat} (h:Rdo w ls lx) (g:Nat) : 0<(lx.map fun x:Nat=>Value.int .u64 (x:Int)).length ->
 some (⟨g,0,none⟩:Addr)=some ⟨g,0,none⟩ /\ ∃ ad,ls=some ad /\ ∀ j v,(lx.map fun x:Nat=>Value.int .u64 (x:Int))[j]?=some v->w.cell? (ad.add j)=some v:=by
 intro h0
 obtain ⟨b,off,cs,rfl,h1,h2⟩:=h.get 0 (by simpa using h0)
 exact ⟨rfl,_,rfl,hat_limbs h1 h2⟩
theorem copy_len {lx:List Nat} {n m:Nat} (hn:lx.length=n) (h:n<=m):(lx.map fun x:Nat=>Value.int .u64 (x:Int)).length=Nat.min n m:=by
 rw [List.length_map,hn];exact (Nat.min_eq_left h).symm
theorem copy_fit {lx:List Nat} {n m:Nat} {cs:Array Value} (hn:lx.length=n) (hs:cs.size=m) (h:n<=m) : 0+(lx.map fun x:Nat=>Value.int .u64 (x:Int)).length<=cs.toList.length:=by
 rw [List.length_map,hn,Array.length_toList,hs];omega
theorem H8 {w w1 w2:World} {g:Nat} (h:w.grownBy w1 none) (k:Below g w1 w2) (hg:w.heap.size<=g):w.grownBy w2 none:=
 ⟨k.os.trans h.os,k.tape.trans h.tape,k.output.trans h.output,Nat.le_trans h.size k.size,fun i hi hr=>(k.block i (by omega)).trans (h.block i hi hr)⟩
theorem P1 {w w':World} {g b:Nat} {o:Obj} (k:Below g w w') (h:w.heap[b]?=some o) (hb:b<g):w'.heap[b]?=some o:=(k.block b hb).trans h
theorem P7 {w w':World} {g b:Nat} {o:Obj} (k:w.grownBy w' (some g)) (h:w.heap[b]?=some o) (hb:b≠g):w'.heap[b]?=some o:=(k.block b (Array.getElem?_eq_some_iff.1 h).1 (by simpa using hb)).trans h
theorem A7 {w:World} {g:Nat} {v:Value} {t:TypeId} (h:w.heap[g]?=some (.cells #[v] t (0,0))):w.cell? ⟨g,0,none⟩=some v/\w.frozen? ⟨g,0,none⟩=false:=by
 constructor<;>simp [World.cell?,World.frozen?,h]
theorem val_pad (xs:List Nat):val B (xs++[0])=val B xs:=by rw [F8];simp
theorem carry_out {xs ys zs:List Nat} {c n:Nat} (dx:Dig B xs) (dy:Dig B ys) (hx:xs.length<=n) (hy:ys.length<=n) (h:val B zs+c*B^(n+1)=val B (xs++[0])+val B ys):val B zs=val B xs+val B ys:=by
 have h1:=S1 B xs dx
 have h2:=S1 B ys dy
 have h3:B^xs.length<=B^n:=Nat.pow_le_pow_right D6 hx
 have h4:B^ys.length<=B^n:=Nat.pow_le_pow_right D6 hy
 have h5:B^(n+1)=B^n*B:=Nat.pow_succ ..
 have h6:B^n*2<=B^n*B:=Nat.mul_le_mul_left _ (by unfold B;omega)
 rw [val_pad] at h
 rcases Nat.eq_zero_or_pos c with rfl | hc
 · simpa using h
 · have : 1*B^(n+1)<=c*B^(n+1):=Nat.mul_le_mul_right _ hc
   omega
theorem sizeU64:(Tryz.prog.info? 91).map (·.size)=some 1:=by kernel_rfl
set_option maxHeartbeats 2000000 in
theorem Add_core (w:World) (ls ss:Option Addr) (lx sx:List Nat) (va vb:Value) (hl:Lm w ls lx) (hs:Lm w ss sx) (n m:Nat) (hn:lx.length=n) (hm:sx.length=m) (hmn:m<=n) (hb:n<=1073741824)
 (hor:(va = .agg #[.slice ls n n]/\vb = .agg #[.slice ss m m] /\ ¬ n<m)\/(va = .agg #[.slice ss m m]/\vb = .agg #[.slice ls n n]/\m<n)) :
 Calls Tryz.prog 105 #[va,vb] w (RetFresh w (val B lx+val B sx)):=by
 have Hn:=Lib.hid hn
 have Hm:=Lib.hid hm
 clear hn hm
 obtain ⟨i0,hi,hz0,hz1,hz2⟩:=info_parts Tryz.infoU64
 rcases hor with ⟨rfl,rfl,ho⟩ | ⟨rfl,rfl,ho⟩
 all_goals
  go_enter Tryz.func105,Tryz.ntmps105
  go_wp2_with fail
  go_quiet (fail)
  go_wp2_with (first | (at_make;refine wpList_make_full _ rfl _ _ 24 rfl _ 91 i0 (.int .u64 0) 1 Tryz.underlying24 hi hz0 hz1 .i64 .i64 _ _ (n+1) rfl rfl (by omega) (by omega) (by rw [hz2];omega) (by unfold maxLen;omega) (Nat.le_refl _) ?_;intro w1 hown hg1;obtain ⟨cs,hb1,hsz,hat⟩:=cT hown;have HS:=Lib.hid hsz;clear hsz hown;simp only [World.heap_drewN,World.size_alloc] at hb1;have hgw:=A2 (A2 (A8 (A8 (World.grownBy_alloc w _ _) _) _) (D4 _ _ none)) hg1;have hbox1:=A1 hg1 (A4 ((w.alloc _).alloc _) _ (w.heap.size+1+1) (by simp))) | (with_reducible show wpList _ _ _ _ _ _;refine wpList_copy_splice (o:=⟨some 25,_,_,_,_,_⟩) rfl _ _ _ _ rfl 91 Tryz.underlying24 sizeU64 _ _ _ _ _ _ rfl rfl _ 0 cs.toList 91 hb1.raw (lx.map fun x:Nat=>Value.int .u64 (x:Int)) (copy_len Hn.out (Nat.le_succ n)) (copy_pos (hl.rd.kept hgw) _) (copy_fit Hn.out HS.out (Nat.le_succ n)) (one_limbs _) (w.heap.size+1+1+1) w1 (Below.refl _ _) (Nat.le_refl _) ?_;intro w2 hblk2 hbel2))
  have hat2:=at_splice hat HS.out (by rw [Hn.out];omega)
  rw [Hn.out,Nat.add_sub_cancel_left] at hat2
  have hgw2:=H8 hgw hbel2 (by omega)
  have hbox2:=P1 hbel2 hbox1 (by omega)
  refine (addTo_at _ _ 0 (n+1) _ (lx++[0]) _ ss m _ sx (by rw [List.length_append,Hn.out];rfl) Hm.out hblk2.out hat2 (((hs.rd.beside (by omega)).kept_none hgw2)) (by omega) (by omega) (hl.dig.snoc D6) hs.dig).mono ?_
  rintro e w3 ⟨c,zs,cs3,rfl,hb3,hw3,hg3,hl3,hd3,hc3,hv3⟩
  have hbox3:=P7 hg3 hbox2 (by omega)
  have hgw3:=B1 hgw2 hg3 (by omega)
  rw [List.length_append,Hn.out] at hl3 hv3
  have HV:=Lib.hid (carry_out hl.dig hs.dig (by rw [Hn.out];omega) (by rw [Hm.out];omega) hv3)
  have HL:=Lib.hid hl3
  clear hv3 hl3 hc3 hbox1 hbox2 hg1 hb1 hat hat2 hblk2 hbel2 hg3 hgw hgw2
  go_wp2_with fail
  refine (pI _ _ (n+1) _ zs HL.out (Rdo.of hb3 hw3.lies) (by omega) (Nat.le_refl _) hd3).mono ?_
  rintro e w4 ⟨sa,xs,rfl,hl4,hv4,hfr,hg4⟩
  have hbox4:=A1 hg4 hbox3
  obtain ⟨hc4,hf4⟩:=A7 hbox4
  have hF:=Lib.hid (ret_setF (A2 hgw3 hg4) hbox4 (by decide) (by omega) hl4 (hv4.trans HV.out) (fresh_of hfr (by omega)) (.slice sa xs.length xs.length))
  clear hv4 hbox4 hbox3 hg4 hgw3 hb3 hw3 hfr
  go_wp2_with fail
  exact bodyPost_ret (v := .agg #[.slice sa xs.length xs.length]) (by simp [results,Tryz.results105,go_sem,hc4]) rfl hF.out
theorem gO (w:World) (va vb:Value) (a b K:Nat) (ha:NatV w va a) (hb:NatV w vb b) (hK:K<=1073741824) (la:a<B^K) (lb:b<B^K) :
 Calls Tryz.prog 105 #[va,vb] w (RetFresh w (a+b)):=by
 obtain ⟨sa,xs,rfl,hx,rfl⟩:=ha
 obtain ⟨sb,ys,rfl,hy,rfl⟩:=hb
 have h1:=hx.len la
 have h2:=hy.len lb
 by_cases h:xs.length<ys.length
 · rw [Nat.add_comm]
   exact Add_core w sb sa ys xs _ _ hy hx _ _ rfl rfl (by omega) (by omega) (Or.inr ⟨rfl,rfl,h⟩)
 · exact Add_core w sa sb xs ys _ _ hx hy _ _ rfl rfl (by omega) (by omega) (Or.inl ⟨rfl,rfl,h⟩)
theorem kK (w:World) (va vb:Value) (a b K:Nat) (ha:NatV w va a) (hb:NatV w vb b) (hK:K<=1073741824) (la:a<B^K) (lb:b<B^K) :
 Calls Tryz.prog 105 #[va,vb] w (RetNat w (a+b)):=
 (gO w va vb a b K ha hb hK la lb).mono fun _ _ h=>h.nat
theorem W7 (w:World) (sa sb:Option Addr) (xs ys:List Nat) (hx:Lm w sa xs) (hy:Lm w sb ys) (hn:xs.length<=1099511627776) (hm:ys.length<=1099511627776) :
 Calls Tryz.prog 114 #[.slice sa xs.length xs.length,.slice sb ys.length ys.length] w (rN w (val B xs) (val B ys)):=by
 rcases Nat.lt_trichotomy xs.length ys.length with h | h | h
 · have:=J0 B D6 xs ys hx.dig hy.top h
   refine (vV w sa sb _ _ _ _ h hn hm).mono ?_
   rintro e w' ⟨rfl,rfl⟩
   exact ⟨by rw [bX this],0,rfl⟩
 · have:=vT w sa sb xs.length ys.length xs ys xs.length hx.rd hy.rd rfl h.symm hn hx.dig hy.dig
   rw [<- h]
   rw [<- h] at this
   exact this
 · have:=J0 B D6 ys xs hy.dig hx.top h
   refine (vU w sa sb _ _ _ _ h hn hm).mono ?_
   rintro e w' ⟨rfl,rfl⟩
   exact ⟨by rw [bZ this],0,rfl⟩
set_option maxHeartbeats 1000000 in
theorem wH (w:World) (va vb:Value) (a b K:Nat) (ha:NatV w va a) (hb:NatV w vb b) (hK:K<=1073741824) (la:a<B^K) (lb:b<B^K) :
 Calls Tryz.prog 59 #[va,vb] w fun e w'=>e = .returned (.int .i64 (K5 a b))/\w.grownBy w' none:=by
 obtain ⟨sa,xs,rfl,hx,rfl⟩:=ha
 obtain ⟨sb,ys,rfl,hy,rfl⟩:=hb
 have h1:=hx.len la
 have h2:=hy.len lb
 have hgw:w.grownBy ((w.alloc (.cells #[.slice sa xs.length xs.length] 26)).alloc (.cells #[.slice sb ys.length ys.length] 26)) none:=A8 (World.grownBy_alloc _ _ _) _
 go_enter Tryz.func59,Tryz.ntmps59
 go_wp2_with fail
 refine (W7 _ sa sb xs ys (hx.kept hgw) (hy.kept hgw) (by omega) (by omega)).mono ?_
 rintro e w' ⟨rfl,q,rfl⟩
 go_wp2_with fail
 go_ret
 exact ⟨rfl,A2 hgw (D4 _ _ _)⟩
def bC (w:World) (n:Nat) (code:Int) (e:Ending) (w':World):Prop:=∃ v,e = .returned (.tuple #[v,.int .i64 code])/\NatV w' v n/\w.grownBy w' none
theorem NatV.zero (w:World):NatV w (.agg #[.slice none 0 0]) 0:=⟨none,[],rfl,⟨Or.inl rfl,fun _=>rfl,by intro x hx;simp at hx,Dig.nil _⟩,rfl⟩
theorem pA {w w':World} {sa:Option Addr} {xs:List Nat} {n g:Nat} {c:Array Value} {t:TypeId} {code:Int} (hg:w.grownBy w' none) (hbox:w'.heap[g]?=some (.cells c t (0,0))) (ht:t≠91) (hl:w.heap.size<=g) (h:Lm w' sa xs) (hv:val B xs=n) (u:Value) :
 bC w n code (.returned (.tuple #[.agg #[.slice sa xs.length xs.length],.int .i64 code])) (w'.setCell ⟨g,0,none⟩ u):=
 ⟨_,rfl,⟨sa,xs,rfl,h.set_other hbox ht 0 u,hv⟩,B1 hg (B2 (A9 _ _) _ _) hl⟩
set_option maxHeartbeats 1000000 in
theorem Sub_less (w:World) (va vb:Value) (a b K:Nat) (ha:NatV w va a) (hb:NatV w vb b) (hK:K<=1073741824) (la:a<B^K) (lb:b<B^K) (hlt:a<b) :
 Calls Tryz.prog 106 #[va,vb] w (bC w 0 4):=by
 obtain ⟨sa,xs,rfl,hx,rfl⟩:=ha
 obtain ⟨sb,ys,rfl,hy,rfl⟩:=hb
 have h1:=hx.len la
 have h2:=hy.len lb
 have HC:=Lib.hid (bX hlt)
 clear hlt
 have hgw:w.grownBy (((w.alloc (.cells #[.slice sa xs.length xs.length] 26)).alloc (.cells #[.slice sb ys.length ys.length] 26)).alloc (.cells #[.slice none 0 0] 26)) none:=A8 (A8 (World.grownBy_alloc _ _ _) _) _
 go_enter Tryz.func106,Tryz.ntmps106
 go_wp2_with fail
 refine (W7 _ sa sb xs ys (hx.kept hgw) (hy.kept hgw) (by omega) (by omega)).mono ?_
 rintro e w' ⟨rfl,q,rfl⟩
 rw [HC.out]
 go_wp2_with fail
 exact bodyPost_ret (v := .tuple #[.agg #[.slice none 0 0],.int .i64 4]) (by simp [results,Tryz.results106,go_sem]) rfl ⟨_,rfl,NatV.zero _,B1 (g:=w.heap.size+1+1) (A2 hgw (D4 _ _ _)) (B2 (A9 _ _) _ _) (by omega)⟩
theorem Q8 {sa:Option Addr} {w:World} {xs:List Nat} (h:Lm w sa xs) (hp : 0<val B xs) : 0<xs.length:=by
 rcases Nat.eq_zero_or_pos xs.length with h0 | h0
 · rw [List.length_eq_zero_iff] at h0;subst h0;simp [val] at hp
 · exact h0
theorem bS {w:World} {sa sb:Option Addr} {xs ys:List Nat} (hx:Lm w sa xs) (hy:Lm w sb ys) (h:val B xs<=val B ys):xs.length<=ys.length:=by
 rcases Nat.lt_or_ge ys.length xs.length with h1 | h1
 · have:=J0 B D6 ys xs hy.dig hx.top h1;omega
 · exact h1
theorem uJ (w:World):Calls Tryz.prog 95 #[.slice none 0 0,.slice none 0 0] w fun e w'=>e = .returned (.tuple #[])/\w=w':=by
 go_enter Tryz.func95,Tryz.ntmps95
 go_wp2_with fail
 refine wp_loop_rounds 1 ?_
 rw [rounds_succ]
 go_wp2_with fail
 refine wp_loop_rounds 1 ?_
 rw [rounds_succ]
 go_wp2_with fail
 go_end0
 exact ⟨rfl,rfl⟩
set_option maxHeartbeats 1000000 in
theorem eQ (w:World) (va vb:Value) (a b K:Nat) (ha:NatV w va a) (hb:NatV w vb b) (hK:K<=1073741824) (la:a<B^K) (hle:b<=a) :
 Calls Tryz.prog 106 #[va,vb] w (bC w (a-b) 0):=by
 obtain ⟨sa,xs,rfl,hx,rfl⟩:=ha
 obtain ⟨sb,ys,rfl,hy,rfl⟩:=hb
 have h1:=hx.len la
 have h2:=bS hy hx hle
 have HD:=Lib.hid hle
 have hC : 0<=K5 (val B xs) (val B ys):=by
  rcases Nat.lt_or_ge (val B ys) (val B xs) with h | h
  · rw [bZ h];omega
  · rw [gE (by omega)];omega
 generalize hcc:K5 (val B xs) (val B ys)=cc at hC
 have HC:=Lib.hid hcc
 clear hle hcc la
 have hgw:w.grownBy (((w.alloc (.cells #[.slice sa xs.length xs.length] 26)).alloc (.cells #[.slice sb ys.length ys.length] 26)).alloc (.cells #[.slice none 0 0] 26)) none:=A8 (A8 (World.grownBy_alloc _ _ _) _) _
 have hbox:=A4 ((w.alloc (.cells #[.slice sa xs.length xs.length] 26)).alloc (.cells #[.slice sb ys.length ys.length] 26)) (.cells #[.slice none 0 0] 26) (w.heap.size+1+1) (by simp)
 have hboxb:=(Below.heap_alloc _ (.cells #[.slice none 0 0] 26) (w.heap.size+1) (by simp)).trans (A4 (w.alloc (.cells #[.slice sa xs.length xs.length] 26)) (.cells #[.slice sb ys.length ys.length] 26) (w.heap.size+1) (by simp))
 by_cases h0:xs.length=0
 · obtain rfl:xs=[]:=List.length_eq_zero_iff.1 h0
   obtain rfl:ys=[]:=List.length_eq_zero_iff.1 (by simpa using h2)
   obtain rfl:=hx.nil rfl
   obtain rfl:=hy.nil rfl
   clear h0 h1 h2
   simp only [List.length_nil] at hgw hbox hboxb ⊢
   go_enter Tryz.func106,Tryz.ntmps106
   go_wp2_with fail
   refine (W7 _ none none [] [] (hx.kept hgw) (hy.kept hgw) (by simp) (by simp)).mono ?_
   rintro e w' ⟨rfl,q,rfl⟩
   rw [HC.out]
   go_wp2_with fail
   refine (lR _).mono ?_
   rintro e w' ⟨rfl,rfl⟩
   go_wp2_with fail
   refine (uJ _).mono ?_
   rintro e w' ⟨rfl,rfl⟩
   go_wp2_with fail
   refine (S5 _ none 0 0 [] rfl (Or.inl rfl) (by omega) (by omega) (Dig.nil _)).mono ?_
   rintro e w4 ⟨v,rfl,⟨sa,xs,rfl,hl4,hv4⟩,hg4⟩
   have hbox4:=A1 (A2 (D4 _ _ none) hg4) hbox
   obtain ⟨hc4,hf4⟩:=A7 hbox4
   have hF:=Lib.hid (pA (w:=w) (n:=0) (code:=0) (A2 hgw (A2 (D4 _ _ none) hg4)) hbox4 (by decide) (by omega) hl4 hv4 (.slice sa xs.length xs.length))
   clear hv4 hbox4 hg4 hgw hbox hboxb
   go_wp2_with fail
   exact bodyPost_ret (v := .tuple #[.agg #[.slice sa xs.length xs.length],.int .i64 0]) (by simp [results,Tryz.results106,go_sem,hc4]) rfl hF.out
 · obtain ⟨b1,o1,cs1,rfl,hb1,hat1⟩:=hx.rd.get 0 (by omega)
   go_enter Tryz.func106,Tryz.ntmps106
   go_wp2_with fail
   refine (W7 _ (some ⟨b1,o1,none⟩) sb xs ys (hx.kept hgw) (hy.kept hgw) (by omega) (by omega)).mono ?_
   rintro e w' ⟨rfl,q,rfl⟩
   rw [HC.out]
   go_wp2_with fail
   refine (uF _ b1 o1 _ cs1 xs (hb1.kept (A2 hgw (D4 _ _ none)) (by simp)) hat1 (by omega) (by omega)).mono ?_
   rintro e w2 ⟨g,cap,cs2,rfl,hge,hb2,hat2,hcap,hg2⟩
   have hge':w.heap.size+1+1+1<=g:=by simpa using hge
   have hgw2:=A2 (A2 hgw (D4 _ q none)) hg2
   have hbox2:=A1 (A2 (D4 _ _ none) hg2) hbox
   obtain ⟨hcb,hfb⟩:=A7 (A1 (A2 (D4 _ _ none) hg2) hboxb)
   clear hge hg2 hbox hboxb
   obtain ⟨hc2,hf2⟩:=A7 hbox2
   go_wp2_with fail
   refine (aO _ g 0 _ _ xs cs2 sb _ _ ys rfl rfl hb2 hat2 ((hy.rd.beside (by omega)).kept_none hgw2) h2 (by omega) hx.dig hy.dig HD.out).mono ?_
   rintro e w3 ⟨zs,cs3,rfl,hb3,hw3,hg3,hl3,hd3,hv3⟩
   have hbox3:=P7 hg3 hbox2 (by omega)
   have hgw3:=B1 hgw2 hg3 (by omega)
   have HV:=Lib.hid (show val B zs=val B xs-val B ys by omega)
   have HL:=Lib.hid hl3
   clear hv3 hl3 hbox2 hgw2 hg3 hb2 hat2 hc2 hf2 hcb hfb
   go_wp2_with fail
   refine (S5 _ _ _ _ zs HL.out (Rdo.of hb3 hw3.lies) (by omega) (by omega) hd3).mono ?_
   rintro e w4 ⟨v,rfl,⟨sa,zs2,rfl,hl4,hv4⟩,hg4⟩
   have hbox4:=A1 hg4 hbox3
   obtain ⟨hc4,hf4⟩:=A7 hbox4
   have hF:=Lib.hid (pA (code:=0) (A2 hgw3 hg4) hbox4 (by decide) (by omega) hl4 (hv4.trans HV.out) (.slice sa zs2.length zs2.length))
   clear hv4 hbox4 hbox3 hg4 hgw3 hb3 hw3
   go_wp2_with fail
   exact bodyPost_ret (v := .tuple #[.agg #[.slice sa zs2.length zs2.length],.int .i64 0]) (by simp [results,Tryz.results106,go_sem,hc4]) rfl hF.out
def R1 (x y:Nat):Nat:=x*y / B
def C8 (x y:Nat):Nat:=x*y%B
theorem mulLo_lt (x y:Nat):C8 x y<B:=Nat.mod_lt _ D6
theorem kZ (x y:Nat):C8 x y+B*R1 x y=x*y:=Nat.mod_add_div ..
set_option maxHeartbeats 1000000 in
theorem bQ (x y:Nat) (hx:x<B) (hy:y<B) (w:World) :
 Calls Tryz.prog 164 #[.int .u64 (x:Int),.int .u64 (y:Int)] w fun e w'=>e = .returned (.tuple #[.int .u64 (R1 x y:Int),.int .u64 (C8 x y:Int)])/\w=w':=by
 show Calls _ _ _ _ fun e w'=>e = .returned (.tuple #[.int .u64 ((x*y / 18446744073709551616:Nat):Int),.int .u64 ((x*y%18446744073709551616:Nat):Int)])/\w=w'
 have hx:x<18446744073709551616:=hx
 have hy:y<18446744073709551616:=hy
 obtain ⟨bd,bt,bw,hhi⟩:=Lib.mul64_hi x y hx hy
 have ba:=Lib.half_mul_le (a:=x / 4294967296) (b:=y / 4294967296) (by omega) (by omega)
 have bb:=Lib.half_mul_le (a:=x / 4294967296) (b:=y%4294967296) (by omega) (by omega)
 have bc:=Lib.half_mul_le (a:=x%4294967296) (b:=y / 4294967296) (by omega) (by omega)
 have ba':x / 4294967296*(y / 4294967296)<18446744073709551616:=by omega
 have bb':x / 4294967296*(y%4294967296)<18446744073709551616:=by omega
 have bc':x%4294967296*(y / 4294967296)<18446744073709551616:=by omega
 have bh1:x / 4294967296*(y / 4294967296)+(x / 4294967296*(y%4294967296)+x%4294967296*(y%4294967296) / 4294967296) / 4294967296<18446744073709551616:=by omega
 have bh:x / 4294967296*(y / 4294967296)+(x / 4294967296*(y%4294967296)+x%4294967296*(y%4294967296) / 4294967296) / 4294967296+((x / 4294967296*(y%4294967296)+x%4294967296*(y%4294967296) / 4294967296)%4294967296+x%4294967296*(y / 4294967296)) / 4294967296<18446744073709551616:=by omega
 have Hhi:=Lib.hid hhi
 clear hhi
 go_enter Tryz.func164,Tryz.ntmps164
 go_wp2
 simp only [Mul64.maskN x hx,Mul64.maskN y hy,Mul64.divN,Mul64.mulN,Mul64.addN,Mul64.wrapN _ bd,Mul64.wrapN _ bb',Mul64.wrapN _ bt,Mul64.maskN _ bt,Mul64.wrapN _ bc',Mul64.wrapN _ bw,Mul64.wrapN _ ba',Mul64.wrapN _ bh1,Mul64.wrapN _ bh,Mul64.wrapM (x*y)]
 rw [Hhi.out]
 go_ret2
 exact ⟨rfl,rfl⟩
theorem muladd_step (k v x y by' add s:Nat) (h:v+add*B^k=s) :
 v+B^k*E7 x (E7 (C8 y by') add 0) 0+(R1 y by'+G6 (C8 y by') add 0+G6 x (E7 (C8 y by') add 0) 0)*B^(k+1)=s+B^k*x+B^k*(y*by'):=by
 have e1:=kZ y by'
 have e2:E7 (C8 y by') add 0+B*G6 (C8 y by') add 0=C8 y by'+add+0:=Nat.mod_add_div ..
 have e3:E7 x (E7 (C8 y by') add 0) 0+B*G6 x (E7 (C8 y by') add 0) 0=x+E7 (C8 y by') add 0+0:=Nat.mod_add_div ..
 generalize E7 x (E7 (C8 y by') add 0) 0=r3 at *
 generalize G6 x (E7 (C8 y by') add 0) 0=c3 at *
 generalize E7 (C8 y by') add 0=r2 at *
 generalize G6 (C8 y by') add 0=c2 at *
 generalize C8 y by'=r1 at *
 generalize R1 y by'=q1 at *
 rw [<- e1,Nat.pow_succ]
 grind
theorem kY {x y by' add:Nat} (hx:x<B) (hy:y<B) (hb:by'<B) (ha:add<B) :
 R1 y by'+G6 (C8 y by') add 0<B/\R1 y by'+G6 (C8 y by') add 0+G6 x (E7 (C8 y by') add 0) 0<B:=by
 have e1:=kZ y by'
 have e2:E7 (C8 y by') add 0+B*G6 (C8 y by') add 0=C8 y by'+add+0:=Nat.mod_add_div ..
 have e3:E7 x (E7 (C8 y by') add 0) 0+B*G6 x (E7 (C8 y by') add 0) 0=x+E7 (C8 y by') add 0+0:=Nat.mod_add_div ..
 have h1:y*by'<=(B-1)*(B-1):=Nat.mul_le_mul (by omega) (by omega)
 have h2:(B-1)*(B-1)+(B-1)+(B-1)<B*B:=by decide +kernel
 generalize E7 x (E7 (C8 y by') add 0) 0=r3 at *
 generalize G6 x (E7 (C8 y by') add 0) 0=c3 at *
 generalize E7 (C8 y by') add 0=r2 at *
 generalize G6 (C8 y by') add 0=c2 at *
 generalize C8 y by'=r1 at *
 generalize R1 y by'=q1 at *
 have h3:B*(q1+c2+c3)<B*B:=by
  have:B*(q1+c2+c3)=B*q1+B*c2+B*c3:=by rw [Nat.mul_add,Nat.mul_add]
  omega
 have h4:=Nat.lt_of_mul_lt_mul_left h3
 omega
def mT (w:World) (b off:Nat) (xs ys:List Nat) (by':Nat) (cs:Array Value) (e:Ending) (w':World):Prop:=
 ∃ (zs:List Nat) (cs':Array Value),e = .returned (.tuple #[])/\Blk w' b cs'/\tZ cs cs' off zs/\w.grownBy w' (some b)/\zs.length=ys.length+1/\Dig B zs/\val B zs=val B (xs.take ys.length)+val B ys*by'
set_option maxHeartbeats 2000000 in
theorem rY (w:World) (b off n cap:Nat) (xs:List Nat) (cs:Array Value) (sa:Option Addr) (m cap2:Nat) (ys:List Nat) (by':Nat) (hn:xs.length=n) (hmm:ys.length=m)
 (hb:Blk w b cs) (hx:At cs off xs) (hs:Rd w sa ys b) (hl:n=m+1) (hm:n<=1099511627776) (dx:Dig B xs) (dy:Dig B ys) (hby:by'<B) :
 Calls Tryz.prog 143 #[.slice (some ⟨b,off,none⟩) n cap,.slice sa m cap2,.int .u64 (by':Int)] w (mT w b off xs ys by' cs):=by
 subst hl
 have Hn:=Lib.hid hn
 have Hm:=Lib.hid hmm
 have hbyN:by'<18446744073709551616:=hby
 clear hn hmm
 go_enter Tryz.func143,Tryz.ntmps143
 go_wp2_with fail
 go_loopw [6,14] (fun c i wr=>∃ (k ad:Nat) (zs:List Nat),k<=m/\i = .int .i64 k/\c = .int .u64 ad/\ad<B/\Hid (zs.length=k)/\Dig B zs/\Blk wr b (Put cs off zs)/\w.grownBy wr (some b)/\Hid (val B zs+ad*B^k=val B (xs.take k)+val B (ys.take k)*by'))
  (fun _ i _=>m-(intOf i).toNat)
 case atStart=>exact ⟨0,0,[],Nat.zero_le _,rfl,rfl,D6,rfl,Dig.nil _,hb,A9 _ _,by show _=_;simp [val]⟩
 case round=>
  obtain ⟨k,ad,zs,hk,rfl,rfl,hc,hzl,hzd,hbk,hg,hv⟩:=hrel
  by_cases hlt:k<m
  · obtain ⟨x,ex⟩:∃ x,xs[k]'(by rw [Hn.out];omega)=x:=⟨_,rfl⟩
    obtain ⟨y,ey⟩:∃ y,ys[k]'(by rw [Hm.out];omega)=y:=⟨_,rfl⟩
    have hxB:x<B:=ex ▸ dx.get k _
    have hyB:y<B:=ey ▸ dy.get k _
    obtain ⟨b2,off2,cs2,rfl,hne,h2,hy⟩:=hs.get k (by rw [Hm.out];omega)
    have cx:wr.cell? ⟨b,off+k,none⟩=some (.int .u64 (x:Int)):=by
     rw [hbk.cell,J6 _ _ _ _ (by rw [hzl.out];omega),hx k (by rw [Hn.out];omega),ex]
    have cy:wr.cell? ⟨b2,off2+k,none⟩=some (.int .u64 (y:Int)):=by
     rw [(h2.kept hg (by simpa using hne)).cell,hy k (by rw [Hm.out];omega),ey]
    have fx:wr.frozen? ⟨b,off+k,none⟩=false:=hbk.frozen _
    have EX:=Lib.hid ex
    have EY:=Lib.hid ey
    clear ex ey
    have ha1:∀ w,(callFunc 165 #[.int .u64 (C8 y by':Int),.int .u64 (ad:Int),.int .u64 0]).run Tryz.prog w = .ok (.value (.tuple #[.int .u64 (E7 (C8 y by') ad 0:Int),.int .u64 (G6 (C8 y by') ad 0:Int)])) w:=fun w=>tY _ _ 0 (Nat.zero_le _) w
    have ha2:∀ w,(callFunc 165 #[.int .u64 (x:Int),.int .u64 (E7 (C8 y by') ad 0:Int),.int .u64 0]).run Tryz.prog w = .ok (.value (.tuple #[.int .u64 (E7 x (E7 (C8 y by') ad 0) 0:Int),.int .u64 (G6 x (E7 (C8 y by') ad 0) 0:Int)])) w:=fun w=>tY _ _ 0 (Nat.zero_le _) w
    obtain ⟨b1,b2'⟩:=kY hxB hyB hby hc
    have b1:R1 y by'+G6 (C8 y by') ad 0<18446744073709551616:=b1
    have b3:R1 y by'+G6 (C8 y by') ad 0+G6 x (E7 (C8 y by') ad 0) 0<18446744073709551616:=b2'
    go_wp2_with (go_at_call 164;refine (bQ y by' hyB hby _).mono ?_;rintro e w' ⟨rfl,rfl⟩)
    clear ha1 ha2 cx cy fx
    go_roundw
    case rel=>
     refine ⟨k+1,R1 y by'+G6 (C8 y by') ad 0+G6 x (E7 (C8 y by') ad 0) 0,zs++[E7 x (E7 (C8 y by') ad 0) 0],by omega,by go_num,by go_num,b2', ?_,hzd.snoc (eO _ _ _), ?_,B2 hg _ _, ?_⟩
     · show _=_;rw [List.length_append,hzl.out];rfl
     · rw [P3,hzl.out];exact hbk.setCell _ _
     · show _=_
       rw [F8,hzl.out,muladd_step k _ x y by' ad _ hv.out,C0 B xs k (by rw [Hn.out];omega),C0 B ys k (by rw [Hm.out];omega),EX.out,EY.out,Nat.add_mul,Nat.mul_assoc];omega
    case measure=>simp [intOf];omega
  · obtain rfl:k=m:=by omega
    have cx:wr.cell? ⟨b,off+k,none⟩=some (.int .u64 (xs[k]'(by rw [Hn.out];omega):Int)):=by
     rw [hbk.cell,J6 _ _ _ _ (by rw [hzl.out];omega),hx k (by rw [Hn.out];omega)]
    have fx:wr.frozen? ⟨b,off+k,none⟩=false:=hbk.frozen _
    obtain ⟨xv,exv⟩:∃ xv,xs[k]'(by rw [Hn.out];omega)=xv:=⟨_,rfl⟩
    rw [exv] at cx
    clear exv
    have hsz:off+(k+1)<=cs.size:=by
     rcases hx.le with h | h
     · exfalso;have:=Hn.out;rw [h] at this;simp at this
     · rw [Hn.out] at h;omega
    have HF:Hid (mT w b off xs ys by' cs (.returned (.tuple #[])) (wr.setCell ⟨b,off+k,none⟩ (.int .u64 (ad:Int)))):=by
     have hb2:=hbk.setCell (off+k) (.int .u64 (ad:Int))
     have hp:(Put cs off zs).setIfInBounds (off+k) (.int .u64 (ad:Int))=Put cs off (zs++[ad]):=by rw [P3,hzl.out]
     rw [hp] at hb2
     have hlen:(zs++[ad]).length=k+1:=by rw [List.length_append,hzl.out];rfl
     refine ⟨zs++[ad],_,rfl,hb2,⟨dQ _ _ _,fun j hj=>J6 _ _ _ _ hj,iR _ _ _ (by rw [hlen];exact hsz)⟩,B2 hg _ _,by rw [hlen,Hm.out],hzd.snoc hc, ?_⟩
     rw [F8,hzl.out,Hm.out,Nat.mul_comm,hv.out, <- Hm.out,List.take_length,Hm.out]
    clear hbk hg hv hzl hzd
    go_wp2_with fail
    go_end0
    exact HF
theorem mul_step {us ys zs:List Nat} {i x V:Nat} (hi:i<=us.length) (hv:val B us=V*val B ys) (hz:val B zs=val B ((us.drop i++[0]).take ys.length)+val B ys*x) (hl:us.length=i+ys.length) :
 val B (us.take i++zs)=(V+B^i*x)*val B ys:=by
 have e:(us.drop i++[0]).take ys.length=us.drop i:=by
  rw [List.take_append_of_le_length (by rw [List.length_drop];omega),List.take_of_length_le (by rw [List.length_drop];omega)]
 rw [e] at hz
 have h1:=L4 B us i hi
 rw [O6,List.length_take,Nat.min_eq_left hi,hz,Nat.mul_add, <- Nat.add_assoc, <- h1,hv,Nat.add_mul]
 congr 1
 rw [Nat.mul_assoc,Nat.mul_comm x]
theorem win_at {cs:Array Value} {us:List Nat} {k j:Nat} (h:At cs 0 (us++List.replicate (j+1) 0)) (hk:k<=us.length):At cs k (us.drop k++[0]):=by
 have h1:=h.drop k
 rw [Nat.zero_add,List.drop_append_of_le_length hk] at h1
 have h2:=h1.take ((us.drop k).length+1)
 rw [List.take_length_add_append,List.take_replicate,Nat.min_eq_left (by omega)] at h2
 exact h2
theorem win_put {cs cs':Array Value} {us zs:List Nat} {k j m:Nat} (h:At cs 0 (us++List.replicate (j+1) 0)) (hu:us.length=k+m) (hz:zs.length=m+1) (hw:tZ cs cs' k zs):At cs' 0 ((us.take k++zs)++List.replicate j 0):=by
 have hlk:(us.take k).length=k:=by rw [List.length_take];omega
 refine At.append (At.append ?_ ?_) ?_
 · intro i hi
   rw [hlk] at hi
   rw [hw.out _ (by omega),h i (by simp;omega),List.getElem_append_left (by omega),List.getElem_take]
 · rw [hlk,Nat.zero_add];exact hw.lies
 · intro i hi
   rw [List.length_replicate] at hi
   rw [List.length_append,hlk,hz]
   rw [hw.out _ (by omega),List.getElem_replicate]
   have:=h (k+(m+1)+i) (by simp;omega)
   rw [Nat.zero_add] at this ⊢
   rw [this,List.getElem_append_right (by omega),List.getElem_replicate]
set_option maxHeartbeats 2000000 in
theorem Mul_core (w:World) (sa sb:Option Addr) (xs ys:List Nat) (hx:Lm w sa xs) (hy:Lm w sb ys) (n m:Nat) (hn:xs.length=n) (hm:ys.length=m) (bn:n<=1073741824) (bm:m<=1073741824) :
 Calls Tryz.prog 96 #[.agg #[.slice sa n n],.agg #[.slice sb m m]] w (RetFresh w (val B xs*val B ys)):=by
 have Hn:=Lib.hid hn
 have Hm:=Lib.hid hm
 clear hn hm
 obtain ⟨i0,hi,hz0,hz1,hz2⟩:=info_parts Tryz.infoU64
 have hgw0:w.grownBy (((w.alloc (.cells #[.slice sa n n] 26)).alloc (.cells #[.slice sb m m] 26)).alloc (.cells #[.slice none 0 0] 26)) none:=A8 (A8 (World.grownBy_alloc _ _ _) _) _
 have hbox0:=A4 ((w.alloc (.cells #[.slice sa n n] 26)).alloc (.cells #[.slice sb m m] 26)) (.cells #[.slice none 0 0] 26) (w.heap.size+1+1) (by simp)
 have hboxb0:=(Below.heap_alloc _ (.cells #[.slice none 0 0] 26) (w.heap.size+1) (by simp)).trans (A4 (w.alloc (.cells #[.slice sa n n] 26)) (.cells #[.slice sb m m] 26) (w.heap.size+1) (by simp))
 have hboxa0:=(Below.heap_alloc _ (.cells #[.slice none 0 0] 26) (w.heap.size) (by simp;omega)).trans ((Below.heap_alloc _ (.cells #[.slice sb m m] 26) (w.heap.size) (by simp)).trans (A4 w (.cells #[.slice sa n n] 26) (w.heap.size) rfl))
 have hs0:(((w.alloc (.cells #[.slice sa n n] 26)).alloc (.cells #[.slice sb m m] 26)).alloc (.cells #[.slice none 0 0] 26)).heap.size=w.heap.size+1+1+1:=by simp
 go_enter Tryz.func96,Tryz.ntmps96
 go_wp2_with (at_make;refine wpList_make_full _ rfl _ _ 24 rfl _ 91 i0 (.int .u64 0) 1 Tryz.underlying24 hi hz0 hz1 .i64 .i64 _ _ (n+m) rfl rfl (by omega) (by omega) (by rw [hz2];omega) (by unfold maxLen;omega) (Nat.le_refl _) ?_;intro w1 hown hg1;obtain ⟨cs,hb1,hsz,hat⟩:=cT hown;have HS:=Lib.hid hsz;have HS0:=Lib.hid hs0;rw [hs0] at hb1;clear hsz hs0 hown;have hgw:=A2 hgw0 hg1;have hbox1:=A1 hg1 hbox0;have hboxb1:=A1 hg1 hboxb0;have hboxa1:=A1 hg1 hboxa0;obtain ⟨hca,hfa⟩:=A7 hboxa1;clear hg1 hgw0 hbox0 hboxb0 hboxa0)
 go_loopw [19] (fun i wr=>∃ (k:Nat) (us:List Nat) (cs2:Array Value),k<=n/\i = .int .i64 k/\Hid (us.length=k+m)/\Dig B us/\Blk wr (w.heap.size+1+1+1) cs2/\At cs2 0 (us++List.replicate (n-k) 0)/\w1.grownBy wr (some (w.heap.size+1+1+1))/\Hid (val B us=val B (xs.take k)*val B ys))
  (fun i _=>n-(intOf i).toNat)
 case atStart=>exact ⟨0,List.replicate m 0,cs,Nat.zero_le _,rfl,by show _=_;simp,Dig.replicate D6 _,hb1,by rw [Nat.sub_zero,List.replicate_append_replicate,Nat.add_comm m n];exact hat,A9 _ _,by show _=_;rw [gS];simp [val]⟩
 case round=>
  obtain ⟨k,us,cs2,hk,rfl,hul,hud,hbk,hat2,hg,hv⟩:=hrel
  have hcb:=A7 (P7 hg hboxb1 (by omega))
  by_cases hlt:k<n
  · obtain ⟨x,ex⟩:∃ x,xs[k]'(by rw [Hn.out];omega)=x:=⟨_,rfl⟩
    have hxB:x<B:=ex ▸ hx.dig.get k _
    obtain ⟨b2,off2,cs3,rfl,h2,hax⟩:=hx.rd.get k (by rw [Hn.out];omega)
    have cx:wr.cell? ⟨b2,off2+k,none⟩=some (.int .u64 (x:Int)):=by
     rw [((h2.kept hgw (by simp)).kept hg (by have:=h2.lt;simp;omega)).cell,hax k (by rw [Hn.out];omega),ex]
    have EX:=Lib.hid ex
    clear ex
    obtain ⟨hcb,hfb⟩:=hcb
    go_wp2_with fail
    have e1:IntKind.i64.wrap ((k:Int)+(m:Int))=(k:Int)+(m:Int):=IntWalk.i64_in _ (by omega)
    have e2:IntKind.i64.wrap ((k:Int)+(m:Int)+1)=(k:Int)+(m:Int)+1:=IntWalk.i64_in _ (by omega)
    have f1:(k:Int)<=(k:Int)+(m:Int)+1:=by omega
    have f2:(k:Int)+(m:Int)+1<=(n:Int)+(m:Int):=by omega
    have f3:((k:Int)+(m:Int)+1).toNat=k+m+1:=by omega
    have f4:(0:Int)<=(k:Int):=by omega
    have f5:k≠n+m:=by omega
    go_still_tail 12,(by kernel_rfl)
    change wpList _ _ _ _ _ wr.drew
    clear e1 e2 f1 f2 f3 f4 f5
    go_wp2_with fail
    have hr:n-k=(n-k-1)+1:=by omega
    rw [hr] at hat2
    refine (rY _ _ k _ _ (us.drop k++[0]) cs2 sb m _ ys x (by rw [List.length_append,List.length_drop,hul.out];simp;omega) Hm.out hbk.drew (win_at hat2 (by rw [hul.out];omega)) (((hy.rd.beside (g:=w.heap.size+1+1+1) (by omega)).kept_none hgw).kept (C9 hg)) (by omega) (by omega) ((hud.drop k).snoc D6) hy.dig hxB).mono ?_
    rintro e w2 ⟨zs,cs4,rfl,hb4,hw4,hg4,hl4,hd4,hv4⟩
    rw [Hm.out] at hl4
    have HZ:=Lib.hid hv4
    have HL:=Lib.hid hl4
    have hat4:=win_put hat2 hul.out hl4 hw4
    clear hv4 hl4 hr cx hcb hfb
    go_wp2_with fail
    go_roundw
    case rel=>
     refine ⟨k+1,us.take k++zs,cs4,by omega,by go_num, ?_,(hud.take k).append hd4,hb4,by rw [show n-(k+1)=n-k-1 from by omega];exact hat4,A2 (C9 hg) hg4, ?_⟩
     · show _=_;rw [List.length_append,HL.out,List.length_take,hul.out];omega
     · show _=_
       rw [mul_step (by rw [hul.out];omega) hv.out HZ.out (by rw [hul.out,Hm.out]),C0 B xs k (by rw [Hn.out];omega),EX.out]
    case measure=>simp [intOf];omega
  · obtain rfl:k=n:=by omega
    have hbox2:=P7 hg hbox1 (by omega)
    have hgw2:=B1 hgw hg (by omega)
    rw [Nat.sub_self,List.replicate_zero,List.append_nil] at hat2
    have HV:Hid (val B us=val B xs*val B ys):=by show _=_;rw [hv.out, <- Hn.out,List.take_length]
    clear hbox1 hboxb1 hboxa1 hb1 hat hca hfa hcb hv hg hgw
    go_wp2_with fail
    refine (pI _ _ (k+m) _ us hul.out (Rdo.of hbk hat2) (by omega) (Nat.le_refl _) hud).mono ?_
    rintro e w4 ⟨sc,zs,rfl,hl4,hv4,hfr,hg4⟩
    have hbox4:=A1 hg4 hbox2
    obtain ⟨hc4,hf4⟩:=A7 hbox4
    have hF:=Lib.hid (ret_setF (A2 hgw2 hg4) hbox4 (by decide) (by omega) hl4 (hv4.trans HV.out) (fresh_of hfr (by omega)) (.slice sc zs.length zs.length))
    clear hfr hv4 hbox4 hbox2 hg4 hgw2
    go_wp2_with fail
    exact bodyPost_ret (v := .agg #[.slice sc zs.length zs.length]) (by simp [results,Tryz.results96,go_sem,hc4]) rfl hF.out
theorem uB (w:World) (va vb:Value) (a b K:Nat) (ha:NatV w va a) (hb:NatV w vb b) (hK:K<=1073741824) (la:a<B^K) (lb:b<B^K) :
 Calls Tryz.prog 96 #[va,vb] w (RetFresh w (a*b)):=by
 obtain ⟨sa,xs,rfl,hx,rfl⟩:=ha
 obtain ⟨sb,ys,rfl,hy,rfl⟩:=hb
 have h1:=hx.len la
 have h2:=hy.len lb
 exact Mul_core w sa sb xs ys hx hy _ _ rfl rfl (by omega) (by omega)
theorem nW (w:World) (va vb:Value) (a b K:Nat) (ha:NatV w va a) (hb:NatV w vb b) (hK:K<=1073741824) (la:a<B^K) (lb:b<B^K) :
 Calls Tryz.prog 96 #[va,vb] w (RetNat w (a*b)):=
 (uB w va vb a b K ha hb hK la lb).mono fun _ _ h=>h.nat
def shl (x p:Nat):Nat:=x*2^p%B
def shr (x p:Nat):Nat:=x / 2^p
theorem bD:B=2^64:=by decide
theorem T0 {p:Nat} (hp:p<=64):B=2^(64-p)*2^p:=by rw [<- Nat.pow_add,Nat.sub_add_cancel hp];exact bD
theorem sP {x p:Nat} (hp:p<=64):shr x (64-p)=x*2^p / B:=by
 unfold shr
 rw [T0 hp,Nat.mul_div_mul_right _ _ (Nat.two_pow_pos p)]
theorem shl_bd {x p:Nat} (hp:p<=64):shl x p+2^p<=B:=by
 have h:shl x p=x%2^(64-p)*2^p:=by unfold shl;rw [T0 hp,Nat.mul_mod_mul_right]
 rw [h,T0 hp, <- Nat.succ_mul]
 exact Nat.mul_le_mul_right _ (Nat.mod_lt _ (Nat.two_pow_pos _))
theorem or_shl {c x p:Nat} (hp:p<=64) (hc:c<2^p):c ||| shl x p=c+shl x p:=by
 have h:shl x p=x%2^(64-p)*2^p:=by unfold shl;rw [T0 hp,Nat.mul_mod_mul_right]
 rw [h,Nat.or_comm,Nat.add_comm, <- Nat.shiftLeft_eq,Nat.shiftLeft_add_eq_or_of_lt hc]
theorem raise_step (k v x c s p:Nat) (hp:p<=64) (h:v+c*B^k=s*2^p):v+B^k*(c+shl x p)+shr x (64-p)*B^(k+1)=(s+B^k*x)*2^p:=by
 have e:shl x p+B*shr x (64-p)=x*2^p:=by rw [sP hp];exact Nat.mod_add_div ..
 generalize shl x p=a at *
 generalize shr x (64-p)=d at *
 rw [Nat.pow_succ]
 grind
theorem uO {x p:Nat} (hx:x<B) (hp:p<=64):shr x (64-p)<2^p:=by
 unfold shr
 rw [Nat.div_lt_iff_lt_mul (Nat.two_pow_pos _),Nat.mul_comm, <- T0 hp]
 exact hx
theorem shl_int {c x p:Nat} (hp:p<=64) (hc:c<2^p):bits .or .u64 (c:Int) (IntKind.u64.wrap ((x:Int)*2^p))=((c+shl x p:Nat):Int):=by
 have h1:IntKind.u64.wrap ((x:Int)*2^p)=((shl x p:Nat):Int):=by
  rw [IntKind.wrap_u64]
  show _=((x*2^p%18446744073709551616:Nat):Int)
  rw [Int.natCast_emod,Int.natCast_mul,Int.natCast_pow];rfl
 have hb:c<18446744073709551616:=Nat.lt_of_lt_of_le hc (by have:=Nat.pow_le_pow_right (n:=2) (by omega) hp;simpa using this)
 rw [h1,bits_or_u64_nat c (shl x p) hb (Nat.mod_lt _ D6),or_shl hp hc]
theorem nI {x q:Nat} : (x:Int) / 2^q=((shr x q:Nat):Int):=by
 unfold shr;rw [Int.natCast_ediv,Int.natCast_pow];rfl
theorem At.put_mid {cs:Array Value} {off:Nat} {A M R Z:List Nat} (h:At cs off (A++(M++R))) (hz:Z.length=M.length):At (Put cs (off+A.length) Z) off (A++(Z++R)):=by
 refine At.append ?_ (At.append ?_ ?_)
 · refine At.put_out ?_ (Or.inl (Nat.le_refl _))
   have:=h.take A.length
   rwa [List.take_left] at this
 · rcases h.le with e | e
   · simp only [List.append_eq_nil_iff] at e
     obtain ⟨_,e2,_⟩:=e
     rw [e2] at hz
     rw [List.length_eq_zero_iff.1 hz];exact At.nil _ _
   · simp only [List.length_append] at e
     exact iR _ _ _ (by omega)
 · refine At.put_out ?_ (Or.inr (Nat.le_refl _))
   have:=h.drop (A++M).length
   rw [<- List.append_assoc,List.drop_left,List.length_append, <- Nat.add_assoc] at this
   rwa [hz]
def Raised (w:World) (xs:List Nat) (k:Nat) (e:Ending) (w':World):Prop:=
 ∃ (g n:Nat) (cs:Array Value) (zs:List Nat),e = .returned (.slice (some ⟨g,0,none⟩) n n)/\w.heap.size<=g/\Blk w' g cs/\At cs 0 zs/\zs.length=n/\n=xs.length+k / 64+1/\Dig B zs/\val B zs=val B xs*2^k/\w.grownBy w' none
set_option maxHeartbeats 2000000 in
theorem cO (w:World) (sa:Option Addr) (n cap:Nat) (xs:List Nat) (k:Nat) (hn:xs.length=n) (hx:Rdo w sa xs) (dx:Dig B xs) (bn:n<=1073741824) (bk:k<=68719476736) :
 Calls Tryz.prog 162 #[.slice sa n cap,.int .i64 (k:Int)] w (Raised w xs k):=by
 have Hn:=Lib.hid hn
 obtain ⟨wh,hwh⟩:∃ wh,wh=k / 64:=⟨_,rfl⟩
 obtain ⟨p,hp⟩:∃ p,p=k%64:=⟨_,rfl⟩
 have hp64:p<64:=by omega
 have hk:k=64*wh+p:=by omega
 have HK:=Lib.hid hk
 have hd1:(k:Int) / 64=(wh:Int):=by omega
 have hd2:(k:Int)%64=(p:Int):=by omega
 have bw:wh<=1073741824:=by omega
 clear hn hk hwh hp
 obtain ⟨i0,hi,hz0,hz1,hz2⟩:=info_parts Tryz.infoU64
 go_enter Tryz.func162,Tryz.ntmps162
 go_wp2_with (at_make;refine wpList_make_full _ rfl _ _ 24 rfl _ 91 i0 (.int .u64 0) 1 Tryz.underlying24 hi hz0 hz1 .i64 .i64 _ _ (n+wh+1) rfl rfl (by omega) (by omega) (by rw [hz2];omega) (by unfold maxLen;omega) (Nat.le_refl _) ?_;intro w1 hown hg1;obtain ⟨cs,hb1,hsz,hat⟩:=cT hown;have HS:=Lib.hid hsz;clear hsz hown)
 clear hd1 hd2
 go_loopw [22] (fun i wr=>∃ (j c:Nat) (us:List Nat) (cs2:Array Value),j<=n/\i = .int .i64 j/\Hid (us.length=j)/\Dig B us/\c<2^p/\Blk wr w.heap.size cs2/\At cs2 0 (List.replicate wh 0++(us++(c :: List.replicate (n-j) 0)))/\w1.grownBy wr (some w.heap.size)/\Hid (val B us+c*B^j=val B (xs.take j)*2^p))
  (fun i _=>n-(intOf i).toNat)
 case atStart=>exact ⟨0,0,[],cs,Nat.zero_le _,rfl,rfl,Dig.nil _,Nat.two_pow_pos _,hb1,by
  rw [Nat.sub_zero,List.nil_append, <- List.replicate_succ,List.replicate_append_replicate,show wh+(n+1)=n+wh+1 from by omega];exact hat,A9 _ _,by show _=_;simp [val]⟩
 case round=>
  obtain ⟨j,c,us,cs2,hj,rfl,hul,hud,hcp,hbk,hat2,hg,hv⟩:=hrel
  by_cases hlt:j<n
  · obtain ⟨x,ex⟩:∃ x,xs[j]'(by rw [Hn.out];omega)=x:=⟨_,rfl⟩
    have hxB:x<B:=ex ▸ dx.get j _
    obtain ⟨b2,off2,cs3,rfl,h2,hax⟩:=hx.get j (by rw [Hn.out];omega)
    have cx:wr.cell? ⟨b2,off2+j,none⟩=some (.int .u64 (x:Int)):=by
     rw [((h2.kept hg1 (by simp)).kept hg (by have:=h2.lt;simp;omega)).cell,hax j (by rw [Hn.out];omega),ex]
    have cc:wr.cell? ⟨w.heap.size,j+wh,none⟩=some (.int .u64 (c:Int)):=by
     have:=hat2 (wh+j) (by simp [hul.out])
     rw [hbk.cell,show j+wh=0+(wh+j) from by omega,this,List.getElem_append_right (by simp),List.getElem_append_right (by simp [hul.out])]
     simp [hul.out]
    have fc:wr.frozen? ⟨w.heap.size,j+wh,none⟩=false:=hbk.frozen _
    obtain ⟨y,cy⟩:∃ y,wr.cell? ⟨w.heap.size,j+wh+1,none⟩=some (.int .u64 (y:Int)):=by
     have:=hat2 (wh+j+1) (by simp [hul.out];omega)
     rw [hbk.cell,show j+wh+1=0+(wh+j+1) from by omega]
     exact ⟨_,this⟩
    have fy:wr.frozen? ⟨w.heap.size,j+wh+1,none⟩=false:=hbk.frozen _
    have EX:=Lib.hid ex
    clear ex
    have e1:IntKind.i64.wrap ((j:Int)+(wh:Int))=(j:Int)+(wh:Int):=IntWalk.i64_in _ (by omega)
    have f1:(j:Int)+(wh:Int)<(n:Int)+(wh:Int)+1:=by omega
    have f3:((j:Int)+(wh:Int)).toNat=j+wh:=by omega
    have f4:(0:Int)<=(j:Int)+(wh:Int):=by omega
    go_wp2_with fail
    go_still_tail 11,(by kernel_rfl)
    change wpList _ _ _ _ _ wr.drew
    clear e1 f1 f3 f4
    go_wp2_with fail
    clear cx cc fc fy cy
    go_roundw
    case rel=>
     have hB:=T0 (p:=p) (by omega)
     refine ⟨j+1,shr x (64-p),us++[c+shl x p],Put cs2 (0+(List.replicate wh 0++us).length) [c+shl x p,shr x (64-p)],by omega,by go_num, ?_,hud.snoc ?_,uO hxB (by omega), ?_, ?_, ?_, ?_⟩
     · show _=_;rw [List.length_append,hul.out];rfl
     · have:=shl_bd (x:=x) (p:=p) (by omega);omega
     · rw [shl_int (by omega) hcp,nI]
       have:=(hbk.setCell (j+wh) (.int .u64 ((c+shl x p:Nat):Int))).setCell (j+wh+1) (.int .u64 ((shr x (64-p):Nat):Int))
       simp only [Put,List.length_append,List.length_replicate,hul.out]
       rw [show 0+(wh+j)=j+wh from by omega]
       exact this
     · have h2:At cs2 0 ((List.replicate wh 0++us)++([c,0]++List.replicate (n-(j+1)) 0)):=by
        rw [show n-j=n-(j+1)+1 from by omega,List.replicate_succ] at hat2
        simpa using hat2
       have:=h2.put_mid (Z:=[c+shl x p,shr x (64-p)]) rfl
       simpa using this
     · exact C9 (B2 (B2 hg _ _) _ _)
     · show _=_
       rw [F8,hul.out,raise_step j _ x c _ p (by omega) hv.out,C0 B xs j (by rw [Hn.out];omega),EX.out]
    case measure=>simp [intOf];omega
  · obtain rfl:j=n:=by omega
    rw [Nat.sub_self,List.replicate_zero] at hat2
    have HF:Hid (Raised w xs k (.returned (.slice (some ⟨w.heap.size,0,none⟩) (j+wh+1) (j+wh+1))) wr):=by
     have hk:=HK.out
     have hc2:c<B:=Nat.lt_of_lt_of_le hcp (by rw [T0 (p:=p) (by omega)];exact Nat.le_mul_of_pos_left _ (Nat.two_pow_pos _))
     refine ⟨_,_,cs2,_,rfl,Nat.le_refl _,hbk,hat2, ?_, ?_, ?_, ?_,B1 hg1 hg (Nat.le_refl _)⟩
     · simp only [List.length_append,List.length_replicate,hul.out,List.length_cons,List.length_nil];omega
     · rw [Hn.out];omega
     · exact (Dig.replicate D6 _).append (hud.snoc hc2)
     · rw [O6,gS,List.length_replicate,Nat.zero_add,F8,hul.out,Nat.mul_comm (B^j) c,hv.out, <- Hn.out,List.take_length,hk,Nat.pow_add,Nat.pow_mul, <- bD]
       rw [Nat.mul_left_comm,Nat.mul_comm (B^wh),Nat.mul_comm (2^p)]
    clear hbk hat2 hv hg hg1 hat hb1
    go_wp2_with fail
    go_ret
    exact HF
theorem low_bd {x y p:Nat} (hx:x<B) (hp:p<64):shr x p+shl y (64-p)<B:=by
 have h1:=shl_bd (x:=y) (p:=64-p) (by omega)
 have h2:shr x p<2^(64-p):=by
  have:=uO (x:=x) (p:=64-p) hx (by omega)
  rwa [show 64-(64-p)=p from by omega] at this
 omega
theorem low_int {x y p:Nat} (hx:x<B) (hp:p<64):bits .or .u64 ((x:Int) / 2^p) (IntKind.u64.wrap ((y:Int)*2^(64-p)))=((shr x p+shl y (64-p):Nat):Int):=by
 rw [nI]
 refine shl_int (by omega) ?_
 have:=uO (x:=x) (p:=64-p) hx (by omega)
 rwa [show 64-(64-p)=p from by omega] at this
theorem shl_mod {y p:Nat} (hp:p<=64):shl y (64-p)=y%2^p*2^(64-p):=by
 unfold shl
 rw [T0 (p:=64-p) (by omega),show 64-(64-p)=p from by omega,Nat.mul_mod_mul_right]
theorem pQ (k v x y s p:Nat) (hp:p<64) (r0:Nat) (h:v*2^p+r0=s+x%2^p*B^k) :
 (v+B^k*(shr x p+shl y (64-p)))*2^p+r0=(s+B^k*x)+y%2^p*B^(k+1):=by
 have e1:x%2^p+2^p*shr x p=x:=Nat.mod_add_div ..
 have e2:=T0 (p:=p) (by omega)
 rw [shl_mod (by omega),Nat.pow_succ]
 generalize B^k=T at *
 rw [e2]
 clear e2
 generalize y%2^p=r at *
 generalize x%2^p=r1 at *
 generalize shr x p=a at *
 generalize 2^p=P at *
 generalize 2^(64-p)=Q at *
 have e3:T*x=T*r1+T*(P*a):=by rw [<- Nat.mul_add,e1]
 grind
def Lowered (w:World) (b off:Nat) (xs:List Nat) (k:Nat) (cs:Array Value) (e:Ending) (w':World):Prop:=
 ∃ (sa:Option Addr) (m cap:Nat) (cs':Array Value) (zs:List Nat),e = .returned (.slice sa m cap)/\m<=cap/\zs.length=m/\m<=xs.length/\Dig B zs/\val B zs=val B xs / 2^k/\(0<m->sa=some ⟨b,off,none⟩)/\(m=0->sa=none)/\Blk w' b cs'/\At cs' off zs/\w.grownBy w' (some b)
theorem low_div {xs:List Nat} (dx:Dig B xs) (wh p:Nat) (h:wh<=xs.length):val B xs / 2^(64*wh+p)=val B (xs.drop wh) / 2^p:=by
 have h1:=L4 B xs wh h
 have h2:=S1 B (xs.take wh) (dx.take wh)
 rw [List.length_take,Nat.min_eq_left h] at h2
 rw [Nat.pow_add,Nat.pow_mul, <- bD, <- Nat.div_div_eq_div_mul,h1,Nat.add_mul_div_left _ _ (Nat.pow_pos D6),Nat.div_eq_of_lt h2,Nat.zero_add]
set_option maxHeartbeats 4000000 in
theorem T8 (w:World) (b off n cap:Nat) (xs:List Nat) (cs:Array Value) (k:Nat) (hn:xs.length=n) (hb:Blk w b cs) (hx:At cs off xs) (dx:Dig B xs) (hcap:n<=cap) (bn:n<=1073741824) (bk:k<=68719476736) :
 Calls Tryz.prog 141 #[.slice (some ⟨b,off,none⟩) n cap,.int .i64 (k:Int)] w (Lowered w b off xs k cs):=by
 have Hn:=Lib.hid hn
 obtain ⟨wh,hwh⟩:∃ wh,wh=k / 64:=⟨_,rfl⟩
 obtain ⟨p,hp⟩:∃ p,p=k%64:=⟨_,rfl⟩
 have hp64:p<64:=by omega
 have hk:k=64*wh+p:=by omega
 have HK:=Lib.hid hk
 have hd1:(k:Int) / 64=(wh:Int):=by omega
 have hd2:(k:Int)%64=(p:Int):=by omega
 have bw:wh<=1073741824:=by omega
 clear hn hk hwh hp
 by_cases hw:n<=wh
 · have HF:Hid (Lowered w b off xs k cs (.returned (.slice none 0 0)) w):=by
    refine ⟨none,0,0,cs,[],rfl,Nat.le_refl _,rfl,Nat.zero_le _,Dig.nil _, ?_,by simp,fun _=>rfl,hb,At.nil _ _,A9 _ _⟩
    have h2:=S1 B xs dx
    rw [Hn.out] at h2
    have h3:B^n<=2^k:=by
     rw [HK.out,Nat.pow_add,Nat.pow_mul, <- bD]
     exact Nat.le_trans (Nat.pow_le_pow_right D6 hw) (Nat.le_mul_of_pos_right _ (Nat.two_pow_pos _))
    rw [Nat.div_eq_of_lt (by omega)];rfl
   go_enter Tryz.func141,Tryz.ntmps141
   go_wp2_with fail
   go_ret
   exact HF
 · have hwn:wh<n:=by omega
   have hdec:decide (n<=wh)=false:=decide_eq_false hw
   clear hw
   go_enter Tryz.func141,Tryz.ntmps141
   go_wp2_with fail
   rw [hd2]
   clear hd1 hd2
   go_loopw [23] (fun i wr=>∃ (j:Nat) (zs:List Nat),j<=n-wh/\i = .int .i64 j/\Hid (zs.length=j)/\Dig B zs/\Blk wr b (Put cs off zs)/\w.grownBy wr (some b)/\Hid (val B zs*2^p+(xs.drop wh).getD 0 0%2^p=val B ((xs.drop wh).take j)+(xs.drop wh).getD j 0%2^p*B^j))
    (fun i _=>n-wh-(intOf i).toNat)
   case atStart=>exact ⟨0,[],Nat.zero_le _,rfl,rfl,Dig.nil _,hb,A9 _ _,by show _=_;simp [val]⟩
   case round=>
    obtain ⟨j,zs,hj,rfl,hzl,hzd,hbk,hg,hv⟩:=hrel
    by_cases hlt:j+wh<n
    · obtain ⟨x,ex⟩:∃ x,xs[j+wh]'(by rw [Hn.out];omega)=x:=⟨_,rfl⟩
      have hxB:x<B:=ex ▸ dx.get _ _
      have cx:wr.cell? ⟨b,off+(j+wh),none⟩=some (.int .u64 (x:Int)):=by
       rw [hbk.cell,J6 _ _ _ _ (by rw [hzl.out];omega),hx (j+wh) (by rw [Hn.out];omega),ex]
      have fx:wr.frozen? ⟨b,off+j,none⟩=false:=hbk.frozen _
      obtain ⟨x0,cx0⟩:∃ y,wr.cell? ⟨b,off+j,none⟩=some (.int .u64 (y:Int)):=⟨_,by
       rw [hbk.cell,J6 _ _ _ _ (by rw [hzl.out];omega)];exact hx j (by rw [Hn.out];omega)⟩
      have EX:=Lib.hid ex
      clear ex
      have e1:IntKind.i64.wrap ((j:Int)+(wh:Int))=(j:Int)+(wh:Int):=IntWalk.i64_in _ (by omega)
      have e2:IntKind.i64.wrap (64-(p:Int))=64-(p:Int):=IntWalk.i64_in _ (by omega)
      have f1:(j:Int)+(wh:Int)<(n:Int):=by omega
      have f3:((j:Int)+(wh:Int)).toNat=j+wh:=by omega
      have f4:(0:Int)<=(j:Int)+(wh:Int):=by omega
      have f5:(j:Int)<(n:Int):=by omega
      have f6:(0:Int)<=64-(p:Int):=by omega
      by_cases hl2:j+1+wh<n
      · obtain ⟨y,ey⟩:∃ y,xs[j+1+wh]'(by rw [Hn.out];omega)=y:=⟨_,rfl⟩
        have cy:wr.cell? ⟨b,off+(j+1+wh),none⟩=some (.int .u64 (y:Int)):=by
         rw [hbk.cell,J6 _ _ _ _ (by rw [hzl.out];omega),hx (j+1+wh) (by rw [Hn.out];omega),ey]
        have EY:=Lib.hid ey
        clear ey
        go_wp2_with fail
        go_still_tail 16,(by kernel_rfl)
        change wpList _ _ _ _ _ wr.drew
        clear e1 e2 f1 f3 f4 f5 f6
        go_wp2_with fail
        clear cx fx cx0 cy
        go_roundw
        case rel=>
         refine ⟨j+1,zs++[shr x p+shl y (64-p)],by omega,by go_num, ?_,hzd.snoc (low_bd hxB hp64), ?_,C9 (B2 hg _ _), ?_⟩
         · show _=_;rw [List.length_append,hzl.out];rfl
         · rw [low_int hxB hp64,P3,hzl.out];exact (hbk.setCell _ _).drew
         · show _=_
           have hY:j<(xs.drop wh).length:=by rw [List.length_drop,Hn.out];omega
           have h1:(xs.drop wh).getD j 0=x:=by rw [<- EX.out];simp [List.getD_eq_getElem?_getD,Hn.out,hlt,Nat.add_comm wh]
           have h2:(xs.drop wh).getD (j+1) 0=y:=by rw [<- EY.out];simp [List.getD_eq_getElem?_getD,Hn.out,hl2,Nat.add_comm wh]
           have hv:=hv.out
           rw [h1] at hv
           rw [F8,hzl.out,h2,G8 B _ j hY,h1]
           exact pQ j _ x y _ p hp64 _ hv
        case measure=>simp [intOf];omega
      · have e0:bits .or .u64 ((x:Int) / 2^p) 0=((shr x p+shl 0 (64-p):Nat):Int):=by
         have:=low_int (y:=0) hxB hp64
         rwa [show IntKind.u64.wrap (((0:Nat):Int)*2^(64-p))=0 from by rw [IntKind.wrap_u64];simp] at this
        have E0:=Lib.hid e0
        clear e0
        go_wp2_with fail
        go_still_tail 16,(by kernel_rfl)
        change wpList _ _ _ _ _ wr.drew
        clear e1 e2 f1 f3 f4 f5 f6
        go_wp2_with fail
        clear cx fx cx0
        go_roundw
        case rel=>
         refine ⟨j+1,zs++[shr x p+shl 0 (64-p)],by omega,by go_num, ?_,hzd.snoc (low_bd hxB hp64), ?_,C9 (B2 hg _ _), ?_⟩
         · show _=_;rw [List.length_append,hzl.out];rfl
         · rw [E0.out,P3,hzl.out];exact (hbk.setCell _ _).drew
         · show _=_
           have hY:j<(xs.drop wh).length:=by rw [List.length_drop,Hn.out];omega
           have h1:(xs.drop wh).getD j 0=x:=by rw [<- EX.out];simp [List.getD_eq_getElem?_getD,Hn.out,hlt,Nat.add_comm wh]
           have h2:(xs.drop wh).getD (j+1) 0=0:=by
            rw [List.getD_eq_getElem?_getD,List.getElem?_eq_none (by rw [List.length_drop,Hn.out];omega)];rfl
           have hv:=hv.out
           rw [h1] at hv
           rw [F8,hzl.out,h2,G8 B _ j hY,h1]
           exact pQ j _ x 0 _ p hp64 _ hv
        case measure=>simp [intOf];omega
    · obtain rfl:j=n-wh:=by omega
      have hsz:off+n<=cs.size:=by
       rcases hx.le with h | h
       · exfalso;have:=Hn.out;rw [h] at this;simp at this;omega
       · rw [Hn.out] at h;exact h
      have HF:Hid (Lowered w b off xs k cs (.returned (.slice (some ⟨b,off,none⟩) (n-wh) cap)) wr):=by
       refine ⟨_,_,_,Put cs off zs,zs,rfl,by omega,hzl.out,by rw [Hn.out];omega,hzd, ?_,fun _=>rfl,fun h=>by omega,hbk,iR _ _ _ (by rw [hzl.out];omega),hg⟩
       have hv:=hv.out
       rw [show (xs.drop wh).take (n-wh)=xs.drop wh from List.take_of_length_le (by rw [List.length_drop,Hn.out];omega)] at hv
       have h2:(xs.drop wh).getD (n-wh) 0=0:=by
        rw [List.getD_eq_getElem?_getD,List.getElem?_eq_none (by rw [List.length_drop,Hn.out];omega)];rfl
       rw [h2,Nat.zero_mod,Nat.zero_mul,Nat.add_zero] at hv
       rw [HK.out,low_div dx wh p (by rw [Hn.out];omega), <- hv,Nat.mul_comm,Nat.mul_add_div (Nat.two_pow_pos _),Nat.div_eq_of_lt (Nat.mod_lt _ (Nat.two_pow_pos _)),Nat.add_zero]
      clear hbk hg hv hzl hzd
      go_wp2_with fail
      go_ret
      exact HF
theorem Lowered.rdo {b off:Nat} {w':World} {sa:Option Addr} {m:Nat} {cs':Array Value} {zs:List Nat} (hl:zs.length=m) (h : 0<m->sa=some ⟨b,off,none⟩) (hb:Blk w' b cs') (ha:At cs' off zs):Rdo w' sa zs:=by
 rcases Nat.eq_zero_or_pos m with h0 | h0
 · exact Or.inl (List.length_eq_zero_iff.1 (hl.trans h0))
 · exact Or.inr ⟨b,off,cs',h h0,hb,ha⟩
theorem fold_tab:(⟨(([0,1,2,2,3,3,3,3,4,4,4,4,4,4,4,4,5,5,5,5,5,5,5,5,5,5,5,5,5,5,5,5,6,6,6,6,6,6,6,6,6,6,6,6,6,6,6,6,6,6,6,6,6,6,6,6,6,6,6,6,6,6,6,6].append [7,7,7,7,7,7,7,7,7,7,7,7,7,7,7,7,7,7,7,7,7,7,7,7,7,7,7,7,7,7,7,7,7,7,7,7,7,7,7,7,7,7,7,7,7,7,7,7,7,7,7,7,7,7,7,7,7,7,7,7,7,7,7,7]).append ([8,8,8,8,8,8,8,8,8,8,8,8,8,8,8,8,8,8,8,8,8,8,8,8,8,8,8,8,8,8,8,8,8,8,8,8,8,8,8,8,8,8,8,8,8,8,8,8,8,8,8,8,8,8,8,8,8,8,8,8,8,8,8,8].append [8,8,8,8,8,8,8,8,8,8,8,8,8,8,8,8,8,8,8,8,8,8,8,8,8,8,8,8,8,8,8,8,8,8,8,8,8,8,8,8,8,8,8,8,8,8,8,8,8,8,8,8,8,8,8,8,8,8,8,8,8,8,8,8])).toArray⟩:ByteArray)=Lib.len8tab:=by decide +kernel
theorem tab_at (b:Int) (h0 : 0<=b) (h1:b<=255) (hs:b.toNat<Lib.len8tab.size):((Lib.len8tab[b.toNat]'hs).toNat:Int)=(Lib.bitLen b.toNat:Int):=by
 have:=Lib.len8_of b h0 h1
 rw [<- this]
 simp [Lib.len8,hs]
theorem cK (k b:Int) (n:Nat) (h0 : 0<=b) (h1:b<=255) (hs:b.toNat<Lib.len8tab.size) (hk : 0<=k) (hk2:k<=56) (e:(n:Int)=k+(Lib.bitLen b.toNat:Int)):wrap64 (k+wrap64 ((Lib.len8tab[b.toNat]'hs).toNat:Int))=(n:Int):=by
 have l:=Lib.bitLen_le8' b h0 h1
 rw [tab_at b h0 h1 hs,IntWalk.wrap64_in (Lib.bitLen b.toNat:Int) ⟨by omega,by omega⟩,IntWalk.wrap64_in _ ⟨by omega,by omega⟩,e]
theorem tab_one (b:Int) (h0 : 0<=b) (h1:b<=255) (hs:b.toNat<Lib.len8tab.size):wrap64 ((Lib.len8tab[b.toNat]'hs).toNat:Int)=(Lib.bitLen b.toNat:Int):=by
 have l:=Lib.bitLen_le8' b h0 h1
 rw [tab_at b h0 h1 hs,IntWalk.wrap64_in (Lib.bitLen b.toNat:Int) ⟨by omega,by omega⟩]
theorem tab_two (b:Int) (h0 : 0<=b) (h1:b<=255) (hs:b.toNat<Lib.len8tab.size):wrap64 (wrap64 ((Lib.len8tab[b.toNat]'hs).toNat:Int))=(Lib.bitLen b.toNat:Int):=by
 have l:=Lib.bitLen_le8' b h0 h1
 rw [tab_one b h0 h1 hs,IntWalk.wrap64_in (Lib.bitLen b.toNat:Int) ⟨by omega,by omega⟩]
set_option maxHeartbeats 4000000 in
theorem len64_int (x:Int) (h0 : 0<=x) (h1:x<=18446744073709551615) (w:World) :
 Calls Tryz.prog 147 #[.int .u64 x] w fun e w'=>e = .returned (.int .i64 (Lib.bitLen x.toNat:Int))/\w=w':=by
 have hsz:=Lib.len8tab_size
 go_enter Tryz.func147,Tryz.ntmps147
 rw [fold_tab]
 go_wp2
 all_goals (go_ret;refine ⟨congrArg Ending.returned (congrArg (Value.int IntKind.i64) ?_),rfl⟩)
 all_goals first
  | (have e:(x / 4294967296 / 65536 / 256).toNat=x.toNat / 72057594037927936:=by omega
     have s:=Lib.bitLen_shift56 x.toNat (by omega) (by omega)
     exact cK 56 (x / 4294967296 / 65536 / 256) _ (by omega) (by omega) _ (by omega) (by omega) (by rw [e,s];omega))
  | (have e:(x / 4294967296 / 65536).toNat=x.toNat / 281474976710656:=by omega
     have s:=Lib.bitLen_shift48 x.toNat (by omega) (by omega)
     exact cK 48 (x / 4294967296 / 65536) _ (by omega) (by omega) _ (by omega) (by omega) (by rw [e,s];omega))
  | (have e:(x / 4294967296 / 256).toNat=x.toNat / 1099511627776:=by omega
     have s:=Lib.bitLen_shift40 x.toNat (by omega) (by omega)
     exact cK 40 (x / 4294967296 / 256) _ (by omega) (by omega) _ (by omega) (by omega) (by rw [e,s];omega))
  | (have e:(x / 4294967296).toNat=x.toNat / 4294967296:=by omega
     have s:=Lib.bitLen_shift32 x.toNat (by omega) (by omega)
     exact cK 32 (x / 4294967296) _ (by omega) (by omega) _ (by omega) (by omega) (by rw [e,s];omega))
  | (have e:(x / 65536 / 256).toNat=x.toNat / 16777216:=by omega
     have s:=Lib.bitLen_shift24 x.toNat (by omega) (by omega)
     exact cK 24 (x / 65536 / 256) _ (by omega) (by omega) _ (by omega) (by omega) (by rw [e,s];omega))
  | (have e:(x / 65536).toNat=x.toNat / 65536:=by omega
     have s:=Lib.bitLen_shift16 x.toNat (by omega) (by omega)
     exact cK 16 (x / 65536) _ (by omega) (by omega) _ (by omega) (by omega) (by rw [e,s];omega))
  | (have e:(x / 256).toNat=x.toNat / 256:=by omega
     have s:=Lib.bitLen_shift8 x.toNat (by omega) (by omega)
     exact cK 8 (x / 256) _ (by omega) (by omega) _ (by omega) (by omega) (by rw [e,s];omega))
  | exact tab_one x (by omega) (by omega) _
  | exact tab_two x (by omega) (by omega) _
theorem tH (x:Nat) (hx:x<B) (w:World) :
 Calls Tryz.prog 147 #[.int .u64 (x:Int)] w fun e w'=>e = .returned (.int .i64 (Lib.bitLen x:Int))/\w=w':=by
 have hx:x<18446744073709551616:=hx
 have:=len64_int (x:Int) (by omega) (by omega) w
 rwa [Int.toNat_natCast] at this
theorem W8:∀ (n x:Nat),x<n->x≠0->x<2^64->2^(Lib.bitLen x-1)<=x/\x<2^Lib.bitLen x/\1<=Lib.bitLen x:=by
 intro n
 induction n with
 | zero=>intro x h;omega
 | succ n ih=>
   intro x h h0 hx
   rw [Lib.bitLen_half x h0 hx]
   by_cases h2:x / 2=0
   · have:x=1:=by omega
     subst this
     decide
   · obtain ⟨h3,h4,h5⟩:=ih (x / 2) (by omega) h2 (by omega)
     refine ⟨?_, ?_,by omega⟩
     · rw [show 1+Lib.bitLen (x / 2)-1=(Lib.bitLen (x / 2)-1)+1 from by omega,Nat.pow_succ];omega
     · rw [Nat.add_comm,Nat.pow_succ];omega
theorem gH (x:Nat) (hx:x<B):Lib.bitLen x<=64:=by
 by_cases h:x=0
 · subst h;decide
 · obtain ⟨h1,_,h3⟩:=W8 (x+1) x (by omega) h (by rw [<- bD];exact hx)
   rcases Nat.lt_or_ge 64 (Lib.bitLen x) with h4 | h4
   · have : 2^64<=2^(Lib.bitLen x-1):=Nat.pow_le_pow_right (by omega) (by omega)
     rw [<- bD] at this;omega
   · exact h4
set_option maxHeartbeats 1000000 in
theorem pS (x:Nat) (hx:x<B) (w:World) :
 Calls Tryz.prog 168 #[.int .u64 (x:Int)] w fun e w'=>e = .returned (.int .i64 ((64-Lib.bitLen x:Nat):Int))/\w=w':=by
 have hl:=gH x hx
 go_enter Tryz.func168,Tryz.ntmps168
 go_wp2_with fail
 refine (tH x hx _).mono ?_
 rintro e w' ⟨rfl,rfl⟩
 go_wp2_with fail
 go_ret
 exact ⟨congrArg Ending.returned (congrArg (Value.int IntKind.i64) (by omega)),rfl⟩
end Go.Proofs.YtdgdmicbbfoghaaGreatDoor
